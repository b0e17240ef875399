/- sort.pdqsort at the queue's line. -/
import Derived.Test.YtlopijcpnfkcgaaGreatQSf
import Derived.Test.YtlopijcpnfkcgaaGreatQSg
import Derived.Test.YtlopijcpnfkcgaaGreatQQi
namespace Go.Proofs.YtlopijcpnfkcgaaGreat
namespace QQ
open Go.RowKit
set_option linter.unusedSimpArgs false

/-- who brings the part from p to q in order has brought all in order. -/
def Cont (a : Int) (lo hi p q : Nat) (m : List Wt) : Prop := ∀ n, PI p q m n → Srtd a p q n → Srtd a lo hi n
theorem Cont.perm {a : Int} {lo hi p q : Nat} {m n : List Wt} (h : Cont a lo hi p q m) (k : PI p q m n) : Cont a lo hi p q n := fun x hx hs => h x (k.trans hx) hs
theorem Bl.less {a : Int} {lo hi hi' : Nat} {l : List Wt} (h : Bl a lo hi l) (k : hi' ≤ hi) : Bl a lo hi' l := fun h0 k' a0 a1 => h h0 k' a0 (by omega)
theorem Parted.bl {a : Int} {lo hi mid : Nat} {m : List Wt} (h : Parted a lo hi mid m) : Bl a (mid + 1) hi m := fun _ k k0 k1 => h.ge k (by omega) k1
theorem Parted.left {a : Int} {lo hi mid : Nat} {m n : List Wt} (h : Parted a lo hi mid m) (p : PI lo mid m n) : Parted a lo hi mid n :=
  ⟨h.ge0, h.lt1, fun k k0 k1 => by rw [p.out mid (Or.inr (Nat.le_refl _))]; exact p.all (fun x => les a x (gt m mid) = true) (fun k a0 a1 => h.lt k a0 a1) k k0 k1,
    fun k k0 k1 => by rw [p.out mid (Or.inr (Nat.le_refl _)), p.out k (Or.inr (by omega))]; exact h.ge k k0 k1⟩
theorem Parted.right {a : Int} {lo hi mid : Nat} {m n : List Wt} (h : Parted a lo hi mid m) (p : PI (mid + 1) hi m n) : Parted a lo hi mid n :=
  ⟨h.ge0, h.lt1, fun k k0 k1 => by rw [p.out mid (Or.inl (by omega)), p.out k (Or.inl (by omega))]; exact h.lt k k0 k1,
    fun k k0 k1 => by rw [p.out mid (Or.inl (by omega))]; exact p.all (fun x => les a x (gt m mid) = false) (fun k a0 a1 => h.ge k (by omega) a1) k (by omega) k1⟩
theorem Srtd.off {a : Int} {lo hi p q : Nat} {m n : List Wt} (h : Srtd a lo hi m) (k : PI p q m n) (hd : hi ≤ p ∨ q ≤ lo) : Srtd a lo hi n := fun i j h0 h1 h2 => by
  rw [k.out i (by omega), k.out j (by omega)]; exact h i j h0 h1 h2
theorem Parted.join {a : Int} {lo hi mid : Nat} {n : List Wt} (h : Parted a lo hi mid n) (s1 : Srtd a lo mid n) (s2 : Srtd a (mid + 1) hi n) : Srtd a lo hi n := fun i j h0 h1 h2 => by
  by_cases c1 : j < mid
  · exact s1 i j h0 h1 c1
  · by_cases c2 : mid < i
    · exact s2 i j (by omega) h1 h2
    · by_cases c3 : i = mid
      · subst c3; exact h.ge j h1 h2
      · have e1 := les_asym (h.lt i h0 (by omega))
        by_cases c4 : j = mid
        · subst c4; exact e1
        · exact les_neg e1 (h.ge j (by omega) h2)
theorem Cont.goR {a : Int} {lo hi p q mid : Nat} {m m2 : List Wt} (h : Cont a lo hi p q m) (t : Parted a p q mid m) (k : PI p mid m m2) (s : Srtd a p mid m2) : Cont a lo hi (mid + 1) q m2 := fun n hn hs => by
  refine h n ((k.mono (Nat.le_refl _) (by have := t.lt1; omega)).trans (hn.mono (by have := t.ge0; omega) (Nat.le_refl _))) ?_
  exact ((t.left k).right hn).join (s.off hn (Or.inl (by omega))) hs
theorem Cont.goL {a : Int} {lo hi p q mid : Nat} {m m2 : List Wt} (h : Cont a lo hi p q m) (t : Parted a p q mid m) (k : PI (mid + 1) q m m2) (s : Srtd a (mid + 1) q m2) : Cont a lo hi p mid m2 := fun n hn hs => by
  refine h n ((k.mono (by have := t.ge0; omega) (Nat.le_refl _)).trans (hn.mono (Nat.le_refl _) (by have := t.lt1; omega))) ?_
  exact ((t.right k).left hn).join hs (s.off hn (Or.inr (by omega)))

set_option maxHeartbeats 4000000 in
set_option maxRecDepth 100000 in
theorem pdq_is (b o : Nat) (a : Int) (g cap : Nat) : ∀ (N lo hi lim : Nat) (l : List Wt) (w : World), hi - lo < N → LR b o a g cap w l → lo ≤ hi → hi ≤ l.length → l.length ≤ 1000000 → (l.map Wt.id).Nodup → Bl a lo hi l → lim ≤ 1000 →
    Calls Tryz.prog 75 #[.iface 109 (.pointer (some ⟨b, o, none⟩)), .int .i64 lo, .int .i64 hi, .int .i64 lim] w fun e w' => e = .returned (.tuple #[]) ∧ ∃ m, LS b o a g cap lo hi w l w' m ∧ Srtd a lo hi m := by
  intro N
  induction N with
  | zero => intro _ _ _ _ _ h; exact absurd h (Nat.not_lt_zero _)
  | succ N ih =>
    intro lo hi lim l w hN h hlh hh hsz hids hbl hlim
    have IH := Lib.hid ih
    have H := Lib.hid h
    have HL := Lib.hid (And.intro hh (And.intro hsz (And.intro hids hN)))
    have BL0 := Lib.hid hbl
    have mL := sl_less b o
    have hb1 : hi ≤ 1000000 := by omega
    clear h hh hsz hids hbl ih hN
    go_enter Tryz.func75, Tryz.ntmps75
    go_wp2_with fail
    go_loopw [1, 2, 3, 8, 9] (fun s1 s2 s3 s8 s9 wr => ∃ (p q lm : Nat) (wb wp : Bool) (m : List Wt), s1 = .int .i64 p ∧ s2 = .int .i64 q ∧ s3 = .int .i64 lm ∧ s8 = .bool wb ∧ s9 = .bool wp ∧ lo ≤ p ∧ p ≤ q ∧ q ≤ hi ∧ lm ≤ 1000 ∧ LS b o a g cap lo hi w l wr m ∧ Bl a p q m ∧ Cont a lo hi p q m) (fun s1 s2 _ _ _ _ => (intOf s2 - intOf s1).toNat)
    case atStart => exact ⟨lo, hi, lim, true, true, l, rfl, rfl, rfl, rfl, rfl, Nat.le_refl _, hlh, Nat.le_refl _, hlim, LS.start H.out, BL0.out, fun n _ hs => hs⟩
    case round =>
      obtain ⟨p, q, lm, wb, wp, m, rfl, rfl, rfl, rfl, rfl, hp, hpq, hq, hlm, hs, hb, hc⟩ := hrel
      have S := Lib.hid hs
      have B := Lib.hid (And.intro hb hc)
      have ML := Lib.hid hs.len
      clear hs hb hc
      have q0 : IntKind.i64.wrap ((q : Int) - (p : Int)) = ((q - p : Nat) : Int) := by simp [IntKind.wrap_i64]; omega
      obtain ⟨n, hn⟩ : ∃ n, q - p = n := ⟨_, rfl⟩
      have HN := Lib.hid hn
      rw [hn] at q0
      have hn1 : n ≤ 1000000 := by omega
      clear hn
      by_cases c12 : n ≤ 12
      · have d1 : decide (n ≤ 12) = true := by simp [c12]
        have d1i : decide ((n : Int) ≤ 12) = true := by simp; omega
        have C := Lib.hid (insertion_is b o a g cap p q m _ S.out.r hpq (by have := ML.out; have := HL.out.1; omega) (by have := ML.out; have := HL.out.2.1; omega))
        go_wp2_with fail
        refine C.out.mono ?_
        rintro _ w1 ⟨rfl, m1, h1, s1⟩
        have R := Lib.hid (And.intro (S.out.trans (h1.mono hp hq)) (B.out.2 m1 h1.p s1))
        clear h1 s1
        go_wp2_with fail
        exact bodyPost_ret (results_none rfl _ _ _) rfl ⟨rfl, m1, R.out⟩
      · have d1 : decide (n ≤ 12) = false := by simp; omega
        have d1i : decide ((n : Int) ≤ 12) = false := by simp; omega
        by_cases c0 : lm = 0
        · have d2 : ((lm : Int) == 0) = true := by simp; omega
          have C := Lib.hid (heapsort_is b o a g cap p q m _ S.out.r hpq (by have := ML.out; have := HL.out.1; omega) (by have := ML.out; have := HL.out.2.1; omega))
          go_wp2_with fail
          refine C.out.mono ?_
          rintro _ w1 ⟨rfl, m1, h1, s1⟩
          have R := Lib.hid (And.intro (S.out.trans (h1.mono hp hq)) (B.out.2 m1 h1.p s1))
          clear h1 s1
          go_wp2_with fail
          exact bodyPost_ret (results_none rfl _ _ _) rfl ⟨rfl, m1, R.out⟩
        · have d2 : ((lm : Int) == 0) = false := by simp; omega
          have q1 : IntKind.i64.wrap ((lm : Int) - 1) = ((lm - 1 : Nat) : Int) := by simp [IntKind.wrap_i64]; omega
          go_upto_if 35 with fail
          go_cut [3] from 36 to 42 (fun s3 wx => ∃ (lm2 : Nat) (m2 : List Wt), s3 = .int .i64 lm2 ∧ lm2 ≤ 1000 ∧ LS b o a g cap lo hi w l wx m2 ∧ PI p q m m2)
          case first =>
            have C := Lib.hid (break_is b o a g cap p q m _ S.out.r hpq (by have := ML.out; have := HL.out.1; omega) (by have := ML.out; have := HL.out.2.1; omega))
            cases wb with
            | false =>
              go_wp2_with fail
              refine C.out.mono ?_
              rintro _ w1 ⟨rfl, m1, h1⟩
              have R := Lib.hid (And.intro (S.out.trans (h1.mono hp hq)) h1.p)
              clear h1
              go_wp2_with fail
              go_meet
              case rel => exact ⟨lm - 1, m1, by first | rfl | go_num, by omega, R.out⟩
            | true =>
              go_wp2_with fail
              go_meet
              case rel => exact ⟨lm, m, rfl, hlm, S.out, PI.refl _ _ _⟩
          case rest =>
            obtain ⟨lm2, m2, rfl, hlm2, hs, hpi⟩ := hcut
            have S2 := Lib.hid hs
            have B2 := Lib.hid (And.intro (B.out.1.perm hpi) (B.out.2.perm hpi))
            have ML2 := Lib.hid hs.len
            clear hs hpi
            have C := Lib.hid (pivot_is b o a g cap p q m2 _ S2.out.r (by have := HN.out; omega) (by have := ML2.out; have := HL.out.1; omega) (by have := ML2.out; have := HL.out.2.1; omega))
            go_upto_region 10 with fail
            go_wp2_with fail
            refine C.out.mono ?_
            rintro _ w3 ⟨pv, ht, rfl, hpv, ht2, hg⟩
            have S3 := Lib.hid (S2.out.later hg)
            clear hg
            have q2 : IntKind.i64.wrap ((q : Int) - 1) = ((q - 1 : Nat) : Int) := by simp [IntKind.wrap_i64]; omega
            have q3 : IntKind.i64.wrap ((pv : Int) - (p : Int)) = ((pv - p : Nat) : Int) := by simp [IntKind.wrap_i64]; omega
            have q4 : IntKind.i64.wrap (((q - 1 : Nat) : Int) - ((pv - p : Nat) : Int)) = ((q - 1 - (pv - p) : Nat) : Int) := by simp [IntKind.wrap_i64]; omega
            obtain ⟨pv2, hpv2⟩ : ∃ c, q - 1 - (pv - p) = c := ⟨_, rfl⟩
            have PV2 := Lib.hid (show p ≤ pv2 ∧ pv2 < q from ⟨by omega, by omega⟩)
            rw [hpv2] at q4
            clear hpv2
            obtain ⟨u, hu⟩ : ∃ u, ((ht : Int) == 2) = u := ⟨_, rfl⟩
            go_upto_if 50 with fail
            go_cut [11, 12] from 51 to 61 (fun s11 s12 wx => ∃ (pv3 h3 : Nat) (m3 : List Wt), s11 = .int .i64 pv3 ∧ s12 = .int .i64 h3 ∧ p ≤ pv3 ∧ pv3 < q ∧ LS b o a g cap lo hi w l wx m3 ∧ PI p q m2 m3)
            case first =>
              have C := Lib.hid (reverse_is b o a g cap p q m2 _ S3.out.r (by have := HN.out; omega) (by have := ML2.out; have := HL.out.1; omega) (by have := ML2.out; have := HL.out.2.1; omega))
              cases u with
              | true =>
                go_wp2_with fail
                refine C.out.mono ?_
                rintro _ w1 ⟨rfl, m1, h1⟩
                have R := Lib.hid (And.intro (S3.out.trans (h1.mono hp hq)) h1.p)
                clear h1
                go_wp2_with fail
                go_meet
                case rel => exact ⟨pv2, 1, m1, by first | rfl | go_num, rfl, PV2.out.1, PV2.out.2, R.out⟩
              | false =>
                go_wp2_with fail
                go_meet
                case rel => exact ⟨pv, ht, m2, rfl, rfl, hpv.1, hpv.2, S3.out, PI.refl _ _ _⟩
            case rest =>
              obtain ⟨pv3, h3, m3, rfl, rfl, hpv3, hpv4, hs, hpi⟩ := hcut
              have S4 := Lib.hid hs
              have B4 := Lib.hid (And.intro (B2.out.1.perm hpi) (B2.out.2.perm hpi))
              have ML4 := Lib.hid hs.len
              clear hs hpi hu q2 q3 q4 C
              go_upto_region 15 with fail
              go_cut [68] from 61 to 69 (fun s wx => ∃ u : Bool, s = .bool u ∧ Grw wc wx)
              case first =>
                obtain ⟨v, hv⟩ : ∃ v, ((h3 : Int) == 1) = v := ⟨_, rfl⟩
                cases wb with
                | false =>
                  go_wp2_with fail
                  go_meet
                  case rel => exact ⟨false, rfl, Grw.rfl' _⟩
                | true =>
                  cases wp with
                  | false =>
                    go_wp2_with fail
                    go_meet
                    case rel => exact ⟨false, rfl, Grw.rfl' _⟩
                  | true =>
                    go_wp2_with fail
                    go_meet
                    case rel => exact ⟨v, rfl, Grw.rfl' _⟩
              case rest =>
                obtain ⟨u, rfl, hg⟩ := hcut
                have S5 := Lib.hid (S4.out.later hg)
                clear hg
                cases u with
                | true =>
                  have C := Lib.hid (partial_is b o a g cap p q m3 _ S5.out.r (by have := HN.out; omega) (by have := ML4.out; have := HL.out.1; omega) (by have := ML4.out; have := HL.out.2.1; omega) B4.out.1)
                  go_wp2_with fail
                  refine C.out.mono ?_
                  rintro _ w6 ⟨t, rfl, m6, h6, s6⟩
                  have S6 := Lib.hid (S5.out.trans (h6.mono hp hq))
                  cases t with
                  | true =>
                    have R := Lib.hid (B4.out.2 m6 h6.p (s6 rfl))
                    clear h6 s6
                    go_wp2_with fail
                    exact bodyPost_ret (results_none rfl _ _ _) rfl ⟨rfl, m6, S6.out, R.out⟩
                  | false =>
                    have B6 := Lib.hid (And.intro (B4.out.1.perm h6.p) (B4.out.2.perm h6.p))
                    have ML6 := Lib.hid S6.out.len
                    clear h6 s6
                    have qp : IntKind.i64.wrap ((p : Int) - 1) = (p : Int) - 1 := by simp [IntKind.wrap_i64]; omega
                    go_upto_region 17 with fail
                    go_cut [82] from 73 to 83 (fun s wx => s = .bool false ∧ LS b o a g cap lo hi w l wx m6)
                    case first =>
                      by_cases cp : p = 0
                      · have d5 : decide (0 < p) = false := by simp; omega
                        have d5i : decide ((0 : Int) < (p : Int)) = false := by simp; omega
                        go_wp2_with fail
                        go_meet
                        case rel => exact ⟨rfl, S6.out⟩
                      · obtain ⟨p0, hp0⟩ : ∃ p0, p = p0 + 1 := ⟨p - 1, by omega⟩
                        have d5 : decide (0 < p) = true := by simp; omega
                        have d5i : decide ((0 : Int) < (p : Int)) = true := by simp; omega
                        have q6 : (p : Int) - 1 = (p0 : Int) := by omega
                        have e : les a (gt m6 p0) (gt m6 pv3) = true := by
                          have hm := ML6.out
                          have hl := HL.out.1
                          refine les_tot ((B6.out.1 (by omega) pv3 hpv3 hpv4).symm ▸ (by rw [show p - 1 = p0 by omega] : les a (gt m6 pv3) (gt m6 (p - 1)) = les a (gt m6 pv3) (gt m6 p0)).symm) (fun e => ?_)
                          have := ids_inj (((S6.out.p.perm.map Wt.id).nodup_iff).2 HL.out.2.2.1) (show pv3 < m6.length by omega) (show p0 < m6.length by omega) e
                          omega
                        have C := Lib.hid (less_at b o a g cap m6 p0 pv3 true _ S6.out.r (by have := ML6.out; have := HL.out.1; omega) (by have := ML6.out; have := HL.out.1; omega) e)
                        rw [q6] at qp
                        clear e hp0
                        go_wp2_with fail
                        refine C.out.mono ?_
                        rintro _ w7 ⟨rfl, hw⟩
                        have S7 := Lib.hid (S6.out.later hw)
                        clear hw
                        go_wp2_with fail
                        go_meet
                        case rel => exact ⟨rfl, S7.out⟩
                    case rest =>
                      obtain ⟨rfl, hs⟩ := hcut
                      have S8 := Lib.hid hs
                      clear hs qp
                      have C := Lib.hid (partition_is b o a g cap p q pv3 m6 _ S8.out.r hpv3 hpv4 (by have := ML6.out; have := HL.out.1; omega) (by have := ML6.out; have := HL.out.2.1; omega))
                      go_wp2_with fail
                      refine C.out.mono ?_
                      rintro _ w9 ⟨mid, t9, rfl, m9, h9, hpt⟩
                      have S9 := Lib.hid (S8.out.trans (h9.mono hp hq))
                      have B9 := Lib.hid (And.intro (B6.out.1.perm h9.p) (B6.out.2.perm h9.p))
                      have ML9 := Lib.hid (S8.out.trans (h9.mono hp hq)).len
                      have PT := Lib.hid hpt
                      have hm0 := hpt.ge0
                      have hm1 := hpt.lt1
                      clear h9 hpt
                      have q10 : IntKind.i64.wrap ((mid : Int) - (p : Int)) = ((mid - p : Nat) : Int) := by simp [IntKind.wrap_i64]; omega
                      have q11 : IntKind.i64.wrap ((q : Int) - (mid : Int)) = ((q - mid : Nat) : Int) := by simp [IntKind.wrap_i64]; omega
                      have q12 : IntKind.i64.wrap ((mid : Int) + 1) = ((mid + 1 : Nat) : Int) := by simp [IntKind.wrap_i64]; omega
                      obtain ⟨r8, hr8⟩ : ∃ r : Nat, n / 8 = r := ⟨_, rfl⟩
                      have q13 : Int.tdiv (n : Int) 8 = (r8 : Int) := by rw [Int.tdiv_eq_ediv_of_nonneg (by omega)]; omega
                      have q14 : (n : Int) / 8 = (r8 : Int) := by omega
                      have q15 : IntKind.i64.wrap (r8 : Int) = (r8 : Int) := by simp [IntKind.wrap_i64]; omega
                      obtain ⟨ll, hll⟩ : ∃ c, mid - p = c := ⟨_, rfl⟩
                      obtain ⟨rl, hrl⟩ : ∃ c, q - mid = c := ⟨_, rfl⟩
                      obtain ⟨mid1, hmid1⟩ : ∃ c, mid + 1 = c := ⟨_, rfl⟩
                      have HM := Lib.hid hmid1
                      rw [hll] at q10
                      rw [hrl] at q11
                      rw [hmid1] at q12
                      have NI := Lib.hid (show (m9.map Wt.id).Nodup from ((S9.out.p.perm.map Wt.id).nodup_iff).2 HL.out.2.2.1)
                      clear hr8 hll hrl hmid1
                      by_cases cl : ll < rl
                      · have d7 : decide (ll < rl) = true := by simp [cl]
                        obtain ⟨t8, ht8⟩ : ∃ t, decide (r8 ≤ ll) = t := ⟨_, rfl⟩
                        have RC := Lib.hid (IH.out p mid lm2 m9 w9 (by have := HL.out.2.2.2; omega) S9.out.r hm0 (by have := ML9.out; have := HL.out.1; omega) (by have := ML9.out; have := HL.out.2.1; omega) NI.out (B9.out.1.less (by omega)) hlm2)
                        go_wp2_with fail
                        refine RC.out.mono ?_
                        rintro _ wa ⟨rfl, ma, ha, sa⟩
                        have SA := Lib.hid (S9.out.trans (ha.mono hp (by omega)))
                        have BA := Lib.hid (And.intro (PT.out.left ha.p).bl (B9.out.2.goR PT.out ha.p sa))
                        clear ha sa
                        go_wp2_with fail
                        have hm := HM.out
                        subst hm
                        exact ⟨⟨mid + 1, q, lm2, t8, t9, ma, by first | rfl | go_num, rfl, rfl, rfl, rfl, by omega, by omega, hq, hlm2, SA.out, BA.out⟩, by simp [intOf]; omega⟩
                      · have d7 : decide (ll < rl) = false := by simp; omega
                        obtain ⟨t8, ht8⟩ : ∃ t, decide (r8 ≤ rl) = t := ⟨_, rfl⟩
                        have RC := Lib.hid (IH.out mid1 q lm2 m9 w9 (by have := HM.out; have := HL.out.2.2.2; omega) S9.out.r (by have := HM.out; omega) (by have := ML9.out; have := HL.out.1; omega) (by have := ML9.out; have := HL.out.2.1; omega) NI.out (by have := PT.out.bl; rw [HM.out] at this; exact this) hlm2)
                        go_wp2_with fail
                        refine RC.out.mono ?_
                        rintro _ wa ⟨rfl, ma, ha, sa⟩
                        have hm := HM.out
                        subst hm
                        have SA := Lib.hid (S9.out.trans (ha.mono (by omega) hq))
                        have BA := Lib.hid (And.intro ((B9.out.1.perm (ha.p.mono (by omega) (Nat.le_refl _))).less (by omega : mid ≤ q)) (B9.out.2.goL PT.out ha.p sa))
                        clear ha sa
                        go_wp2_with fail
                        exact ⟨⟨p, mid, lm2, t8, t9, ma, rfl, rfl, rfl, rfl, rfl, hp, hm0, by omega, hlm2, SA.out, BA.out⟩, by simp [intOf]; omega⟩
                | false =>
                  have qp : IntKind.i64.wrap ((p : Int) - 1) = (p : Int) - 1 := by simp [IntKind.wrap_i64]; omega
                  go_upto_region 17 with fail
                  go_cut [82] from 73 to 83 (fun s wx => s = .bool false ∧ LS b o a g cap lo hi w l wx m3)
                  case first =>
                    by_cases cp : p = 0
                    · have d5 : decide (0 < p) = false := by simp; omega
                      have d5i : decide ((0 : Int) < (p : Int)) = false := by simp; omega
                      go_wp2_with fail
                      go_meet
                      case rel => exact ⟨rfl, S5.out⟩
                    · obtain ⟨p0, hp0⟩ : ∃ p0, p = p0 + 1 := ⟨p - 1, by omega⟩
                      have d5 : decide (0 < p) = true := by simp; omega
                      have d5i : decide ((0 : Int) < (p : Int)) = true := by simp; omega
                      have q6 : (p : Int) - 1 = (p0 : Int) := by omega
                      have e : les a (gt m3 p0) (gt m3 pv3) = true := by
                        have hm := ML4.out
                        have hl := HL.out.1
                        refine les_tot ((B4.out.1 (by omega) pv3 hpv3 hpv4).symm ▸ (by rw [show p - 1 = p0 by omega] : les a (gt m3 pv3) (gt m3 (p - 1)) = les a (gt m3 pv3) (gt m3 p0)).symm) (fun e => ?_)
                        have := ids_inj (((S5.out.p.perm.map Wt.id).nodup_iff).2 HL.out.2.2.1) (show pv3 < m3.length by omega) (show p0 < m3.length by omega) e
                        omega
                      have C := Lib.hid (less_at b o a g cap m3 p0 pv3 true _ S5.out.r (by have := ML4.out; have := HL.out.1; omega) (by have := ML4.out; have := HL.out.1; omega) e)
                      rw [q6] at qp
                      clear e hp0
                      go_wp2_with fail
                      refine C.out.mono ?_
                      rintro _ w7 ⟨rfl, hw⟩
                      have S7 := Lib.hid (S5.out.later hw)
                      clear hw
                      go_wp2_with fail
                      go_meet
                      case rel => exact ⟨rfl, S7.out⟩
                  case rest =>
                    obtain ⟨rfl, hs⟩ := hcut
                    have S8 := Lib.hid hs
                    clear hs qp
                    have C := Lib.hid (partition_is b o a g cap p q pv3 m3 _ S8.out.r hpv3 hpv4 (by have := ML4.out; have := HL.out.1; omega) (by have := ML4.out; have := HL.out.2.1; omega))
                    go_wp2_with fail
                    refine C.out.mono ?_
                    rintro _ w9 ⟨mid, t9, rfl, m9, h9, hpt⟩
                    have S9 := Lib.hid (S8.out.trans (h9.mono hp hq))
                    have B9 := Lib.hid (And.intro (B4.out.1.perm h9.p) (B4.out.2.perm h9.p))
                    have ML9 := Lib.hid (S8.out.trans (h9.mono hp hq)).len
                    have PT := Lib.hid hpt
                    have hm0 := hpt.ge0
                    have hm1 := hpt.lt1
                    clear h9 hpt
                    have q10 : IntKind.i64.wrap ((mid : Int) - (p : Int)) = ((mid - p : Nat) : Int) := by simp [IntKind.wrap_i64]; omega
                    have q11 : IntKind.i64.wrap ((q : Int) - (mid : Int)) = ((q - mid : Nat) : Int) := by simp [IntKind.wrap_i64]; omega
                    have q12 : IntKind.i64.wrap ((mid : Int) + 1) = ((mid + 1 : Nat) : Int) := by simp [IntKind.wrap_i64]; omega
                    obtain ⟨r8, hr8⟩ : ∃ r : Nat, n / 8 = r := ⟨_, rfl⟩
                    have q13 : Int.tdiv (n : Int) 8 = (r8 : Int) := by rw [Int.tdiv_eq_ediv_of_nonneg (by omega)]; omega
                    have q14 : (n : Int) / 8 = (r8 : Int) := by omega
                    have q15 : IntKind.i64.wrap (r8 : Int) = (r8 : Int) := by simp [IntKind.wrap_i64]; omega
                    obtain ⟨ll, hll⟩ : ∃ c, mid - p = c := ⟨_, rfl⟩
                    obtain ⟨rl, hrl⟩ : ∃ c, q - mid = c := ⟨_, rfl⟩
                    obtain ⟨mid1, hmid1⟩ : ∃ c, mid + 1 = c := ⟨_, rfl⟩
                    have HM := Lib.hid hmid1
                    rw [hll] at q10
                    rw [hrl] at q11
                    rw [hmid1] at q12
                    have NI := Lib.hid (show (m9.map Wt.id).Nodup from ((S9.out.p.perm.map Wt.id).nodup_iff).2 HL.out.2.2.1)
                    clear hr8 hll hrl hmid1
                    by_cases cl : ll < rl
                    · have d7 : decide (ll < rl) = true := by simp [cl]
                      obtain ⟨t8, ht8⟩ : ∃ t, decide (r8 ≤ ll) = t := ⟨_, rfl⟩
                      have RC := Lib.hid (IH.out p mid lm2 m9 w9 (by have := HL.out.2.2.2; omega) S9.out.r hm0 (by have := ML9.out; have := HL.out.1; omega) (by have := ML9.out; have := HL.out.2.1; omega) NI.out (B9.out.1.less (by omega)) hlm2)
                      go_wp2_with fail
                      refine RC.out.mono ?_
                      rintro _ wa ⟨rfl, ma, ha, sa⟩
                      have SA := Lib.hid (S9.out.trans (ha.mono hp (by omega)))
                      have BA := Lib.hid (And.intro (PT.out.left ha.p).bl (B9.out.2.goR PT.out ha.p sa))
                      clear ha sa
                      go_wp2_with fail
                      have hm := HM.out
                      subst hm
                      exact ⟨⟨mid + 1, q, lm2, t8, t9, ma, by first | rfl | go_num, rfl, rfl, rfl, rfl, by omega, by omega, hq, hlm2, SA.out, BA.out⟩, by simp [intOf]; omega⟩
                    · have d7 : decide (ll < rl) = false := by simp; omega
                      obtain ⟨t8, ht8⟩ : ∃ t, decide (r8 ≤ rl) = t := ⟨_, rfl⟩
                      have RC := Lib.hid (IH.out mid1 q lm2 m9 w9 (by have := HM.out; have := HL.out.2.2.2; omega) S9.out.r (by have := HM.out; omega) (by have := ML9.out; have := HL.out.1; omega) (by have := ML9.out; have := HL.out.2.1; omega) NI.out (by have := PT.out.bl; rw [HM.out] at this; exact this) hlm2)
                      go_wp2_with fail
                      refine RC.out.mono ?_
                      rintro _ wa ⟨rfl, ma, ha, sa⟩
                      have hm := HM.out
                      subst hm
                      have SA := Lib.hid (S9.out.trans (ha.mono (by omega) hq))
                      have BA := Lib.hid (And.intro ((B9.out.1.perm (ha.p.mono (by omega) (Nat.le_refl _))).less (by omega : mid ≤ q)) (B9.out.2.goL PT.out ha.p sa))
                      clear ha sa
                      go_wp2_with fail
                      exact ⟨⟨p, mid, lm2, t8, t9, ma, rfl, rfl, rfl, rfl, rfl, hp, hm0, by omega, hlm2, SA.out, BA.out⟩, by simp [intOf]; omega⟩
end QQ
end Go.Proofs.YtlopijcpnfkcgaaGreat
