/- sort.partialInsertionSort at the queue's line. -/
import Derived.Test.YtdindhmbofddoaaSa
import Derived.Deep.CutRange
import Derived.Deep.DeepCutAuto
namespace Go.Proofs.Ytdindhmbofddoaa
open Go.RowKit
set_option linter.unusedSimpArgs false

/-- the one before lo, if there is one, does not come behind those from lo to hi. -/
def Bl (a : Int) (lo hi : Nat) (l : List Wt) : Prop := 0 < lo → ∀ k, lo ≤ k → k < hi → les a (gt l k) (gt l (lo - 1)) = false
theorem Bl.perm {a : Int} {lo hi : Nat} {l m : List Wt} (h : Bl a lo hi l) (p : PI lo hi l m) : Bl a lo hi m := fun h0 k k0 k1 => by
  rw [p.out (lo - 1) (by omega)]
  exact p.all (fun x => les a x (gt l (lo - 1)) = false) (fun k a b => h h0 k a b) k k0 k1
theorem Srtd.snoc {a : Int} {lo i : Nat} {m : List Wt} (h : Srtd a lo i m) (hi : lo < i) (e : les a (gt m i) (gt m (i - 1)) = false) : Srtd a lo (i + 1) m := fun p q h0 h1 h2 => by
  by_cases c : q = i
  · subst c
    by_cases c2 : p = q - 1
    · subst c2; exact e
    · exact les_neg (h p (q - 1) h0 (by omega) (by omega)) e
  · exact h p q h0 h1 (by omega)
theorem Srtd.same {a : Int} {lo i : Nat} {m n : List Wt} (h : Srtd a lo i m) (e : ∀ k, k < i → gt n k = gt m k) : Srtd a lo i n := fun p q h0 h1 h2 => by
  rw [e p (by omega), e q h2]; exact h p q h0 h1 h2
theorem ins_swap {a : Int} {lo i : Nat} {m : List Wt} (h : Srtd a lo (i + 1) m) (hm : i + 1 < m.length) : Ins a lo i i (swp m (i + 1) i) := fun p q h0 h1 h2 h3 => by
  have S := swp_gt (l := m) (i := i + 1) (j := i) (by omega) (by omega)
  rw [S p, S q, if_neg (by omega), if_neg (by omega), if_neg (by omega), if_neg (by omega)]
  exact h p q h0 h1 (by omega)

set_option maxHeartbeats 2000000 in
set_option maxRecDepth 100000 in
theorem partial_is (b o : Nat) (a : Int) (g cap lo hi : Nat) (l : List Wt) (w : World) (h : LR b o a g cap w l) (hlh : lo < hi) (hh : hi ≤ l.length) (hsz : l.length ≤ 1000000) (hbl : Bl a lo hi l) :
    Calls Try.prog 53 #[.iface 62 (.pointer (some ⟨b, o, none⟩)), .int .i64 lo, .int .i64 hi] w fun e w' => ∃ t : Bool, e = .returned (.bool t) ∧ ∃ m, LS b o a g cap lo hi w l w' m ∧ (t = true → Srtd a lo hi m) := by
  have H := Lib.hid h
  have HL := Lib.hid (And.intro hh hsz)
  have BL := Lib.hid hbl
  have mL := sl_less b o
  have mS := sl_swap b o
  have hb1 : hi ≤ 1000000 := by omega
  have q0 : IntKind.i64.wrap ((lo : Int) + 1) = ((lo + 1 : Nat) : Int) := by simp [IntKind.wrap_i64]; omega
  have q00 : IntKind.i64.wrap ((hi : Int) - (lo : Int)) = (hi : Int) - (lo : Int) := by simp [IntKind.wrap_i64]; omega
  clear h hh hsz hbl
  go_enter Try.func53, Try.ntmps53
  go_wp2_with fail
  go_loopw [7, 8] (fun s7 s8 wr => ∃ (i s : Nat) (m : List Wt), s7 = .int .i64 i ∧ s8 = .int .i64 s ∧ lo + 1 ≤ i ∧ i ≤ hi ∧ s ≤ 5 ∧ LS b o a g cap lo hi w l wr m ∧ Srtd a lo i m) (fun _ s8 _ => 5 - (intOf s8).toNat)
  case atStart => exact ⟨lo + 1, 0, l, by first | rfl | go_num, rfl, Nat.le_refl _, by omega, by omega, LS.start H.out, Srtd.small a (Nat.le_refl _) l⟩
  case round =>
    obtain ⟨i, s, m, rfl, rfl, hi0, hi1, hs5, hs, ht⟩ := hrel
    have S := Lib.hid hs
    have T := Lib.hid ht
    have ML := Lib.hid hs.len
    clear hs ht
    by_cases cs : s < 5
    · have d0 : decide ((s : Int) < 5) = true := by simp; omega
      have d0n : decide (s < 5) = true := by simp [cs]
      have qs : IntKind.i64.wrap ((s : Int) + 1) = ((s + 1 : Nat) : Int) := by simp [IntKind.wrap_i64]; omega
      go_wp2_with fail
      go_loopw [7] (fun s7 wi => ∃ i : Nat, s7 = .int .i64 i ∧ lo + 1 ≤ i ∧ i ≤ hi ∧ LS b o a g cap lo hi w l wi m ∧ Srtd a lo i m) (fun s7 _ => hi - (intOf s7).toNat)
      case atStart => exact ⟨i, rfl, hi0, hi1, S.out, T.out⟩
      case round =>
        obtain ⟨i, rfl, hi0, hi1, hs, ht⟩ := hrel
        have SI := Lib.hid hs
        have TI := Lib.hid ht
        clear hs ht
        obtain ⟨k, rfl⟩ : ∃ k, i = k + 1 := ⟨i - 1, by omega⟩
        have q1 : IntKind.i64.wrap (((k + 1 : Nat) : Int) - 1) = (k : Int) := by simp [IntKind.wrap_i64]; omega
        have q3 : IntKind.i64.wrap (((k + 1 : Nat) : Int) - (lo : Int)) = ((k + 1 : Nat) : Int) - (lo : Int) := by simp [IntKind.wrap_i64]; omega
        have q4 : IntKind.i64.wrap ((hi : Int) - ((k + 1 : Nat) : Int)) = (hi : Int) - ((k + 1 : Nat) : Int) := by simp [IntKind.wrap_i64]; omega
        obtain ⟨t, ht⟩ : ∃ t, (decide (k + 1 < hi) && !les a (gt m (k + 1)) (gt m k)) = t := ⟨_, rfl⟩
        have TT := Lib.hid ht
        clear ht
        obtain ⟨i, hik⟩ : ∃ i, k + 1 = i := ⟨_, rfl⟩
        have IK := Lib.hid hik
        rw [hik] at q1 q3 q4 hi0 hi1 TI TT ⊢
        have q2 : IntKind.i64.wrap ((i : Int) + 1) = ((i + 1 : Nat) : Int) := by simp [IntKind.wrap_i64]; omega
        clear hik
        go_upto_region 5 with fail
        go_cut [27] from 17 to 28 (fun s wx => s = .bool t ∧ LS b o a g cap lo hi w l wx m)
        case first =>
          by_cases ci : i < hi
          · have d1 : decide (i < hi) = true := by simp [ci]
            obtain ⟨u, hu⟩ : ∃ u, les a (gt m i) (gt m k) = u := ⟨_, rfl⟩
            have C := Lib.hid (less_at b o a g cap m i k u _ SI.out.r (by have := ML.out; have := HL.out; omega) (by have := ML.out; have := HL.out; have := IK.out; omega) hu)
            have tu : Hid (t = !u) := (by have := TT.out; rw [hu] at this; simpa [ci] using this.symm : t = !u)
            clear hu
            go_wp2_with fail
            refine C.out.mono ?_
            rintro _ wq ⟨rfl, hw⟩
            have SQ := Lib.hid (SI.out.later hw)
            clear hw
            go_wp2_with fail
            go_meet
            case rel => exact ⟨by rw [tu.out], SQ.out⟩
          · have d1 : decide (i < hi) = false := by simp; omega
            have tf : t = false := by have := TT.out; simp [ci] at this; exact this
            go_wp2_with fail
            go_meet
            case rel => exact ⟨by rw [tf], SI.out⟩
        case rest =>
          obtain ⟨rfl, hs⟩ := hcut
          have SC := Lib.hid hs
          clear hs
          cases t with
          | true =>
            go_wp2_with fail
            have T2 := TT.out
            simp only [Bool.and_eq_true, decide_eq_true_eq, Bool.not_eq_true'] at T2
            have hik := IK.out
            exact ⟨⟨i + 1, by first | rfl | go_num, by omega, by omega, SC.out, TI.out.snoc (by omega) (by rw [show i - 1 = k by omega]; exact T2.2)⟩, by simp [intOf]; omega⟩
          | false =>
            have EE : Hid (i < hi → les a (gt m i) (gt m k) = true) := (fun c => by have := TT.out; simpa [c] using this : i < hi → les a (gt m i) (gt m k) = true)
            by_cases ce : i = hi
            · subst ce
              have d2 : ((i : Int) == (i : Int)) = true := by simp
              go_wp2_with fail
              go_ret
              exact ⟨true, rfl, m, SC.out, fun _ => TI.out⟩
            · have d2 : ((i : Int) == (hi : Int)) = false := by simp; omega
              by_cases c50 : (hi : Int) - (lo : Int) < 50
              · have d3 : decide ((hi : Int) - (lo : Int) < 50) = true := by simp [c50]
                go_wp2_with fail
                go_ret
                exact ⟨false, rfl, m, SC.out, fun e => by cases e⟩
              · have d3 : decide ((hi : Int) - (lo : Int) < 50) = false := by simp; omega
                have hih : i < hi := by omega
                have I0 := Lib.hid (show Ins a lo k k (swp m i k) from by have := IK.out; subst this; exact ins_swap TI.out (by have := ML.out; have := HL.out; omega))
                have W := Lib.hid (fun w h => swap_at b o a g cap lo hi m i k w h (by have := ML.out; have := HL.out; omega) (by omega) hih (by have := IK.out; omega) (by have := IK.out; omega))
                go_wp2_with fail
                refine (W.out _ SC.out.r).mono ?_
                rintro _ wz ⟨rfl, hz⟩
                have SZ := Lib.hid (SC.out.trans hz)
                have LZ := Lib.hid (SC.out.trans hz).len
                clear hz
                obtain ⟨mz, hmz⟩ : ∃ mz, swp m i k = mz := ⟨_, rfl⟩
                rw [hmz] at SZ LZ I0
                clear hmz
                by_cases cl : (2 : Int) ≤ (i : Int) - (lo : Int)
                · have d4 : decide ((2 : Int) ≤ (i : Int) - (lo : Int)) = true := by simp [cl]
                  go_wp2_with fail
                  go_loopw [9] (fun s9 wj => ∃ (j : Nat) (n : List Wt), s9 = .int .i64 j ∧ lo ≤ j ∧ j ≤ k ∧ LS b o a g cap lo hi w l wj n ∧ Ins a lo k j n) (fun s9 _ => (intOf s9).toNat)
                  case atStart => exact ⟨k, mz, rfl, by have := IK.out; omega, Nat.le_refl _, SZ.out, I0.out⟩
                  case round =>
                    obtain ⟨j, n, rfl, hj0, hj1, hs, ht⟩ := hrel
                    have SL := Lib.hid hs
                    have TL := Lib.hid ht
                    have NL := Lib.hid hs.len
                    clear hs ht
                    by_cases cj : j = 0
                    · have TE : Hid (Srtd a lo i n) := (by
                        have e1 := IK.out
                        have e2 : j = lo := by omega
                        subst e2; subst e1; exact TL.out.low : Srtd a lo i n)
                      have d6 : decide ((1 : Int) ≤ (j : Int)) = false := by simp; omega
                      have d6n : decide (1 ≤ j) = false := by simp; omega
                      clear cj
                      by_cases cr : (2 : Int) ≤ (hi : Int) - (i : Int)
                      · have d5 : decide ((2 : Int) ≤ (hi : Int) - (i : Int)) = true := by simp [cr]
                        go_wp2_with fail
                        go_loopw [10] (fun s10 wj => ∃ (j : Nat) (n : List Wt), s10 = .int .i64 j ∧ i + 1 ≤ j ∧ j ≤ hi ∧ LS b o a g cap lo hi w l wj n ∧ Srtd a lo i n) (fun s10 _ => hi - (intOf s10).toNat)
                        case atStart => exact ⟨i + 1, n, by first | rfl | go_num, Nat.le_refl _, by omega, SL.out, TE.out⟩
                        case round =>
                          obtain ⟨j, n, rfl, hj0, hj1, hs, ht⟩ := hrel
                          have SJa := Lib.hid hs
                          have TJa := Lib.hid ht
                          have NJa := Lib.hid hs.len
                          clear hs ht
                          by_cases cj : j < hi
                          · have d6 : decide (j < hi) = true := by simp [cj]
                            obtain ⟨jp, rfl⟩ : ∃ jp, j = jp + 1 := ⟨j - 1, by omega⟩
                            have q5 : IntKind.i64.wrap (((jp + 1 : Nat) : Int) - 1) = (jp : Int) := by simp [IntKind.wrap_i64]; omega
                            have q6 : IntKind.i64.wrap (((jp + 1 : Nat) : Int) + 1) = ((jp + 2 : Nat) : Int) := by simp [IntKind.wrap_i64]; omega
                            obtain ⟨u, hu⟩ : ∃ u, les a (gt n (jp + 1)) (gt n jp) = u := ⟨_, rfl⟩
                            have C := Lib.hid (less_at b o a g cap n (jp + 1) jp u _ SJa.out.r (by have := NJa.out; have := HL.out; omega) (by have := NJa.out; have := HL.out; omega) hu)
                            have W2 := Lib.hid (fun w h => swap_at b o a g cap lo hi n (jp + 1) jp w h (by have := NJa.out; have := HL.out; omega) (by omega) cj (by omega) (by omega))
                            have SS : Hid (Srtd a lo i (swp n (jp + 1) jp)) := (TJa.out.same (fun q hq => by rw [swp_gt (by have := NJa.out; have := HL.out; omega) (by have := NJa.out; have := HL.out; omega), if_neg (by omega), if_neg (by omega)]) : Srtd a lo i (swp n (jp + 1) jp))
                            obtain ⟨j, hj⟩ : ∃ j, jp + 1 = j := ⟨_, rfl⟩
                            have HJ := Lib.hid hj
                            rw [hj] at C W2 SS q5 q6 d6 ⊢
                            clear hu hj
                            cases u with
                            | false =>
                              go_wp2_with fail
                              refine C.out.mono ?_
                              rintro _ wq ⟨rfl, hw⟩
                              have SQ := Lib.hid (SJa.out.later hw)
                              clear hw
                              go_wp2_with fail
                              exact ⟨⟨i, s + 1, _, rfl, by first | rfl | go_num, hi0, hi1, by omega, SQ.out, TJa.out⟩, by simp [intOf]; omega⟩
                            | true =>
                              go_wp2_with fail
                              refine C.out.mono ?_
                              rintro _ wq ⟨rfl, hw⟩
                              have SQ := Lib.hid (SJa.out.later hw)
                              clear hw
                              go_wp2_with fail
                              refine (W2.out _ SQ.out.r).mono ?_
                              rintro _ wv ⟨rfl, hz⟩
                              have SV := Lib.hid (SQ.out.trans hz)
                              clear hz
                              go_wp2_with fail
                              have hj := HJ.out
                              go_roundw
                              case rel => exact ⟨jp + 2, _, by first | rfl | go_num, by omega, by omega, SV.out, SS.out⟩
                              case measure => simp [intOf]; omega
                          · have d6 : decide (j < hi) = false := by simp; omega
                            go_wp2_with fail
                            exact ⟨⟨i, s + 1, _, rfl, by first | rfl | go_num, hi0, hi1, by omega, SJa.out, TJa.out⟩, by simp [intOf]; omega⟩
                      · have d5 : decide ((2 : Int) ≤ (hi : Int) - (i : Int)) = false := by simp; omega
                        go_wp2_with fail
                        exact ⟨⟨i, s + 1, _, rfl, by first | rfl | go_num, hi0, hi1, by omega, SL.out, TE.out⟩, by simp [intOf]; omega⟩
                    · obtain ⟨jp, rfl⟩ : ∃ jp, j = jp + 1 := ⟨j - 1, by omega⟩
                      have d6 : decide ((1 : Int) ≤ ((jp + 1 : Nat) : Int)) = true := by simp; omega
                      have d6n : decide (1 ≤ jp + 1) = true := by simp
                      have q7 : IntKind.i64.wrap (((jp + 1 : Nat) : Int) - 1) = (jp : Int) := by simp [IntKind.wrap_i64]; have := IK.out; omega
                      obtain ⟨u, hu⟩ : ∃ u, les a (gt n (jp + 1)) (gt n jp) = u := ⟨_, rfl⟩
                      have C := Lib.hid (less_at b o a g cap n (jp + 1) jp u _ SL.out.r (by have := NL.out; have := HL.out; have := IK.out; omega) (by have := NL.out; have := HL.out; have := IK.out; omega) hu)
                      have HU := Lib.hid hu
                      have hjp1 : jp + 1 ≤ 1000000 := by have := IK.out; omega
                      obtain ⟨j, hj⟩ : ∃ j, jp + 1 = j := ⟨_, rfl⟩
                      have HJ := Lib.hid hj
                      rw [hj] at C HU q7 d6 d6n hj0 hj1 TL hjp1 ⊢
                      clear hu hj
                      cases u with
                      | false =>
                        have TE : Hid (Srtd a lo i n) := (by
                          have e1 := IK.out
                          have e2 := HJ.out
                          by_cases c : j = lo
                          · subst c; subst e1; exact TL.out.low
                          · subst e1; exact TL.out.stop (by omega) hj1 (by rw [show j - 1 = jp by omega]; exact HU.out) : Srtd a lo i n)
                        go_wp2_with fail
                        refine C.out.mono ?_
                        rintro _ wq ⟨rfl, hw⟩
                        have SQ := Lib.hid (SL.out.later hw)
                        clear hw
                        by_cases cr : (2 : Int) ≤ (hi : Int) - (i : Int)
                        · have d5 : decide ((2 : Int) ≤ (hi : Int) - (i : Int)) = true := by simp [cr]
                          go_wp2_with fail
                          go_loopw [10] (fun s10 wj => ∃ (j : Nat) (n : List Wt), s10 = .int .i64 j ∧ i + 1 ≤ j ∧ j ≤ hi ∧ LS b o a g cap lo hi w l wj n ∧ Srtd a lo i n) (fun s10 _ => hi - (intOf s10).toNat)
                          case atStart => exact ⟨i + 1, n, by first | rfl | go_num, Nat.le_refl _, by omega, SQ.out, TE.out⟩
                          case round =>
                            obtain ⟨j, n, rfl, hj0, hj1, hs, ht⟩ := hrel
                            have SJb := Lib.hid hs
                            have TJb := Lib.hid ht
                            have NJb := Lib.hid hs.len
                            clear hs ht
                            by_cases cj : j < hi
                            · have d6 : decide (j < hi) = true := by simp [cj]
                              obtain ⟨jp, rfl⟩ : ∃ jp, j = jp + 1 := ⟨j - 1, by omega⟩
                              have q5 : IntKind.i64.wrap (((jp + 1 : Nat) : Int) - 1) = (jp : Int) := by simp [IntKind.wrap_i64]; omega
                              have q6 : IntKind.i64.wrap (((jp + 1 : Nat) : Int) + 1) = ((jp + 2 : Nat) : Int) := by simp [IntKind.wrap_i64]; omega
                              obtain ⟨u, hu⟩ : ∃ u, les a (gt n (jp + 1)) (gt n jp) = u := ⟨_, rfl⟩
                              have C := Lib.hid (less_at b o a g cap n (jp + 1) jp u _ SJb.out.r (by have := NJb.out; have := HL.out; omega) (by have := NJb.out; have := HL.out; omega) hu)
                              have W2 := Lib.hid (fun w h => swap_at b o a g cap lo hi n (jp + 1) jp w h (by have := NJb.out; have := HL.out; omega) (by omega) cj (by omega) (by omega))
                              have SS : Hid (Srtd a lo i (swp n (jp + 1) jp)) := (TJb.out.same (fun q hq => by rw [swp_gt (by have := NJb.out; have := HL.out; omega) (by have := NJb.out; have := HL.out; omega), if_neg (by omega), if_neg (by omega)]) : Srtd a lo i (swp n (jp + 1) jp))
                              obtain ⟨j, hj⟩ : ∃ j, jp + 1 = j := ⟨_, rfl⟩
                              have HJ := Lib.hid hj
                              rw [hj] at C W2 SS q5 q6 d6 ⊢
                              clear hu hj
                              cases u with
                              | false =>
                                go_wp2_with fail
                                refine C.out.mono ?_
                                rintro _ wq ⟨rfl, hw⟩
                                have SQ := Lib.hid (SJb.out.later hw)
                                clear hw
                                go_wp2_with fail
                                exact ⟨⟨i, s + 1, _, rfl, by first | rfl | go_num, hi0, hi1, by omega, SQ.out, TJb.out⟩, by simp [intOf]; omega⟩
                              | true =>
                                go_wp2_with fail
                                refine C.out.mono ?_
                                rintro _ wq ⟨rfl, hw⟩
                                have SQ := Lib.hid (SJb.out.later hw)
                                clear hw
                                go_wp2_with fail
                                refine (W2.out _ SQ.out.r).mono ?_
                                rintro _ wv ⟨rfl, hz⟩
                                have SV := Lib.hid (SQ.out.trans hz)
                                clear hz
                                go_wp2_with fail
                                have hj := HJ.out
                                go_roundw
                                case rel => exact ⟨jp + 2, _, by first | rfl | go_num, by omega, by omega, SV.out, SS.out⟩
                                case measure => simp [intOf]; omega
                            · have d6 : decide (j < hi) = false := by simp; omega
                              go_wp2_with fail
                              exact ⟨⟨i, s + 1, _, rfl, by first | rfl | go_num, hi0, hi1, by omega, SJb.out, TJb.out⟩, by simp [intOf]; omega⟩
                        · have d5 : decide ((2 : Int) ≤ (hi : Int) - (i : Int)) = false := by simp; omega
                          go_wp2_with fail
                          exact ⟨⟨i, s + 1, _, rfl, by first | rfl | go_num, hi0, hi1, by omega, SQ.out, TE.out⟩, by simp [intOf]; omega⟩
                      | true =>
                        have hne : lo < j := by
                          by_cases c : j = lo
                          · exfalso
                            have e2 := HJ.out
                            have := (BL.out.perm SL.out.p) (by omega) j (by omega) (by have := IK.out; omega)
                            rw [show lo - 1 = jp by omega, HU.out] at this
                            cases this
                          · omega
                        have TS : Hid (Ins a lo k jp (swp n j jp)) := (by
                          have e2 := HJ.out
                          have := TL.out.step hne hj1 (by have := NL.out; have := HL.out; have := IK.out; omega) (by rw [show j - 1 = jp by omega]; exact HU.out)
                          rwa [show j - 1 = jp by omega] at this : Ins a lo k jp (swp n j jp))
                        have W2 := Lib.hid (fun w h => swap_at b o a g cap lo hi n j jp w h (by have := NL.out; have := HL.out; omega) (by omega) (by have := IK.out; omega) (by have := HJ.out; omega) (by have := HJ.out; have := IK.out; omega))
                        go_wp2_with fail
                        refine C.out.mono ?_
                        rintro _ wq ⟨rfl, hw⟩
                        have SQ := Lib.hid (SL.out.later hw)
                        clear hw
                        go_wp2_with fail
                        refine (W2.out _ SQ.out.r).mono ?_
                        rintro _ wv ⟨rfl, hz⟩
                        have SV := Lib.hid (SQ.out.trans hz)
                        clear hz
                        go_wp2_with fail
                        have hj := HJ.out
                        exact ⟨⟨jp, _, by first | rfl | go_num, by omega, by omega, SV.out, TS.out⟩, by simp [intOf]; omega⟩
                · have d4 : decide ((2 : Int) ≤ (i : Int) - (lo : Int)) = false := by simp; omega
                  have TE : Hid (Srtd a lo i mz) := (Srtd.small a (by have := IK.out; omega) mz : Srtd a lo i mz)
                  by_cases cr : (2 : Int) ≤ (hi : Int) - (i : Int)
                  · have d5 : decide ((2 : Int) ≤ (hi : Int) - (i : Int)) = true := by simp [cr]
                    go_wp2_with fail
                    go_loopw [10] (fun s10 wj => ∃ (j : Nat) (n : List Wt), s10 = .int .i64 j ∧ i + 1 ≤ j ∧ j ≤ hi ∧ LS b o a g cap lo hi w l wj n ∧ Srtd a lo i n) (fun s10 _ => hi - (intOf s10).toNat)
                    case atStart => exact ⟨i + 1, mz, by first | rfl | go_num, Nat.le_refl _, by omega, SZ.out, TE.out⟩
                    case round =>
                      obtain ⟨j, n, rfl, hj0, hj1, hs, ht⟩ := hrel
                      have SJc := Lib.hid hs
                      have TJc := Lib.hid ht
                      have NJc := Lib.hid hs.len
                      clear hs ht
                      by_cases cj : j < hi
                      · have d6 : decide (j < hi) = true := by simp [cj]
                        obtain ⟨jp, rfl⟩ : ∃ jp, j = jp + 1 := ⟨j - 1, by omega⟩
                        have q5 : IntKind.i64.wrap (((jp + 1 : Nat) : Int) - 1) = (jp : Int) := by simp [IntKind.wrap_i64]; omega
                        have q6 : IntKind.i64.wrap (((jp + 1 : Nat) : Int) + 1) = ((jp + 2 : Nat) : Int) := by simp [IntKind.wrap_i64]; omega
                        obtain ⟨u, hu⟩ : ∃ u, les a (gt n (jp + 1)) (gt n jp) = u := ⟨_, rfl⟩
                        have C := Lib.hid (less_at b o a g cap n (jp + 1) jp u _ SJc.out.r (by have := NJc.out; have := HL.out; omega) (by have := NJc.out; have := HL.out; omega) hu)
                        have W2 := Lib.hid (fun w h => swap_at b o a g cap lo hi n (jp + 1) jp w h (by have := NJc.out; have := HL.out; omega) (by omega) cj (by omega) (by omega))
                        have SS : Hid (Srtd a lo i (swp n (jp + 1) jp)) := (TJc.out.same (fun q hq => by rw [swp_gt (by have := NJc.out; have := HL.out; omega) (by have := NJc.out; have := HL.out; omega), if_neg (by omega), if_neg (by omega)]) : Srtd a lo i (swp n (jp + 1) jp))
                        obtain ⟨j, hj⟩ : ∃ j, jp + 1 = j := ⟨_, rfl⟩
                        have HJ := Lib.hid hj
                        rw [hj] at C W2 SS q5 q6 d6 ⊢
                        clear hu hj
                        cases u with
                        | false =>
                          go_wp2_with fail
                          refine C.out.mono ?_
                          rintro _ wq ⟨rfl, hw⟩
                          have SQ := Lib.hid (SJc.out.later hw)
                          clear hw
                          go_wp2_with fail
                          exact ⟨⟨i, s + 1, _, rfl, by first | rfl | go_num, hi0, hi1, by omega, SQ.out, TJc.out⟩, by simp [intOf]; omega⟩
                        | true =>
                          go_wp2_with fail
                          refine C.out.mono ?_
                          rintro _ wq ⟨rfl, hw⟩
                          have SQ := Lib.hid (SJc.out.later hw)
                          clear hw
                          go_wp2_with fail
                          refine (W2.out _ SQ.out.r).mono ?_
                          rintro _ wv ⟨rfl, hz⟩
                          have SV := Lib.hid (SQ.out.trans hz)
                          clear hz
                          go_wp2_with fail
                          have hj := HJ.out
                          go_roundw
                          case rel => exact ⟨jp + 2, _, by first | rfl | go_num, by omega, by omega, SV.out, SS.out⟩
                          case measure => simp [intOf]; omega
                      · have d6 : decide (j < hi) = false := by simp; omega
                        go_wp2_with fail
                        exact ⟨⟨i, s + 1, _, rfl, by first | rfl | go_num, hi0, hi1, by omega, SJc.out, TJc.out⟩, by simp [intOf]; omega⟩
                  · have d5 : decide ((2 : Int) ≤ (hi : Int) - (i : Int)) = false := by simp; omega
                    go_wp2_with fail
                    exact ⟨⟨i, s + 1, _, rfl, by first | rfl | go_num, hi0, hi1, by omega, SZ.out, TE.out⟩, by simp [intOf]; omega⟩
    · have d0 : decide ((s : Int) < 5) = false := by simp; omega
      have d0n : decide (s < 5) = false := by simp; omega
      go_wp2_with fail
      go_ret
      exact ⟨false, rfl, m, S.out, fun e => by cases e⟩
end Go.Proofs.Ytdindhmbofddoaa
