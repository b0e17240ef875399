/- sort.partition at the queue's line. -/
import Derived.Test.YtdindhmbofddoaaSa
import Derived.Deep.CutRange
import Derived.Deep.DeepCutAuto
namespace Go.Proofs.Ytdindhmbofddoaa
open Go.RowKit
set_option linter.unusedSimpArgs false

/-- up to i they come ahead of the one at lo, from behind j on they do not. -/
structure Pt (a : Int) (lo hi i j : Nat) (m : List Wt) : Prop where
  lt : ∀ k, lo < k → k < i → les a (gt m k) (gt m lo) = true
  ge : ∀ k, j < k → k < hi → les a (gt m k) (gt m lo) = false
theorem Pt.up {a : Int} {lo hi i j : Nat} {m : List Wt} (h : Pt a lo hi i j m) (e : les a (gt m i) (gt m lo) = true) : Pt a lo hi (i + 1) j m :=
  ⟨fun k h0 h1 => by
    by_cases c : k = i
    · subst c; exact e
    · exact h.lt k h0 (by omega), h.ge⟩
theorem Pt.down {a : Int} {lo hi i j : Nat} {m : List Wt} (h : Pt a lo hi i (j + 1) m) (e : les a (gt m (j + 1)) (gt m lo) = false) : Pt a lo hi i j m :=
  ⟨h.lt, fun k h0 h1 => by
    by_cases c : k = j + 1
    · subst c; exact e
    · exact h.ge k (by omega) h1⟩
theorem Pt.swap {a : Int} {lo hi i j : Nat} {m : List Wt} (h : Pt a lo hi i (j + 1) m) (h0 : lo < i) (hij : i ≤ j + 1) (hj : j + 1 < hi) (hm : hi ≤ m.length) (e1 : les a (gt m i) (gt m lo) = false) (e2 : les a (gt m (j + 1)) (gt m lo) = true) : Pt a lo hi (i + 1) j (swp m i (j + 1)) := by
  have S := swp_gt (l := m) (i := i) (j := j + 1) (by omega) (by omega)
  have L : gt (swp m i (j + 1)) lo = gt m lo := by rw [S lo, if_neg (by omega), if_neg (by omega)]
  refine ⟨fun k k0 k1 => ?_, fun k k0 k1 => ?_⟩
  · rw [L, S k]
    by_cases c : k = j + 1
    · exfalso
      have : i = j + 1 := by omega
      rw [this, e2] at e1; cases e1
    · rw [if_neg c]
      by_cases c2 : k = i
      · rw [if_pos c2]; exact e2
      · rw [if_neg c2]; exact h.lt k k0 (by omega)
  · rw [L, S k]
    by_cases c : k = j + 1
    · rw [if_pos c]; exact e1
    · rw [if_neg c, if_neg (by omega)]; exact h.ge k (by omega) k1
/-- parted at mid. -/
structure Parted (a : Int) (lo hi mid : Nat) (m : List Wt) : Prop where
  ge0 : lo ≤ mid
  lt1 : mid < hi
  lt : ∀ k, lo ≤ k → k < mid → les a (gt m k) (gt m mid) = true
  ge : ∀ k, mid < k → k < hi → les a (gt m k) (gt m mid) = false
theorem Pt.done {a : Int} {lo hi i j : Nat} {m : List Wt} (h : Pt a lo hi i j m) (h0 : lo ≤ j) (hij : j < i) (hj : j < hi) (hm : hi ≤ m.length) : Parted a lo hi j (swp m j lo) := by
  have S := swp_gt (l := m) (i := j) (j := lo) (by omega) (by omega)
  have J : gt (swp m j lo) j = gt m lo := by
    rw [S j]
    by_cases c : j = lo
    · subst c; rw [if_pos rfl]
    · rw [if_neg c, if_pos rfl]
  refine ⟨h0, hj, fun k k0 k1 => ?_, fun k k0 k1 => ?_⟩
  · rw [J, S k]
    by_cases c : k = lo
    · rw [if_pos c]; exact h.lt j (by omega) hij
    · rw [if_neg c, if_neg (by omega)]; exact h.lt k (by omega) (by omega)
  · rw [J, S k, if_neg (by omega), if_neg (by omega)]; exact h.ge k k0 k1

set_option maxHeartbeats 1000000 in
set_option maxRecDepth 100000 in
theorem partition_is (b o : Nat) (a : Int) (g cap lo hi pv : Nat) (l : List Wt) (w : World) (h : LR b o a g cap w l) (h0 : lo ≤ pv) (h1 : pv < hi) (hh : hi ≤ l.length) (hsz : l.length ≤ 1000000) :
    Calls Try.prog 55 #[.iface 62 (.pointer (some ⟨b, o, none⟩)), .int .i64 lo, .int .i64 hi, .int .i64 pv] w fun e w' => ∃ (mid : Nat) (t : Bool), e = .returned (.tuple #[.int .i64 mid, .bool t]) ∧ ∃ m, LS b o a g cap lo hi w l w' m ∧ Parted a lo hi mid m := by
  have H := Lib.hid h
  have HL := Lib.hid (And.intro hh hsz)
  have mL := sl_less b o
  have mS := sl_swap b o
  have hb1 : hi ≤ 1000000 := by omega
  have hlh : lo < hi := by omega
  have q0 : IntKind.i64.wrap ((lo : Int) + 1) = ((lo + 1 : Nat) : Int) := by simp [IntKind.wrap_i64]; omega
  have q1 : IntKind.i64.wrap ((hi : Int) - 1) = ((hi - 1 : Nat) : Int) := by simp [IntKind.wrap_i64]; omega
  have W0 := Lib.hid (swap_at b o a g cap lo hi l lo pv w h hh (Nat.le_refl _) hlh h0 h1)
  clear h hh hsz h0 h1
  go_enter Try.func55, Try.ntmps55
  go_wp2_with fail
  refine W0.out.mono ?_
  rintro _ w1 ⟨rfl, hs⟩
  obtain ⟨m0, hm0⟩ : ∃ m, swp l lo pv = m := ⟨_, rfl⟩
  rw [hm0] at hs
  have S0 := Lib.hid hs
  have L0 := Lib.hid hs.len
  clear hs hm0
  obtain ⟨j0, hj0⟩ : ∃ j, hi - 1 = j := ⟨_, rfl⟩
  have HJ0 := Lib.hid (show j0 + 1 = hi by omega)
  rw [hj0] at q1
  obtain ⟨i0, hi0⟩ : ∃ i, lo + 1 = i := ⟨_, rfl⟩
  have HI0 := Lib.hid hi0
  rw [hi0] at q0
  have P0 := Lib.hid (show Pt a lo hi i0 j0 m0 from ⟨fun k k0 k1 => by omega, fun k k0 k1 => by have := HJ0.out; omega⟩)
  clear hj0 hi0
  go_wp2_with fail
  go_loopw [10] (fun s10 wr => ∃ i : Nat, s10 = .int .i64 i ∧ lo + 1 ≤ i ∧ i ≤ j0 + 1 ∧ LS b o a g cap lo hi w l wr m0 ∧ Pt a lo hi i j0 m0) (fun s10 _ => j0 + 1 - (intOf s10).toNat)
  case atStart => exact ⟨i0, rfl, by have := HI0.out; have := HJ0.out; omega, by have := HI0.out; have := HJ0.out; omega, S0.out, P0.out⟩
  case round =>
    obtain ⟨iA, rfl, hiA0, hiA1, hs, ht⟩ := hrel
    have SA := Lib.hid hs
    have PA := Lib.hid ht
    clear hs ht
    obtain ⟨t, ht⟩ : ∃ t, (decide (iA ≤ j0) && les a (gt m0 iA) (gt m0 lo)) = t := ⟨_, rfl⟩
    have TA := Lib.hid ht
    clear ht
    go_upto_region 3 with fail
    go_cut [28] from 20 to 29 (fun s wx => s = .bool t ∧ LS b o a g cap lo hi w l wx m0)
    case first =>
      by_cases ci : iA ≤ j0
      · have d1 : decide (iA ≤ j0) = true := by simp [ci]
        have C := Lib.hid (less_at b o a g cap m0 iA lo t _ SA.out.r (by have := HI0.out; have := HJ0.out; have := L0.out; have := HL.out; omega) (by have := L0.out; have := HL.out; omega) (by have := TA.out; simpa [ci] using this))
        go_wp2_with fail
        refine C.out.mono ?_
        rintro _ wq ⟨rfl, hw⟩
        have SQ := Lib.hid (SA.out.later hw)
        clear hw
        go_wp2_with fail
        go_meet
        case rel => exact ⟨rfl, SQ.out⟩
      · have d1 : decide (iA ≤ j0) = false := by simp; omega
        have tf : t = false := by have := TA.out; simp [ci] at this; exact this
        go_wp2_with fail
        go_meet
        case rel => exact ⟨by rw [tf], SA.out⟩
    case rest =>
      obtain ⟨rfl, hs⟩ := hcut
      have SAc := Lib.hid hs
      clear hs
      cases t with
      | true =>
        have q5 : IntKind.i64.wrap ((iA : Int) + 1) = ((iA + 1 : Nat) : Int) := by have := HI0.out; have := HJ0.out; simp [IntKind.wrap_i64]; omega
        go_wp2_with fail
        have T := TA.out
        simp only [Bool.and_eq_true, decide_eq_true_eq] at T
        exact ⟨⟨iA + 1, by first | rfl | go_num, by omega, by omega, SAc.out, PA.out.up T.2⟩, by simp [intOf]; omega⟩
      | false =>
        have EA : Hid (iA ≤ j0 → les a (gt m0 iA) (gt m0 lo) = false) := (fun c => by have := TA.out; simpa [c] using this : iA ≤ j0 → les a (gt m0 iA) (gt m0 lo) = false)
        go_wp2_with fail
        go_loopw [11] (fun s11 wr => ∃ j : Nat, s11 = .int .i64 j ∧ lo ≤ j ∧ iA ≤ j + 1 ∧ (j < hi ∧ j ≤ j0) ∧ LS b o a g cap lo hi w l wr m0 ∧ Pt a lo hi iA j m0) (fun s11 _ => (intOf s11).toNat)
        case atStart => exact ⟨j0, rfl, by have := HI0.out; have := HJ0.out; omega, by have := HI0.out; have := HJ0.out; omega, ⟨by have := HI0.out; have := HJ0.out; omega, Nat.le_refl _⟩, SAc.out, PA.out⟩
        case round =>
          obtain ⟨jB, rfl, hjB0, hjB1, hjB2, hs, ht⟩ := hrel
          have SB := Lib.hid hs
          have PB := Lib.hid ht
          clear hs ht
          obtain ⟨t, ht⟩ : ∃ t, (decide (iA ≤ jB) && !les a (gt m0 jB) (gt m0 lo)) = t := ⟨_, rfl⟩
          have TB := Lib.hid ht
          clear ht
          go_upto_region 5 with fail
          go_cut [40] from 31 to 41 (fun s wx => s = .bool t ∧ LS b o a g cap lo hi w l wx m0)
          case first =>
            by_cases ci : iA ≤ jB
            · have d1 : decide (iA ≤ jB) = true := by simp [ci]
              obtain ⟨u, hu⟩ : ∃ u, les a (gt m0 jB) (gt m0 lo) = u := ⟨_, rfl⟩
              have C := Lib.hid (less_at b o a g cap m0 jB lo u _ SB.out.r (by have := HI0.out; have := HJ0.out; have := L0.out; have := HL.out; omega) (by have := L0.out; have := HL.out; omega) hu)
              have tu : Hid (t = !u) := (by have := TB.out; rw [hu] at this; simpa [ci] using this.symm : t = !u)
              clear hu
              go_wp2_with fail
              refine C.out.mono ?_
              rintro _ wq ⟨rfl, hw⟩
              have SQ := Lib.hid (SB.out.later hw)
              clear hw
              go_wp2_with fail
              go_meet
              case rel => exact ⟨by rw [tu.out], SQ.out⟩
            · have d1 : decide (iA ≤ jB) = false := by simp; omega
              have tf : t = false := by have := TB.out; simp [ci] at this; exact this
              go_wp2_with fail
              go_meet
              case rel => exact ⟨by rw [tf], SB.out⟩
          case rest =>
            obtain ⟨rfl, hs⟩ := hcut
            have SBc := Lib.hid hs
            clear hs
            cases t with
            | true =>
              have T := TB.out
              simp only [Bool.and_eq_true, decide_eq_true_eq, Bool.not_eq_true'] at T
              have TT := Lib.hid T
              have hjp : iA ≤ jB := T.1
              clear T
              obtain ⟨jp, rfl⟩ : ∃ jp, jB = jp + 1 := ⟨jB - 1, by have := HI0.out; have := HJ0.out; omega⟩
              have q5 : IntKind.i64.wrap (((jp + 1 : Nat) : Int) - 1) = (jp : Int) := by simp [IntKind.wrap_i64]; omega
              go_wp2_with fail
              exact ⟨⟨jp, by first | rfl | go_num, by have := HI0.out; have := HJ0.out; omega, by omega, by omega, SBc.out, PB.out.down TT.out.2⟩, by simp [intOf] <;> omega⟩
            | false =>
              have EB : Hid (iA ≤ jB → les a (gt m0 jB) (gt m0 lo) = true) := (fun c => by have := TB.out; simpa [c] using this : iA ≤ jB → les a (gt m0 jB) (gt m0 lo) = true)
              by_cases cc : jB < iA
              · have d3 : decide (jB < iA) = true := by simp [cc]
                go_wp2_with fail
                refine (swap_at b o a g cap lo hi m0 jB lo _ SBc.out.r (by have := L0.out; have := HL.out; omega) (by skip; omega) (by skip; omega) (Nat.le_refl _) hlh).mono ?_
                rintro _ wz ⟨rfl, hz⟩
                have SZ := Lib.hid (SBc.out.trans hz)
                clear hz
                go_wp2_with fail
                exact bodyPost_ret (v := .tuple #[.int .i64 jB, .bool true]) (by simp [results, Try.results55, go_sem]) rfl ⟨jB, true, rfl, _, SZ.out, PB.out.done (by skip; omega) (by skip; omega) (by skip; omega) (by have := L0.out; have := HL.out; omega)⟩
              · have d3 : decide (jB < iA) = false := by simp; omega
                go_wp2_with fail
                have hij : iA < jB := by
                  have e1 := EA.out (by omega)
                  have e2 := EB.out (by omega)
                  by_cases c : iA = jB
                  · rw [c, e2] at e1; cases e1
                  · omega
                obtain ⟨jm, hjm⟩ : ∃ jm, jB = jm + 1 := ⟨jB - 1, by skip; omega⟩
                have q6 : IntKind.i64.wrap ((jB : Int) - 1) = (jm : Int) := by simp [IntKind.wrap_i64]; omega
                have q7 : IntKind.i64.wrap ((iA : Int) + 1) = ((iA + 1 : Nat) : Int) := by simp [IntKind.wrap_i64]; skip; omega
                have PN : Hid (Pt a lo hi (iA + 1) jm (swp m0 iA jB)) := (by have P := PB.out; have e1 := EA.out (by omega); have e2 := EB.out (by omega); rw [hjm] at P e2 hij ⊢; exact P.swap (by skip; omega) (by omega) (by omega) (by have := L0.out; have := HL.out; omega) e1 e2 : Pt a lo hi (iA + 1) jm (swp m0 iA jB))
                refine (swap_at b o a g cap lo hi m0 iA jB _ SBc.out.r (by have := L0.out; have := HL.out; omega) (by skip; omega) (by skip; omega) (by skip; omega) (by skip; omega)).mono ?_
                rintro _ wz ⟨rfl, hz⟩
                have SN := Lib.hid (SBc.out.trans hz)
                have LN := Lib.hid (SBc.out.trans hz).len
                clear hz
                obtain ⟨mn, hmn⟩ : ∃ mn, swp m0 iA jB = mn := ⟨_, rfl⟩
                rw [hmn] at SN LN PN
                obtain ⟨iN, hin⟩ : ∃ iN, iA + 1 = iN := ⟨_, rfl⟩
                have NI := Lib.hid hin
                have NJ := Lib.hid hjm
                rw [hin] at PN q7
                clear hjm hmn hin
                go_wp2_with fail
                go_loopw [10, 11] (fun s10 s11 wr => ∃ (i j : Nat) (m : List Wt), s10 = .int .i64 i ∧ s11 = .int .i64 j ∧ lo + 1 ≤ i ∧ i ≤ j + 1 ∧ j < hi ∧ lo ≤ j ∧ LS b o a g cap lo hi w l wr m ∧ Pt a lo hi i j m) (fun _ s11 _ => (intOf s11).toNat)
                case atStart => exact ⟨iN, jm, mn, rfl, rfl, by have := NI.out; omega, by have := NI.out; have := NJ.out; omega, by have := NJ.out; omega, by have := NI.out; have := NJ.out; omega, SN.out, PN.out⟩
                case round =>
                  obtain ⟨iG, jG, mG, rfl, rfl, hG0, hG1, hG2, hG3, hs, ht⟩ := hrel
                  have SG := Lib.hid hs
                  have PG := Lib.hid ht
                  have LG := Lib.hid hs.len
                  clear hs ht
                  go_wp2_with fail
                  go_loopw [10] (fun s10 wr => ∃ i : Nat, s10 = .int .i64 i ∧ lo + 1 ≤ i ∧ i ≤ jG + 1 ∧ LS b o a g cap lo hi w l wr mG ∧ Pt a lo hi i jG mG) (fun s10 _ => jG + 1 - (intOf s10).toNat)
                  case atStart => exact ⟨iG, rfl, by skip; omega, by skip; omega, SG.out, PG.out⟩
                  case round =>
                    obtain ⟨iC, rfl, hiC0, hiC1, hs, ht⟩ := hrel
                    have SC := Lib.hid hs
                    have PC := Lib.hid ht
                    clear hs ht
                    obtain ⟨t, ht⟩ : ∃ t, (decide (iC ≤ jG) && les a (gt mG iC) (gt mG lo)) = t := ⟨_, rfl⟩
                    have TC := Lib.hid ht
                    clear ht
                    go_upto_region 13 with fail
                    go_cut [67] from 59 to 68 (fun s wx => s = .bool t ∧ LS b o a g cap lo hi w l wx mG)
                    case first =>
                      by_cases ci : iC ≤ jG
                      · have d1 : decide (iC ≤ jG) = true := by simp [ci]
                        have C := Lib.hid (less_at b o a g cap mG iC lo t _ SC.out.r (by skip; have := LG.out; have := HL.out; omega) (by have := LG.out; have := HL.out; omega) (by have := TC.out; simpa [ci] using this))
                        go_wp2_with fail
                        refine C.out.mono ?_
                        rintro _ wq ⟨rfl, hw⟩
                        have SQ := Lib.hid (SC.out.later hw)
                        clear hw
                        go_wp2_with fail
                        go_meet
                        case rel => exact ⟨rfl, SQ.out⟩
                      · have d1 : decide (iC ≤ jG) = false := by simp; omega
                        have tf : t = false := by have := TC.out; simp [ci] at this; exact this
                        go_wp2_with fail
                        go_meet
                        case rel => exact ⟨by rw [tf], SC.out⟩
                    case rest =>
                      obtain ⟨rfl, hs⟩ := hcut
                      have SCc := Lib.hid hs
                      clear hs
                      cases t with
                      | true =>
                        have q5 : IntKind.i64.wrap ((iC : Int) + 1) = ((iC + 1 : Nat) : Int) := by skip; simp [IntKind.wrap_i64]; omega
                        go_wp2_with fail
                        have T := TC.out
                        simp only [Bool.and_eq_true, decide_eq_true_eq] at T
                        exact ⟨⟨iC + 1, by first | rfl | go_num, by omega, by omega, SCc.out, PC.out.up T.2⟩, by simp [intOf]; omega⟩
                      | false =>
                        have EC : Hid (iC ≤ jG → les a (gt mG iC) (gt mG lo) = false) := (fun c => by have := TC.out; simpa [c] using this : iC ≤ jG → les a (gt mG iC) (gt mG lo) = false)
                        go_wp2_with fail
                        go_loopw [11] (fun s11 wr => ∃ j : Nat, s11 = .int .i64 j ∧ lo ≤ j ∧ iC ≤ j + 1 ∧ (j < hi ∧ j ≤ jG) ∧ LS b o a g cap lo hi w l wr mG ∧ Pt a lo hi iC j mG) (fun s11 _ => (intOf s11).toNat)
                        case atStart => exact ⟨jG, rfl, by skip; omega, by skip; omega, ⟨by skip; omega, Nat.le_refl _⟩, SCc.out, PC.out⟩
                        case round =>
                          obtain ⟨jD, rfl, hjD0, hjD1, hjD2, hs, ht⟩ := hrel
                          have SD := Lib.hid hs
                          have PD := Lib.hid ht
                          clear hs ht
                          obtain ⟨t, ht⟩ : ∃ t, (decide (iC ≤ jD) && !les a (gt mG jD) (gt mG lo)) = t := ⟨_, rfl⟩
                          have TD := Lib.hid ht
                          clear ht
                          go_upto_region 15 with fail
                          go_cut [79] from 70 to 80 (fun s wx => s = .bool t ∧ LS b o a g cap lo hi w l wx mG)
                          case first =>
                            by_cases ci : iC ≤ jD
                            · have d1 : decide (iC ≤ jD) = true := by simp [ci]
                              obtain ⟨u, hu⟩ : ∃ u, les a (gt mG jD) (gt mG lo) = u := ⟨_, rfl⟩
                              have C := Lib.hid (less_at b o a g cap mG jD lo u _ SD.out.r (by skip; have := LG.out; have := HL.out; omega) (by have := LG.out; have := HL.out; omega) hu)
                              have tu : Hid (t = !u) := (by have := TD.out; rw [hu] at this; simpa [ci] using this.symm : t = !u)
                              clear hu
                              go_wp2_with fail
                              refine C.out.mono ?_
                              rintro _ wq ⟨rfl, hw⟩
                              have SQ := Lib.hid (SD.out.later hw)
                              clear hw
                              go_wp2_with fail
                              go_meet
                              case rel => exact ⟨by rw [tu.out], SQ.out⟩
                            · have d1 : decide (iC ≤ jD) = false := by simp; omega
                              have tf : t = false := by have := TD.out; simp [ci] at this; exact this
                              go_wp2_with fail
                              go_meet
                              case rel => exact ⟨by rw [tf], SD.out⟩
                          case rest =>
                            obtain ⟨rfl, hs⟩ := hcut
                            have SDc := Lib.hid hs
                            clear hs
                            cases t with
                            | true =>
                              have T := TD.out
                              simp only [Bool.and_eq_true, decide_eq_true_eq, Bool.not_eq_true'] at T
                              have TT := Lib.hid T
                              have hjp : iC ≤ jD := T.1
                              clear T
                              obtain ⟨jp, rfl⟩ : ∃ jp, jD = jp + 1 := ⟨jD - 1, by skip; omega⟩
                              have q5 : IntKind.i64.wrap (((jp + 1 : Nat) : Int) - 1) = (jp : Int) := by simp [IntKind.wrap_i64]; omega
                              go_wp2_with fail
                              exact ⟨⟨jp, by first | rfl | go_num, by skip; omega, by omega, by omega, SDc.out, PD.out.down TT.out.2⟩, by simp [intOf] <;> omega⟩
                            | false =>
                              have ED : Hid (iC ≤ jD → les a (gt mG jD) (gt mG lo) = true) := (fun c => by have := TD.out; simpa [c] using this : iC ≤ jD → les a (gt mG jD) (gt mG lo) = true)
                              by_cases cc : jD < iC
                              · have d3 : decide (jD < iC) = true := by simp [cc]
                                go_wp2_with fail
                                refine (swap_at b o a g cap lo hi mG jD lo _ SDc.out.r (by have := LG.out; have := HL.out; omega) (by skip; omega) (by skip; omega) (Nat.le_refl _) hlh).mono ?_
                                rintro _ wz ⟨rfl, hz⟩
                                have SZ := Lib.hid (SDc.out.trans hz)
                                clear hz
                                go_wp2_with fail
                                exact bodyPost_ret (v := .tuple #[.int .i64 jD, .bool false]) (by simp [results, Try.results55, go_sem]) rfl ⟨jD, false, rfl, _, SZ.out, PD.out.done (by skip; omega) (by skip; omega) (by skip; omega) (by have := LG.out; have := HL.out; omega)⟩
                              · have d3 : decide (jD < iC) = false := by simp; omega
                                go_wp2_with fail
                                have hij : iC < jD := by
                                  have e1 := EC.out (by omega)
                                  have e2 := ED.out (by omega)
                                  by_cases c : iC = jD
                                  · rw [c, e2] at e1; cases e1
                                  · omega
                                obtain ⟨jm, hjm⟩ : ∃ jm, jD = jm + 1 := ⟨jD - 1, by skip; omega⟩
                                have q6 : IntKind.i64.wrap ((jD : Int) - 1) = (jm : Int) := by simp [IntKind.wrap_i64]; omega
                                have q7 : IntKind.i64.wrap ((iC : Int) + 1) = ((iC + 1 : Nat) : Int) := by simp [IntKind.wrap_i64]; skip; omega
                                have PN : Hid (Pt a lo hi (iC + 1) jm (swp mG iC jD)) := (by have P := PD.out; have e1 := EC.out (by omega); have e2 := ED.out (by omega); rw [hjm] at P e2 hij ⊢; exact P.swap (by skip; omega) (by omega) (by omega) (by have := LG.out; have := HL.out; omega) e1 e2 : Pt a lo hi (iC + 1) jm (swp mG iC jD))
                                refine (swap_at b o a g cap lo hi mG iC jD _ SDc.out.r (by have := LG.out; have := HL.out; omega) (by skip; omega) (by skip; omega) (by skip; omega) (by skip; omega)).mono ?_
                                rintro _ wz ⟨rfl, hz⟩
                                have SN := Lib.hid (SDc.out.trans hz)
                                have LN := Lib.hid (SDc.out.trans hz).len
                                clear hz
                                obtain ⟨mn, hmn⟩ : ∃ mn, swp mG iC jD = mn := ⟨_, rfl⟩
                                rw [hmn] at SN LN PN
                                obtain ⟨iN, hin⟩ : ∃ iN, iC + 1 = iN := ⟨_, rfl⟩
                                have NI := Lib.hid hin
                                have NJ := Lib.hid hjm
                                rw [hin] at PN q7
                                clear hjm hmn hin
                                go_wp2_with fail
                                exact ⟨⟨iN, jm, mn, rfl, rfl, by have := NI.out; omega, by have := NI.out; have := NJ.out; omega, by have := NJ.out; omega, by have := NI.out; have := NJ.out; omega, SN.out, PN.out⟩, by have := NI.out; have := NJ.out; simp [intOf]; omega⟩
end Go.Proofs.Ytdindhmbofddoaa
