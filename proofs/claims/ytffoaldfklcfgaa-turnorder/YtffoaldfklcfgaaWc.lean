/- The contracts of the document's First, of job and of wakes at this program. -/
import Derived.Test.YtffoaldfklcfgaaWb
namespace Go.Proofs.Ytffoaldfklcfgaa
open Go.RowKit
set_option linter.unusedSimpArgs false

set_option maxHeartbeats 2000000 in
set_option maxRecDepth 100000 in
theorem rfirst_is (a : Int) (ao : Option Addr) (cap : Nat) (l : List Wt) (n : Nat) (r : Int) (w : World) (hl : Lies w ao (cw l)) (hb : l.length ≤ 1000000) (hn : l.length = n) (hr : frs a l = r) :
    Calls Try.prog 16 #[.int .i64 a, .slice ao n cap] w fun e w' => e = .returned (.int .i64 r) ∧ Grw w w' := by
  have LI := Lib.hid hl
  have HB := Lib.hid hb
  rw [hn] at hb
  have HN := Lib.hid (And.intro hn hr)
  clear hl hn hr
  go_enter Try.func16, Try.ntmps16
  go_wp2_with fail
  go_loopw [5] (fun u wr => ∃ k : Nat, k ≤ n ∧ u = .int .i64 k ∧ (∀ i (hi : i < l.length), i < k → ahd a l[i] l ≠ 0) ∧ Grw w wr) (fun u _ => n - (intOf u).toNat)
  case atStart => exact ⟨0, Nat.zero_le _, rfl, fun i _ h => by omega, Grw.rfl' _⟩
  case round =>
    obtain ⟨k, hk, rfl, hno, hg⟩ := hrel
    have G := Lib.hid hg
    have NO := Lib.hid hno
    by_cases hk' : k < n
    · have hki : (k : Int) < (n : Int) := by omega
      have hkl : k < l.length := by rw [HN.out.1]; exact hk'
      obtain ⟨b, off, rfl, c0, c1, c2⟩ := wlies_at (LI.out.later hg) hkl
      obtain ⟨x, hx⟩ : ∃ x, l[k] = x := ⟨_, rfl⟩
      rw [hx] at c0 c1 c2
      obtain ⟨m, hm⟩ : ∃ m, ahd a x l = m := ⟨_, rfl⟩
      have HX := Lib.hid (And.intro hx hm)
      obtain ⟨xi, xc, xm⟩ := x
      simp only at c0 c1 c2
      have C := Lib.hid (rahead_is a xi xc xm (some ⟨b, off, none⟩) cap l n m wr (LI.out.later hg) HB.out HN.out.1 hm)
      clear hx hg hm hno
      by_cases hz : m = 0
      · have hd : ((m : Int) == 0) = true := by simp [hz]
        have HZ := Lib.hid hz
        clear hz
        go_wp2_with fail
        refine C.out.mono ?_
        rintro _ w1 ⟨rfl, hw⟩
        have GQ := Lib.hid (G.out.trans hw)
        clear hw c0 c1 c2
        go_wp2_with fail
        go_ret
        refine ⟨?_, GQ.out⟩
        have hf : Fst a l k := fst_of_none hkl (by rw [HX.out.1, HX.out.2]; exact HZ.out) (fun i hi h => NO.out i hi h)
        rw [← HN.out.2, frs_of hf]
        rfl
      · have hd : ((m : Int) == 0) = false := by simp; omega
        have HZ := Lib.hid hz
        clear hz
        go_wp2_with fail
        refine C.out.mono ?_
        rintro _ w1 ⟨rfl, hw⟩
        have GQ := Lib.hid (G.out.trans hw)
        clear hw c0 c1 c2
        go_wp2_with fail
        go_roundw
        case rel => exact ⟨k + 1, by omega, by go_num, fun i hi h => (by
          rcases (by omega : i < k ∨ i = k) with e | e
          · exact NO.out i hi e
          · subst e; rw [HX.out.1, HX.out.2]; exact HZ.out), GQ.out⟩
        case measure => simp [intOf]; omega
    · have hki : ¬ (k : Int) < (n : Int) := by omega
      obtain rfl : n = k := by omega
      clear hg hno
      go_wp2_with fail
      go_ret
      refine ⟨?_, G.out⟩
      rw [← HN.out.2]
      rcases Nat.eq_zero_or_pos l.length with h0 | h0
      · have : l = [] := List.eq_nil_of_length_eq_zero h0
        subst this
        rfl
      · obtain ⟨j, _, hj⟩ := frs_spec a h0
        exact absurd hj.none (NO.out j hj.lt (by have := hj.lt; rw [HN.out.1] at this; exact this))
set_option maxRecDepth 100000 in
theorem job_is (i : Int) (p q : Nat) (w : World) (hp : p < 65536) (hq : q < 65536) :
    Calls Try.prog 21 #[.int .i64 i, .agg #[.int .u16 (p : Nat), .int .u16 (q : Nat)]] w fun e w' => e = .returned (.agg #[.int .i64 i, .int .i64 ((p : Int) % 8), .int .i64 (q : Nat)]) ∧ Grw w w' := by
  have q1 : IntKind.i64.wrap (p : Int) = p := by simp [IntKind.wrap_i64]; omega
  have q2 : IntKind.i64.wrap (q : Int) = q := by simp [IntKind.wrap_i64]; omega
  go_enter Try.func21, Try.ntmps21
  go_wp2_with fail
  exact bodyPost_ret (v := .agg #[.int .i64 i, .int .i64 ((p : Int) % 8), .int .i64 (q : Nat)]) (by simp [results, Try.results21, go_sem]) rfl ⟨rfl, ((Grw.rfl' w).alloc _).alloc _⟩
/-- two jobs as they are laid. -/
theorem two_lies (w : World) (x y : Wt) : Lies (w.alloc (.cells #[.int .i64 x.id, .int .i64 x.cl, .int .i64 x.ca, .int .i64 y.id, .int .i64 y.cl, .int .i64 y.ca] 24)) (some ⟨w.heap.size, 0, none⟩) (cw [x, y]) := by
  refine Or.inr ⟨w.heap.size, 0, rfl, by rw [size_new]; omega, fun j u hj => ?_⟩
  simp only [cw] at hj
  match j, hj with
  | 0, h => simp at h; subst h; simp [go_sem]
  | 1, h => simp at h; subst h; simp [go_sem]
  | 2, h => simp at h; subst h; simp [go_sem]
  | 3, h => simp at h; subst h; simp [go_sem]
  | 4, h => simp at h; subst h; simp [go_sem]
  | 5, h => simp at h; subst h; simp [go_sem]
  | j + 6, h => simp at h
set_option maxHeartbeats 2000000 in
set_option maxRecDepth 100000 in
theorem wakes_any (w : World) : Calls Try.prog 8 #[] w fun e w' => e = .returned (.bool true) ∧ Grw w w' := by
  have C1 := Lib.hid (fun w => turn_is 3 1 2 4 10 w (by decide))
  have C2 := Lib.hid (fun w => less_is 3 1 2 4 2 0 11 true w (by decide))
  have C3 := Lib.hid (fun w => less_is 3 3 0 9 1 2 4 true w (by decide))
  have C4 := Lib.hid (fun w => first_is 3 (some ⟨w.heap.size, 0, none⟩) 2 [⟨2, 0, 11⟩, ⟨1, 2, 4⟩] 2 1 _ (two_lies w ⟨2, 0, 11⟩ ⟨1, 2, 4⟩) (by decide) rfl (by decide))
  have C5 := Lib.hid (fun w => first_is 3 none 0 [] 0 (-1) w (Or.inl rfl) (by decide) rfl rfl)
  have C6 := Lib.hid (fun w => bound_is 2 5 21 w (by decide))
  have B0 := Lib.hid (Bx.new w (.int .i64 1) (.int .i64 2) (.int .i64 4) 24)
  have G0 := Lib.hid ((Grw.rfl' w).alloc (.cells #[.int .i64 1, .int .i64 2, .int .i64 4] 24))
  go_enter Try.func8, Try.ntmps8
  go_wp2_with fail
  refine (C1.out _).mono ?_
  rintro _ w1 ⟨rfl, hw⟩
  have B1 := Lib.hid (B0.out.later hw)
  have G1 := Lib.hid (G0.out.trans hw)
  have c0 := B1.out.c0
  have c1 := B1.out.c1
  have c2 := B1.out.c2
  clear hw
  go_wp2_with fail
  refine (C2.out _).mono ?_
  rintro _ w2 ⟨rfl, hw⟩
  have B2 := Lib.hid (B1.out.later hw)
  have G2 := Lib.hid (G1.out.trans hw)
  clear c0 c1 c2
  have c0 := B2.out.c0
  have c1 := B2.out.c1
  have c2 := B2.out.c2
  clear hw
  go_wp2_with fail
  refine (C3.out _).mono ?_
  rintro _ w3 ⟨rfl, hw⟩
  have B3 := Lib.hid (B2.out.later hw)
  have G3 := Lib.hid (G2.out.trans hw)
  clear c0 c1 c2
  have c0 := B3.out.c0
  have c1 := B3.out.c1
  have c2 := B3.out.c2
  clear hw
  go_wp2_with fail
  refine (C4.out _).mono ?_
  rintro _ w4 ⟨rfl, hw⟩
  have G4 := Lib.hid (G3.out.trans hw.two)
  clear hw c0 c1 c2
  go_wp2_with fail
  refine (C5.out _).mono ?_
  rintro _ w5 ⟨rfl, hw⟩
  have G5 := Lib.hid (G4.out.trans hw)
  clear hw
  go_wp2_with fail
  refine (C6.out _).mono ?_
  rintro _ w6 ⟨rfl, rfl⟩
  go_wp2_with fail
  go_ret
  exact ⟨rfl, G5.out⟩
end Go.Proofs.Ytffoaldfklcfgaa
