/- The law RetryTells, walked. -/
import Derived.Test.YtfpadikoplgflaaWh
namespace Go.Proofs.Ytfpadikoplgflaa
open Go.RowKit
set_option linter.unusedSimpArgs false

set_option maxHeartbeats 4000000 in
set_option maxRecDepth 100000 in
theorem tells_walk (n s u k : Int) (w : World) :
    Calls Try.prog 3 #[.int .i64 n, .agg #[.int .i64 s, .int .i64 u], .int .i64 k] w fun e w' => e = .returned (.bool true) ∧ Grw w w' := by
  obtain ⟨W0, hW0⟩ : ∃ W0, (w.alloc (.cells #[.int .i64 s, .int .i64 u] 23)).alloc (.cells #[.int .i64 k, .int .i64 1, .int .i64 2, .int .i64 3, .int .i64 4] 3) = W0 := ⟨_, rfl⟩
  obtain ⟨b, hb⟩ : ∃ b, w.heap.size = b := ⟨_, rfl⟩
  have T0 : Hid (Two W0 b (.int .i64 s) (.int .i64 u)) := (by
    rw [← hW0, ← hb]
    exact (Two.new w _ _ 23).later ((Grw.rfl' _).alloc _) (by rw [size_new]; omega) : Two W0 b (.int .i64 s) (.int .i64 u))
  have L0 : Hid (Lies W0 (some ⟨b + 1, 0, none⟩) (ci [k, 1, 2, 3, 4])) := (by
    have := laid (w := w.alloc (.cells #[.int .i64 s, .int .i64 u] 23)) [k, 1, 2, 3, 4] 3 rfl
    rw [size_new, hb] at this
    rw [← hW0]
    exact this : Lies W0 (some ⟨b + 1, 0, none⟩) (ci [k, 1, 2, 3, 4]))
  have G0 : Hid (Grw w W0) := (by rw [← hW0]; exact ((Grw.rfl' _).alloc _).alloc _ : Grw w W0)
  have Z0 : Hid (b + 1 < W0.heap.size) := (by rw [← hW0, size_new, size_new, hb]; omega : b + 1 < W0.heap.size)
  have WK := Lib.hid wakes_any
  go_enter Try.func3, Try.ntmps3
  go_wp2_with fail
  clear hW0 hb
  go_loopw [14] (fun y wr => ∃ (j : Nat), j ≤ 5 ∧ y = .int .i64 (j : Nat) ∧ Grw W0 wr) (fun y _ => 5 - (intOf y).toNat)
  case atStart => exact ⟨0, Nat.zero_le _, rfl, Grw.rfl' _⟩
  case round =>
    obtain ⟨j, hj, rfl, hg⟩ := hrel
    have t0 := T0.out.later hg (by have := Z0.out; omega)
    have c0 := t0.c0
    have c1 := t0.c1
    have G := Lib.hid hg
    have TW := Lib.hid t0
    have BW := Lib.hid (Nat.lt_of_lt_of_le (show b < W0.heap.size by have := Z0.out; omega) (Below.size hg))
    by_cases hj5 : j < 5
    · have hki : (j : Int) < 5 := by omega
      obtain ⟨x, hx⟩ : ∃ x, [k, 1, 2, 3, 4][j] = x := ⟨_, rfl⟩
      have x0 : wr.cell? ⟨b + 1, j, none⟩ = some (.int .i64 x) := by
        obtain ⟨bb, off, e, h⟩ := ilies_at (L0.out.later hg) (show j < [k, 1, 2, 3, 4].length from hj5)
        injection e with e
        injection e with e1 e2
        subst e1 e2
        rw [Nat.zero_add] at h
        rw [← hx]
        exact h
      have q2 : IntKind.i64.wrap ((j : Int) + 1) = ((j + 1 : Nat) : Int) := by simp [IntKind.wrap_i64]; omega
      obtain ⟨p, hp⟩ : ∃ p, st n s u x = p := ⟨_, rfl⟩
      obtain ⟨a, b', c⟩ := p
      have S := Lib.hid (fun w => step_is n s u x a b' c w hp)
      have S2 := Lib.hid (fun w => rstep_is n s u x a b' c w hp)
      unfold rv at S2
      clear hx hp t0 hg
      go_wp2_with fail
      refine (S.out _).mono ?_
      rintro _ w2 ⟨rfl, hw⟩
      have G2 := Lib.hid (G.out.trans hw)
      have T2 := Lib.hid ((TW.out.later hw BW.out).later ((Grw.rfl' w2).alloc (.cells #[.int .i64 a, .int .i64 b'] 23)) (Nat.lt_of_lt_of_le BW.out (Below.size hw)))
      have N2 := Lib.hid (Two.new w2 (.int .i64 a) (.int .i64 b') 23)
      clear hw c0 c1 x0
      unfold tv
      go_wp2_with fail
      have m0 := gw_cell T2.out.c0
      have m1 := gw_cell T2.out.c1
      have m2 := gw_cell N2.out.c0
      have m3 := gw_cell N2.out.c1
      refine wp_region_grown (by kernel_rfl) (by kernel_rfl) ?_
      repeat (go_big_quiet_step (first | (go_at_call 9; with_reducible exact calls_grown (S2.out _))))
      refine wpQuiet_nil ?_
      rintro _ ⟨q, rfl⟩
      have G3 := Lib.hid ((G2.out.alloc _).trans q.h)
      clear m0 m1 m2 m3
      go_wp2_with fail
      go_roundw
      case rel => exact ⟨j + 1, by omega, by first | rfl | go_num, G3.out⟩
      case measure => simp [intOf]; omega
    · have hki : ¬ (j : Int) < 5 := by omega
      obtain rfl : j = 5 := by omega
      obtain ⟨g, hgd⟩ : ∃ g, gd n s u = g := ⟨_, rfl⟩
      obtain ⟨r, hr⟩ : ∃ r, lf n s u = r := ⟨_, rfl⟩
      have C1 := Lib.hid (fun w => good_is n s u g w hgd)
      have C2 := Lib.hid (fun w => rgood_is n s u g w hgd)
      have C3 := Lib.hid (fun w => left_is n s u r w hr)
      have C4 := Lib.hid (fun w => rleft_is n s u r w hr)
      clear hgd hr hg t0
      have e1 : (g == g) = true := by simp
      have e2 : (r == r) = true := by simp
      go_wp2_with fail
      have m0 := gw_cell c0
      have m1 := gw_cell c1
      refine wp_region_grown (by kernel_rfl) (by kernel_rfl) ?_
      repeat (go_big_quiet_step (first | (go_at_call 10; with_reducible exact calls_grown (C1.out _)) | (go_at_call 11; with_reducible exact calls_grown (C2.out _)) | (go_at_call 12; with_reducible exact calls_grown (C3.out _)) | (go_at_call 13; with_reducible exact calls_grown (C4.out _)) | (go_at_call 14; with_reducible exact calls_grown (WK.out _))))
      refine wpQuiet_nil ?_
      rintro _ ⟨q, rfl⟩
      have G3 := Lib.hid ((G0.out.trans G.out).trans q.h)
      clear m0 m1
      go_wp2_with fail
      go_ret
      exact ⟨rfl, G3.out⟩
end Go.Proofs.Ytfpadikoplgflaa
