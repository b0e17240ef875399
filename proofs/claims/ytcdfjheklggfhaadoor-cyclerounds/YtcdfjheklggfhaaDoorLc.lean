/- The walk of CycleRounds. -/
import Derived.Test.YtcdfjheklggfhaaDoorXk
namespace Go.Proofs.YtcdfjheklggfhaaDoor
open Go.RowKit SM
set_option linter.unusedSimpArgs false
set_option linter.unusedVariables false

/-- the times of the rounds. -/
theorem rounds_math (N X f i : Nat) (hN1 : 1 ≤ N) (hN : N ≤ 60) (hX1 : 1 ≤ X) (hX : X ≤ 4294967296) (hf : f < 4294967296) (hi : i < N) :
    whenB N X f ((i + 1 : Nat) : Int) = true ∧ whenV N X f ((i + 1 : Nat) : Int) = f + i * X + X ∧ pastV N X f (f + i * X + X) = i + 1 ∧ pastV N X f (f + i * X + X - 1) = i ∧ f + i * X + X < 562949953421312 := by
  have hg : goodB N X = true := decide_eq_true ⟨by omega, by omega, hX1, by omega⟩
  have e : (i + 1) * X = i * X + X := Nat.succ_mul i X
  have b : i * X + X ≤ 60 * 4294967296 := by rw [← e]; exact Nat.mul_le_mul (by omega) hX
  have ej : (((i + 1 : Nat) : Int)).toNat = i + 1 := by simp
  have hB : whenB N X f ((i + 1 : Nat) : Int) = true := by
    unfold whenB; rw [hg, ej, decide_eq_true (show f + (i + 1) * X < 18446744073709551616 by rw [e]; omega), decide_eq_true (show (1 : Int) ≤ ((i + 1 : Nat) : Int) ∧ ((i + 1 : Nat) : Int) ≤ N by omega)]; rfl
  refine ⟨hB, by rw [when_yes hB, ej, e]; omega, ?_, ?_, by omega⟩
  · unfold pastV
    rw [hg, if_pos rfl, if_neg (by omega), show f + i * X + X - f = (i + 1) * X by rw [e]; omega, Nat.mul_div_cancel _ (by omega)]
    simp; omega
  · unfold pastV
    rw [hg, if_pos rfl, if_neg (by omega), Nat.div_eq_of_lt_le (k := i) (by omega) (by rw [e]; omega)]
    simp; omega

theorem rounds_ends (N X f : Nat) (hN1 : 1 ≤ N) (hN : N ≤ 60) (hX1 : 1 ≤ X) (hX : X ≤ 4294967296) (hf : f < 4294967296) :
    whenB N X f ((N : Int) + 1) = false ∧ whenB N X f 0 = false ∧ pastV N X f 18446744073709551615 = N ∧ pastV N X f f = 0 := by
  have hg : goodB N X = true := decide_eq_true ⟨by omega, by omega, hX1, by omega⟩
  refine ⟨?_, ?_, ?_, ?_⟩
  · unfold whenB; rw [decide_eq_false (show ¬ ((1 : Int) ≤ (N : Int) + 1 ∧ (N : Int) + 1 ≤ N) by omega)]; simp
  · unfold whenB; rw [decide_eq_false (show ¬ ((1 : Int) ≤ 0 ∧ (0 : Int) ≤ N) by omega)]; simp
  · unfold pastV
    rw [hg, if_pos rfl, if_neg (by omega)]
    have : 60 ≤ (18446744073709551615 - f) / X := by
      rw [Nat.le_div_iff_mul_le (by omega)]
      have := Nat.mul_le_mul (Nat.le_refl 60) hX
      omega
    simp; omega
  · unfold pastV
    rw [hg, if_pos rfl, if_neg (by omega), Nat.sub_self, Nat.zero_div]; simp

set_option maxHeartbeats 4000000 in
set_option maxRecDepth 100000 in
theorem rounds_core (n e f N X : Nat) (w : World) (hn : n < 65536) (he : e < 4294967296) (hf : f < 4294967296) (hN' : 1 + (n : Int) % 60 = N) (hX' : 1 + (e : Int) = X) (hN1 : 1 ≤ N) (hN : N ≤ 60) (hX1 : 1 ≤ X) (hX : X ≤ 4294967296) :
    Calls Tryd.prog 6 #[.int .u16 n, .int .u32 e, .int .u32 f] w fun e w' => e = .returned (.bool true) ∧ Grw w w' := by
  have HN := Lib.hid hN'
  have HX := Lib.hid hX'
  clear hN' hX'
  go_enter Tryd.func6, Tryd.ntmps6
  go_wp2_with fail
  rw [HN.out, HX.out]
  clear HN HX hn he
  have K := Kp.new w (.int .i64 N) (.int .u64 X) 25
  have G := (Grw.rfl' w).alloc (.cells #[.int .i64 N, .int .u64 X] 25)
  generalize w.alloc (.cells #[.int .i64 N, .int .u64 X] 25) = w0 at *
  generalize w.heap.size = B at *
  go_loopw [8, 9, 10, 11] (fun a b _ _ wr => ∃ i : Nat, i ≤ N ∧ b = .int .i64 ((i : Int) + 1) ∧ a = .int .u64 ((f + i * X : Nat) : Int) ∧ Grw w wr ∧ Kp wr B (.int .i64 N) (.int .u64 X)) (fun _ b _ _ _ => N + 1 - (intOf b).toNat)
  case atStart => exact ⟨0, by omega, by simp, by simp, G, K⟩
  case round =>
    obtain ⟨i, hi, rfl, rfl, G, K⟩ := hrel
    by_cases hlt : i < N
    · obtain ⟨m1, m2, m3, m4, m5⟩ := rounds_math N X f i hN1 hN hX1 hX hf hlt
      have W := fun w => when_any N X f ((i + 1 : Nat) : Int) w (by omega) (by omega) (by omega) (by omega)
      have P1 := fun w => past_any N X f (f + i * X + X) w (by omega) (by omega) (by omega) (by omega)
      have P2 := fun w => past_any N X f (f + i * X + X - 1) w (by omega) (by omega) (by omega) (by omega)
      rw [m1, m2] at W
      rw [m3] at P1
      rw [m4] at P2
      have es : (f + (i + 1) * X : Nat) = f + i * X + X := by rw [Nat.succ_mul]; omega
      have ES := Lib.hid es
      obtain ⟨l, hl⟩ : ∃ l, f + i * X = l := ⟨_, rfl⟩
      rw [hl] at W P1 P2 m5 ES ⊢
      have e1 : ((l + X : Nat) : Int) = (l : Int) + X := by omega
      have e2 : ((l + X - 1 : Nat) : Int) = (l : Int) + X - 1 := by omega
      have e3 : ((i + 1 : Nat) : Int) = (i : Int) + 1 := by omega
      rw [e1, e3] at W
      rw [e1, e3] at P1
      rw [e2] at P2
      replace W := Lib.hid W
      replace P1 := Lib.hid P1
      replace P2 := Lib.hid P2
      have c0 := K.t.c0
      have c1 := K.t.c1
      have hiN : (i : Int) + 1 ≤ N := by omega
      have hl2 : l < 562949953421312 := by omega
      have hi2 : i < 60 := by omega
      clear m1 m2 m3 m4 es hl e1 e2 e3
      go_wp2_with fail
      refine (W.out _).mono ?_
      rintro _ w1 ⟨rfl, hw1⟩
      replace K := K.later hw1
      replace G := Grw.trans G hw1
      clear hw1 c0 c1 W
      have c0 := K.t.c0
      have c1 := K.t.c1
      go_wp2_with fail
      refine (P1.out _).mono ?_
      rintro _ w2 ⟨rfl, hw2⟩
      replace K := K.later hw2
      replace G := Grw.trans G hw2
      clear hw2 c0 c1 P1
      have c0 := K.t.c0
      have c1 := K.t.c1
      go_wp2_with fail
      refine (P2.out _).mono ?_
      rintro _ w3 ⟨rfl, hw3⟩
      replace K := K.later hw3
      replace G := Grw.trans G hw3
      clear hw3 c0 c1 P2
      go_wp2_with fail
      go_roundw
      case rel => exact ⟨i + 1, by omega, by go_num, by rw [ES.out]; exact int_eq (by omega), G, K⟩
      case measure => simp [intOf]; omega
    · obtain rfl : i = N := by omega
      obtain ⟨m1, m2, m3, m4⟩ := rounds_ends i X f hN1 hN hX1 hX hf
      have W1 := fun w => when_any i X f ((i : Int) + 1) w (by omega) (by omega) (by omega) (by omega)
      have W0 := fun w => when_any i X f 0 w (by omega) (by omega) (by omega) (by omega)
      have PA := fun w => past_any i X f 18446744073709551615 w (by omega) (by omega) (by omega) (by omega)
      have PB := fun w => past_any i X f f w (by omega) (by omega) (by omega) (by omega)
      rw [when_no m1, m1] at W1
      rw [when_no m2, m2] at W0
      rw [m3] at PA
      rw [m4] at PB
      replace W1 := Lib.hid W1
      replace W0 := Lib.hid W0
      replace PA := Lib.hid PA
      replace PB := Lib.hid PB
      have c0 := K.t.c0
      have c1 := K.t.c1
      have f4 : IntKind.u64.wrap (f : Int) = f := by rw [IntKind.wrap_u64]; omega
      generalize ((f + i * X : Nat) : Int) = l at *
      clear m1 m2 m3 m4
      go_wp2_with fail
      refine (W1.out _).mono ?_
      rintro _ w1 ⟨rfl, hw1⟩
      replace K := K.later hw1
      replace G := Grw.trans G hw1
      clear hw1 c0 c1 W1
      have c0 := K.t.c0
      have c1 := K.t.c1
      go_wp2_with fail
      refine (W0.out _).mono ?_
      rintro _ w2 ⟨rfl, hw2⟩
      replace K := K.later hw2
      replace G := Grw.trans G hw2
      clear hw2 c0 c1 W0
      have c0 := K.t.c0
      have c1 := K.t.c1
      go_wp2_with fail
      have p0 := gw_cell c0
      have p1 := gw_cell c1
      refine wp_region_grown (by kernel_rfl) (by kernel_rfl) ?_
      repeat (go_big_quiet_step (first | (go_at_call 8; exact calls_grown (wakes_any _)) | (go_at_call 17; first | (with_reducible exact calls_grown (PA.out _)) | (with_reducible exact calls_grown (PB.out _)))))
      refine wpQuiet_nil ?_
      rintro _ ⟨q', rfl⟩
      have hq' := q'.h
      clear p0 p1 c0 c1
      go_wp2_with fail
      go_ret
      exact ⟨rfl, G.trans hq'⟩

theorem rounds_walk (n e f : Nat) (w : World) (hn : n < 65536) (he : e < 4294967296) (hf : f < 4294967296) :
    Calls Tryd.prog 6 #[.int .u16 n, .int .u32 e, .int .u32 f] w fun e w' => e = .returned (.bool true) ∧ Grw w w' :=
  rounds_core n e f (1 + n % 60) (1 + e) w hn he hf (by omega) (by omega) (by omega) (by omega) (by omega) (by omega)
end Go.Proofs.YtcdfjheklggfhaaDoor
