/- The walk of TickSums, closed: the sums and products that fit, by plain arithmetic. -/
import Derived.Test.YtopfllmdejdgpaaWd
namespace Go.Proofs.Ytopfllmdejdgpaa
open Go.RowKit TM

theorem sumV_comm (a b : Int) : sumV b a = sumV a b := by unfold sumV; rw [Int.add_comm]
theorem sumB_comm (a b : Int) : sumB b a = sumB a b := by unfold sumB; rw [Int.add_comm]
theorem mulV_comm (a b : Int) : mulV b a = mulV a b := by unfold mulV; rw [Int.mul_comm]
theorem mulB_comm (a b : Int) : mulB b a = mulB a b := by unfold mulB; rw [Int.mul_comm]
theorem sumV_wd {a b : Int} (ha : Wd a) (hb : Wd b) : Wd (sumV a b) := by
  obtain ⟨h1, h2⟩ := ha; obtain ⟨h3, h4⟩ := hb
  unfold sumV; split
  · exact ⟨by omega, by omega⟩
  · exact ⟨by omega, by omega⟩
theorem mulV_wd {a b : Int} (ha : Wd a) (hb : Wd b) : Wd (mulV a b) := by
  have h := Int.mul_nonneg ha.1 hb.1
  unfold mulV; split
  · exact ⟨by omega, by omega⟩
  · exact ⟨by omega, by omega⟩
theorem k1 (a b : Int) : sumB a b = true ∧ heldV a b = sumV a b ∨ sumB a b = false ∧ sumV a b = 0 ∧ heldV a b = 18446744073709551615 := by
  unfold sumB sumV heldV
  by_cases h : a + b < 18446744073709551616
  · simp [h]
  · simp [h]
theorem k2 {a b c : Int} (ha : Wd a) (hb : Wd b) (hc : Wd c) :
    (sumB a b && sumB (sumV a b) c) = (sumB b c && sumB a (sumV b c)) ∧ ((sumB a b && sumB (sumV a b) c) = true → sumV (sumV a b) c = sumV a (sumV b c)) := by
  obtain ⟨h1, h2⟩ := ha; obtain ⟨h3, h4⟩ := hb; obtain ⟨h5, h6⟩ := hc
  unfold sumB sumV
  by_cases g1 : a + b < 18446744073709551616 <;> by_cases g2 : b + c < 18446744073709551616 <;> by_cases g3 : a + b + c < 18446744073709551616
  all_goals (try omega)
  · have g4 : a + (b + c) < 18446744073709551616 := by omega
    simp [g1, g2, g3, g4]; omega
  · have g4 : ¬ a + (b + c) < 18446744073709551616 := by omega
    simp [g1, g2, g3, g4]
  · simp [g1, g2, g3]
  · have g4 : ¬ a + (b + c) < 18446744073709551616 := by omega
    simp [g1, g2, g4]
  · simp [g1, g2]
theorem k3 (a b : Int) : a = 0 → mulB a b = true ∧ mulV a b = 0 := by
  intro h; subst h; unfold mulB mulV; simp
theorem k4 {a b c : Int} : (sumB b c && mulB a b && mulB a c) = true →
    mulB a (sumV b c) = sumB (mulV a b) (mulV a c) ∧ (mulB a (sumV b c) = true → mulV a (sumV b c) = sumV (mulV a b) (mulV a c)) := by
  unfold sumB mulB
  intro h
  simp only [Bool.and_eq_true, decide_eq_true_eq] at h
  obtain ⟨⟨h1, h2⟩, h3⟩ := h
  have e1 : sumV b c = b + c := by unfold sumV; rw [if_pos h1]
  have e2 : mulV a b = a * b := by unfold mulV; rw [if_pos h2]
  have e3 : mulV a c = a * c := by unfold mulV; rw [if_pos h3]
  have e4 := Int.mul_add a b c
  rw [e1, e2, e3]
  unfold mulV sumV
  rw [e4]
  exact ⟨rfl, fun _ => rfl⟩

theorem sums_walk (a0 a1 a2 : Int) (w : World) (ha : Wd a0) (hb : Wd a1) (hc : Wd a2) :
    Calls Try.prog 4 #[.int .u64 a0, .int .u64 a1, .int .u64 a2] w fun e w' => e = .returned (.bool true) ∧ Grw w w' := by
  have e2 := fun w => sum_any a1 a0 w hb ha
  rw [sumV_comm, sumB_comm] at e2
  have e8 := fun w => times_any a1 a0 w hb ha
  rw [mulV_comm, mulB_comm] at e8
  exact sums_core a0 a1 a2 (sumV a0 a1) (sumV a1 a2) (sumV (sumV a0 a1) a2) (sumV a0 (sumV a1 a2)) (mulV a0 a1) (mulV a0 a2) (mulV a0 (sumV a1 a2)) (sumV (mulV a0 a1) (mulV a0 a2)) (heldV a0 a1)
    (sumB a0 a1) (sumB a1 a2) (sumB (sumV a0 a1) a2) (sumB a0 (sumV a1 a2)) (mulB a0 a1) (mulB a0 a2) (mulB a0 (sumV a1 a2)) (sumB (mulV a0 a1) (mulV a0 a2)) w
    (Lib.hid fun w => sum_any a0 a1 w ha hb) (Lib.hid e2) (Lib.hid fun w => held_any a0 a1 w ha hb) (Lib.hid fun w => sum_any a1 a2 w hb hc)
    (Lib.hid fun w => sum_any _ a2 w (sumV_wd ha hb) hc) (Lib.hid fun w => sum_any a0 _ w ha (sumV_wd hb hc))
    (Lib.hid fun w => times_any a0 a1 w ha hb) (Lib.hid e8) (Lib.hid fun w => times_any a0 a2 w ha hc) (Lib.hid fun w => times_any a0 _ w ha (sumV_wd hb hc))
    (Lib.hid fun w => sum_any _ _ w (mulV_wd ha hb) (mulV_wd ha hc))
    (Lib.hid (k1 a0 a1)) (Lib.hid (k2 ha hb hc)) (Lib.hid (k3 a0 a1)) (Lib.hid k4)
end Go.Proofs.Ytopfllmdejdgpaa
