/- For all numbers a, b, c of type uint64 the law TickSums returns true and leaves its arguments as they were. No condition. -/
import Derived.Test.YtopfllmdejdgpaaRows
import Derived.Test.YtopfllmdejdgpaaWd
import Derived.WalkKit
import Derived.ProofKit
import Derived.OpenShut
namespace Go.Proofs.Ytopfllmdejdgpaa.tickSums
open Go.ChangeShapes Go.WideShapes Go.ChangeAt Go.RowKit TM
set_option linter.unusedVariables false

theorem own : ownKnob Try.prog.godebug = none := by kernel_rfl

theorem wd_of {a : Int} (h : (Lit.int .u64 a).wf = true) : Wd a := by
  have := bounds_u64 h
  exact ⟨by omega, by omega⟩
theorem sumV_comm (a b : Int) : sumV b a = sumV a b := by unfold sumV; rw [Int.add_comm]
theorem sumB_comm (a b : Int) : sumB b a = sumB a b := by unfold sumB; rw [Int.add_comm]
theorem mulV_comm (a b : Int) : mulV b a = mulV a b := by unfold mulV; rw [Int.mul_comm]
theorem mulB_comm (a b : Int) : mulB b a = mulB a b := by unfold mulB; rw [Int.mul_comm]
theorem sumV_wd {a b : Int} (ha : Wd a) (hb : Wd b) : Wd (sumV a b) := by
  obtain ⟨h1, h2⟩ := ha; obtain ⟨h3, h4⟩ := hb
  unfold sumV; split
  · exact ⟨by omega, by omega⟩
  · exact ⟨by omega, by omega⟩
theorem mulV_wd {a b : Int} (ha : Wd a) (hb : Wd b) : Wd (mulV a b) := by
  have h := Int.mul_nonneg ha.1 hb.1
  unfold mulV; split
  · exact ⟨by omega, by omega⟩
  · exact ⟨by omega, by omega⟩
theorem k1 (a b : Int) : sumB a b = true ∧ heldV a b = sumV a b ∨ sumB a b = false ∧ sumV a b = 0 ∧ heldV a b = 18446744073709551615 := by
  unfold sumB sumV heldV
  by_cases h : a + b < 18446744073709551616
  · simp [h]
  · simp [h]
theorem k2 {a b c : Int} (ha : Wd a) (hb : Wd b) (hc : Wd c) :
    (sumB a b && sumB (sumV a b) c) = (sumB b c && sumB a (sumV b c)) ∧ ((sumB a b && sumB (sumV a b) c) = true → sumV (sumV a b) c = sumV a (sumV b c)) := by
  obtain ⟨h1, h2⟩ := ha; obtain ⟨h3, h4⟩ := hb; obtain ⟨h5, h6⟩ := hc
  unfold sumB sumV
  by_cases g1 : a + b < 18446744073709551616 <;> by_cases g2 : b + c < 18446744073709551616 <;> by_cases g3 : a + b + c < 18446744073709551616
  all_goals (try omega)
  · have g4 : a + (b + c) < 18446744073709551616 := by omega
    simp [g1, g2, g3, g4]; omega
  · have g4 : ¬ a + (b + c) < 18446744073709551616 := by omega
    simp [g1, g2, g3, g4]
  · simp [g1, g2, g3]
  · have g4 : ¬ a + (b + c) < 18446744073709551616 := by omega
    simp [g1, g2, g4]
  · simp [g1, g2]
theorem k3 (a b : Int) : a = 0 → mulB a b = true ∧ mulV a b = 0 := by
  intro h; subst h; unfold mulB mulV; simp
theorem k4 {a b c : Int} (ha : Wd a) (hb : Wd b) (hc : Wd c) : (sumB b c && mulB a b && mulB a c) = true →
    mulB a (sumV b c) = sumB (mulV a b) (mulV a c) ∧ (mulB a (sumV b c) = true → mulV a (sumV b c) = sumV (mulV a b) (mulV a c)) := by
  unfold sumB mulB
  intro h
  simp only [Bool.and_eq_true, decide_eq_true_eq] at h
  obtain ⟨⟨h1, h2⟩, h3⟩ := h
  have e1 : sumV b c = b + c := by unfold sumV; rw [if_pos h1]
  have e2 : mulV a b = a * b := by unfold mulV; rw [if_pos h2]
  have e3 : mulV a c = a * c := by unfold mulV; rw [if_pos h3]
  have e4 := Int.mul_add a b c
  rw [e1, e2, e3]
  unfold mulV sumV
  rw [e4]
  exact ⟨rfl, fun _ => rfl⟩

theorem walk (a0 : Int) (a1 : Int) (a2 : Int) (w0 : (Lit.int .u64 a0).wf = true) (w1 : (Lit.int .u64 a1).wf = true) (w2 : (Lit.int .u64 a2).wf = true) (w : World) :
    Calls Try.prog 4 #[.int .u64 a0, .int .u64 a1, .int .u64 a2] w fun e w' => e = .returned (.bool true) ∧ Grown w w' := by
  have ha := wd_of w0
  have hb := wd_of w1
  have hc := wd_of w2
  have e2 := fun w => sum_any a1 a0 w hb ha
  rw [sumV_comm, sumB_comm] at e2
  have e8 := fun w => times_any a1 a0 w hb ha
  rw [mulV_comm, mulB_comm] at e8
  exact sums_core a0 a1 a2 (sumV a0 a1) (sumV a1 a2) (sumV (sumV a0 a1) a2) (sumV a0 (sumV a1 a2)) (mulV a0 a1) (mulV a0 a2) (mulV a0 (sumV a1 a2)) (sumV (mulV a0 a1) (mulV a0 a2)) (heldV a0 a1)
    (sumB a0 a1) (sumB a1 a2) (sumB (sumV a0 a1) a2) (sumB a0 (sumV a1 a2)) (mulB a0 a1) (mulB a0 a2) (mulB a0 (sumV a1 a2)) (sumB (mulV a0 a1) (mulV a0 a2)) w
    (Lib.hid fun w => sum_any a0 a1 w ha hb) (Lib.hid e2) (Lib.hid fun w => held_any a0 a1 w ha hb) (Lib.hid fun w => sum_any a1 a2 w hb hc)
    (Lib.hid fun w => sum_any _ a2 w (sumV_wd ha hb) hc) (Lib.hid fun w => sum_any a0 _ w ha (sumV_wd hb hc))
    (Lib.hid fun w => times_any a0 a1 w ha hb) (Lib.hid e8) (Lib.hid fun w => times_any a0 a2 w ha hc) (Lib.hid fun w => times_any a0 _ w ha (sumV_wd hb hc))
    (Lib.hid fun w => sum_any _ _ w (mulV_wd ha hb) (mulV_wd ha hc))
    (Lib.hid (k1 a0 a1)) (Lib.hid (k2 ha hb hc)) (Lib.hid (k3 a0 a1)) (Lib.hid (k4 ha hb hc))

/-! ### THE ROW's STEP: WRITTEN OUT: LEAVE IT -/
set_option maxRecDepth 100000 in
theorem lifted (os : Os) (started : os.Started) (H : Type) (enc : TypeId × Value → H) :
    ReturnsInHanded {} Try.checked os 4 .any (Rows.tickSumsSpec.pre6 enc Try.prog Try.f4 Rows.tickSumsRow.domain false) (Rows.tickSumsSpec.post enc Try.prog Try.f4 false true false false) := by
  refine returnsInHanded_of_change (C := Try.checked) own started (by kernel_rfl) Try.func4
    (ChangeSpec.witness6 (enc := enc) (C := Try.checked) false ⟨#[], #[.int .u64 0, .int .u64 0, .int .u64 0], []⟩ 8 (by kernel_rfl) (by kernel_rfl) (by kernel_rfl) (by kernel_rfl)) ?_
  intro W base args ds gs before hval0 hW hcnd _
  have hval : ∀ (j : Nat) t v, Try.f4.params[j]? = some t → args[j]? = some v → Value.okWide Try.prog W .any base t v := hval0
  have hW' := hW
  obtain ⟨p, q, hA0, hV, rfl, hfz, hnd⟩ := hW
  have hA : DataW.TrodAll enc Try.prog W 0 (fun _ => true) true Try.f4.params.toList args.toList ds p := hA0
  rw [Try.params4] at hA hval
  obtain ⟨v0, vs0, d0, ds0, p0, q0, hargs, rfl, rfl, h0, r0⟩ := trodAll_cons hA
  obtain ⟨v1, vs1, d1, ds1, p1, q1, rfl, rfl, rfl, h1, r1⟩ := trodAll_cons r0
  obtain ⟨v2, vs2, d2, ds2, p2, q2, rfl, rfl, rfl, h2, r2⟩ := trodAll_cons r1
  obtain ⟨rfl, rfl, rfl⟩ := trodAll_nil r2
  obtain rfl : args = #[v0, v1, v2] := by cases args; simp_all
  obtain ⟨rfl, rfl⟩ := trodVars_none hV
  obtain ⟨a0, rfl, rfl, rfl, w0⟩ := open_int Try.underlying22 (hval 0 22 v0 rfl rfl) h0
  obtain ⟨a1, rfl, rfl, rfl, w1⟩ := open_int Try.underlying22 (hval 1 22 v1 rfl rfl) h1
  obtain ⟨a2, rfl, rfl, rfl, w2⟩ := open_int Try.underlying22 (hval 2 22 v2 rfl rfl) h2
  clear hA0 hval0
  simp only [List.append_nil] at hW'
  refine (walk a0 a1 a2 w0 w1 w2 W).mono fun e W' ⟨he, hg⟩ => ?_
  subst he
  exact ⟨_, rfl, post_of_same (pa := []) (pv := []) hW' (fun _ _ _ => (trodAll_cons_mk (shut_bool Try.underlying4 _) trodAll_mk0)) (fun sp _ => (trodAll_cons_mk (shut_int Try.underlying22 w0) (trodAll_cons_mk (shut_int Try.underlying22 w1) (trodAll_cons_mk (shut_int Try.underlying22 w2) trodAll_mk0)))) (fun _ _ => rfl) rfl
    (hg.frame _) hg.2.1 (ok_one (by kernel_rfl) rfl (okWide_bool_mk Try.underlying4 _))⟩

theorem over : Rows.tickSumsRow.holds Try.pinned (OpenSpec.ofChange Rows.tickSumsSpec) :=
  OpenClaim.holds_of_wide 4 Try.f4 rfl rfl rfl rfl rfl rfl rfl ⟨rfl, rfl, rfl, rfl, rfl⟩ rfl rfl rfl rfl rfl (by kernel_rfl) Try.func4 (by kernel_rfl)
    (of_decide_eq_true (by kernel_rfl)) (by unfold Func.isWrapper; first | (rw [if_pos (by decide +kernel)]; kernel_rfl) | (rw [if_neg (by decide +kernel)]; exact ⟨rfl, rfl⟩))
    (fun os started H enc _ => lifted os started H enc)

end Go.Proofs.Ytopfllmdejdgpaa.tickSums
namespace Go.Proofs.Ytopfllmdejdgpaa
theorem tickSums_holds : Rows.TickSumsSaid := tickSums.over
end Go.Proofs.Ytopfllmdejdgpaa
