/- Opening an array of three pairs of numbers of type uint16. -/
import Derived.Test.YtffoaldfklcfgaaOe
namespace Go.Proofs.Ytffoaldfklcfgaa
open Go.RowKit Go.WideShapes Go.ChangeShapes Go.Deep

theorem open_six {H : Type} {enc : TypeId × Value → H} {w : World} {base : Nat} {spare : Nat → Bool} {held : Bool} {r : Reach} {b0 : Nat} {v : Value} {d : DataW H} {p : List MemPlace}
    (hv : Value.okWide Try.prog w r b0 38 v) (h : DataW.Trod enc Try.prog w base spare held 38 v d p) :
    ∃ z : Nat → Nat, v = .agg #[.int .u16 (z 0 : Nat), .int .u16 (z 1 : Nat), .int .u16 (z 2 : Nat), .int .u16 (z 3 : Nat), .int .u16 (z 4 : Nat), .int .u16 (z 5 : Nat)] ∧ ∀ i, i < 6 → z i < 65536 := by
  have c38 : Try.prog.cellsOf 38 = 6 := by kernel_rfl
  have c37 : Try.prog.cellsOf 37 = 2 := by kernel_rfl
  have c36 : Try.prog.cellsOf 36 = 1 := by kernel_rfl
  simp only [Value.okWide, Try.underlying38] at hv
  obtain ⟨cs, rfl, hsz, _⟩ := hv
  rw [c38] at hsz
  obtain ⟨fuel, hf⟩ := h
  obtain ⟨xs, m, _, _, _, hl, hx⟩ := DataW.trod_array Try.underlying38 hf
  have key : ∀ j, j < 6 → ∃ z : Nat, cs[j]? = some (.int .u16 (z : Int)) ∧ z < 65536 := by
    intro j hj
    have g := hx (j / 2) (by omega)
    rw [c37] at g
    have hxi : xs[j / 2]? = some (xs[j / 2]'(by omega)) := List.getElem?_eq_getElem (by omega)
    rw [hxi] at g
    obtain ⟨ys, m2, _, _, _, hl2, hy⟩ := DataW.trod_array Try.underlying37 g
    have g2 := hy (j % 2) (by omega)
    rw [c36] at g2
    have hyi : ys[j % 2]? = some (ys[j % 2]'(by omega)) := List.getElem?_eq_getElem (by omega)
    rw [hyi] at g2
    obtain ⟨z, e1, _, wz⟩ := DataW.trod_int Try.underlying36 g2
    have bz := bounds_of wz
    have bz1 : 0 ≤ z := bz.1
    have bz2 : z ≤ 65535 := bz.2
    obtain ⟨k, rfl⟩ := Int.eq_ofNat_of_zero_le bz1
    refine ⟨k, ?_, by omega⟩
    simp only [Value.cells] at e1
    have hc := congrArg (fun l : List Value => l[0]?) e1
    simp only [List.getElem?_take, List.getElem?_drop, Nat.mul_one, Nat.add_zero] at hc
    rw [if_pos (by omega), if_pos (by omega), show j / 2 * 2 + j % 2 = j by omega] at hc
    simpa using hc
  refine ⟨fun j => if hj : j < 6 then (key j hj).choose else 0, ?_, fun i hi => ?_⟩
  · congr 1
    apply Array.ext_getElem?
    intro i
    by_cases h : i < 6
    · rw [(key i h).choose_spec.1]
      rcases i with _ | _ | _ | _ | _ | _ | i
      · simp
      · simp
      · simp
      · simp
      · simp
      · simp
      · omega
    · rw [Array.getElem?_eq_none (by omega), Array.getElem?_eq_none (by simp; omega)]
  · simp only [hi, dite_true]
    exact (key i hi).choose_spec.2
end Go.Proofs.Ytffoaldfklcfgaa
