/- Opening what came in: a slice of int, the state of a job. -/
import Derived.Test.YtfpadikoplgflaaWh
import Derived.Test.YtfpadikoplgflaaPair
import Derived.Test.YtfpadikoplgflaaPost
import Derived.Deep.SlicePairs
import Derived.Deep.Strs
namespace Go.Proofs.Ytfpadikoplgflaa
open Go.RowKit Go.WideShapes Go.ChangeShapes Go.Deep

set_option maxRecDepth 100000 in
theorem open_js {H : Type} {enc : TypeId × Value → H} {w : World} {r : Reach} {b0 : Nat} {v : Value} {d : DataW H} {p : List MemPlace}
    (hv : Value.okWide Try.prog w r b0 24 v) (h : DataW.Trod enc Try.prog w 0 (fun _ => true) true 24 v d p) :
    ∃ ao cap l, v = .slice ao l.length cap ∧ l.length ≤ 9223372036854775807 ∧ Lies w ao (ci l) := by
  obtain ⟨a0, len, cap, rfl⟩ := okWide_slice Try.underlying24 hv
  obtain ⟨fuel, hf⟩ := h
  rcases open_ints Try.underlying24 Try.underlying3 (by kernel_rfl) hf with ⟨hcs, _⟩ | ⟨a, len', cap', zs, hcs, _, hl, hm, hz, _, hcell, hwf⟩
  · simp [Value.cells] at hcs
    obtain ⟨rfl, rfl, rfl⟩ := hcs
    exact ⟨none, 0, [], rfl, by simp, Or.inl rfl⟩
  · simp [Value.cells] at hcs
    obtain ⟨rfl, rfl, rfl⟩ := hcs
    simp only [if_true] at hz
    have hlen : (zs.take len).length = len := by rw [List.length_take]; omega
    refine ⟨some a, cap, zs.take len, by rw [hlen], by rw [hlen]; unfold maxLen at hm; omega, ?_⟩
    · by_cases h0 : len = 0
      · left; subst h0; rfl
      · obtain ⟨b, off, spot⟩ := a
        have hspot : spot = none := by simpa [Addr.add] using World.cell?_spot (hcell 0 (by omega))
        subst hspot
        refine Or.inr ⟨b, off, rfl, ?_, fun j u hj => ?_⟩
        · have := World.block_lt_of_cell? w _ (hcell 0 (by omega))
          simpa [Addr.add] using this
        · have hj2 : j < (zs.take len).length := by
            rcases Nat.lt_or_ge j (zs.take len).length with g | g
            · exact g
            · rw [List.getElem?_eq_none (by unfold ci; simpa using g)] at hj; cases hj
          rw [ci_at hj2] at hj
          have hj3 : j < zs.length := by rw [hlen] at hj2; omega
          have := hcell j hj3
          rw [Addr.add_lit] at this
          rw [this, ← hj]
          simp [List.getD, hj3]
set_option maxRecDepth 100000 in
theorem open_try {H : Type} {enc : TypeId × Value → H} {w : World} {base : Nat} {spare : Nat → Bool} {held : Bool} {r : Reach} {b0 : Nat} {v : Value} {d : DataW H} {p : List MemPlace}
    (hv : Value.okWide Try.prog w r b0 23 v) (h : DataW.Trod enc Try.prog w base spare held 23 v d p) : ∃ a b : Int, v = .agg #[.int .i64 a, .int .i64 b] := by
  obtain ⟨a, b, e, _, _⟩ := open_pair Try.underlying23 (by kernel_rfl) (by kernel_rfl) Try.underlying3 Try.underlying3 hv h
  exact ⟨a, b, e⟩
end Go.Proofs.Ytfpadikoplgflaa
