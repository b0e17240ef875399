/- Opening a slice of uint64 that came in. -/
import Derived.Test.YtjkhgpdhhnfmlaaNw
import Derived.Test.YtjkhgpdhhnfmlaaPost
import Derived.ChangeSlices
import Derived.ChangeSame
namespace Go.Proofs.Ytjkhgpdhhnfmlaa
open Go.RowKit Go.WideShapes Go.ChangeShapes

set_option maxRecDepth 100000 in
theorem cells_rowU {H : Type} {enc : TypeId × Value → H} {w : World} {fuel : Nat} {v : Value} {x : DataW H × List MemPlace} (h : DataW.trod enc Try.prog w 0 (fun _ => true) true fuel 44 [v] = some x) :
    ∃ ao n cap f, v = .slice ao n cap ∧ n ≤ 9223372036854775807 ∧ RowU w ao n f ∧ ∀ j, j < n → f j < 2 ^ 64 := by
  rcases open_ints Try.underlying44 Try.underlying23 (by kernel_rfl) h with ⟨hcs, _⟩ | ⟨a, len, cap, zs, hcs, _, hl, hm, hz, _, hcell, hwf⟩
  · injection hcs with hcs
    subst hcs
    exact ⟨none, 0, 0, fun _ => 0, rfl, by omega, Or.inl rfl, fun j hj => by omega⟩
  · injection hcs with hcs
    subst hcs
    simp only [if_true] at hz
    have hb : ∀ i, i < cap → 0 ≤ zs.getD i 0 ∧ zs.getD i 0 ≤ 18446744073709551615 := fun i hi => by
      have hm : zs.getD i 0 ∈ zs := by
        have hi' : i < zs.length := by omega
        rw [show zs.getD i 0 = zs[i] by simp [List.getD, hi']]
        exact List.getElem_mem _
      exact bounds_of (hwf _ hm)
    have hcn : len ≤ 9223372036854775807 := by unfold maxLen at hm; omega
    by_cases h0 : len = 0
    · exact ⟨some a, len, cap, fun j => (zs.getD j 0).toNat, rfl, hcn, Or.inl h0, fun j hj => by omega⟩
    · obtain ⟨b, off, spot⟩ := a
      have hspot : spot = none := by simpa [Addr.add] using World.cell?_spot (hcell 0 (by omega))
      subst hspot
      refine ⟨_, len, cap, fun j => (zs.getD j 0).toNat, rfl, hcn, Or.inr ⟨b, off, rfl, ?_, fun j hj => ?_⟩, fun j hj => ?_⟩
      · have := World.block_lt_of_cell? w _ (hcell 0 (by omega))
        simpa [Addr.add] using this
      · have := hcell j (by omega)
        rw [show (⟨b, off, none⟩ : Addr).add j = ⟨b, off + j, none⟩ by unfold Addr.add; split <;> simp_all] at this
        rw [this]
        have hbj := hb j (by omega)
        simp only [Option.some.injEq, Value.int.injEq, true_and]
        omega
      · have hbj := hb j (by omega)
        show (zs.getD j 0).toNat < 2 ^ 64
        omega
set_option maxRecDepth 100000 in
theorem open_us {H : Type} {enc : TypeId × Value → H} {w : World} {r : Reach} {b0 : Nat} {v : Value} {d : DataW H} {p : List MemPlace} (hv : Value.okWide Try.prog w r b0 44 v) (h : DataW.Trod enc Try.prog w 0 (fun _ => true) true 44 v d p) :
    ∃ ao n cap f, v = .slice ao n cap ∧ n ≤ 9223372036854775807 ∧ RowU w ao n f ∧ ∀ j, j < n → f j < 2 ^ 64 := by
  obtain ⟨a0, len, cap, rfl⟩ := okWide_slice Try.underlying44 hv
  obtain ⟨fuel, hf⟩ := h
  exact cells_rowU (fuel := fuel) hf
end Go.Proofs.Ytjkhgpdhhnfmlaa
