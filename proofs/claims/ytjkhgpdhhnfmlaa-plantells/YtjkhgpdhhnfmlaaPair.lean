/- Opening a struct of two integers and an array of two integers by value. Nothing of the program is named here. -/
import Derived.Test.YtjkhgpdhhnfmlaaPost
import Derived.Lib.SmallJoins
namespace Go.Proofs.Ytjkhgpdhhnfmlaa
open Go.RowKit Go.WideShapes Go.ChangeShapes Go.Deep

theorem open_pair {H : Type} {enc : TypeId × Value → H} {P : Program} {w : World} {base : Nat} {spare : Nat → Bool} {held : Bool} {r : Reach} {b0 : Nat} {t : TypeId} {f0 f1 : Field} {k0 k1 : IntKind} {v : Value} {d : DataW H} {p : List MemPlace}
    (hs : P.underlying t = some (.struct #[f0, f1])) (hone : oneCellFields P #[f0, f1] = true) (hC : P.cellsOf t = 2) (h0 : P.underlying f0.type = some (.int k0)) (h1 : P.underlying f1.type = some (.int k1))
    (hv : Value.okWide P w r b0 t v) (h : DataW.Trod enc P w base spare held t v d p) :
    ∃ a b : Int, v = .agg #[.int k0 a, .int k1 b] ∧ (Lit.int k0 a).wf = true ∧ (Lit.int k1 b).wf = true := by
  obtain ⟨v0, v1, y0, y1, n, rfl, _, _, g0, g1⟩ := Joins.open_agg2 hs hone hC hv h
  obtain ⟨a, e0, _, w0⟩ := DataW.trod_int h0 g0
  obtain ⟨b, e1, _, w1⟩ := DataW.trod_int h1 g1
  have e0 : v0 = .int k0 a := by simpa using e0
  have e1 : v1 = .int k1 b := by simpa using e1
  subst e0 e1
  exact ⟨a, b, rfl, w0, w1⟩

/-- two numbers of type uint64. -/
theorem arr2_of (cs : Array Value) (f : Nat → Int) (hs : cs.size = 2) (hc : ∀ i, i < 2 → cs[i]? = some (.int .u64 (f i)) ∧ (Lit.int .u64 (f i)).wf = true) :
    ∃ a b : Nat, cs = #[.int .u64 a, .int .u64 b] ∧ a < 18446744073709551616 ∧ b < 18446744073709551616 := by
  have hb : ∀ i, i < 2 → 0 ≤ f i ∧ f i ≤ 18446744073709551615 := fun i hi => bounds_of (hc i hi).2
  have b0 := hb 0 (by omega)
  have b1 := hb 1 (by omega)
  refine ⟨(f 0).toNat, (f 1).toNat, ?_, by omega, by omega⟩
  apply Array.ext_getElem?
  intro i
  by_cases h : i < 2
  · rw [(hc i h).1]
    rcases i with _ | _ | i
    · simp; omega
    · simp; omega
    · omega
  · rw [Array.getElem?_eq_none (by omega), Array.getElem?_eq_none (by simp; omega)]
end Go.Proofs.Ytjkhgpdhhnfmlaa
