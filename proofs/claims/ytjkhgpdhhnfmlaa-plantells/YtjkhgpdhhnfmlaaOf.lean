/- Opening a slice of timers that came in: nil, or where they lie. -/
import Derived.Test.YtjkhgpdhhnfmlaaPt
namespace Go.Proofs.Ytjkhgpdhhnfmlaa
open Go.RowKit Go.WideShapes Go.ChangeShapes Go.Deep
open RG (Du)
open PM

theorem nil_cap {H : Type} {enc : TypeId × Value → H} {w : World} {n cap : Nat} {d : DataW H} {p : List MemPlace}
    (h : DataW.Trod enc Try.prog w 0 (fun _ => true) true 22 (.slice none n cap) d p) : n = 0 ∧ cap = 0 := by
  obtain ⟨fuel, hf⟩ := h
  rcases open_slice Try.underlying22 hf with ⟨hcs, _⟩ | ⟨a, len', cap', m, n', D, Pl, hcs, _⟩
  · simp [Value.cells] at hcs
    exact ⟨hcs.1, hcs.2⟩
  · simp [Value.cells] at hcs
theorem are_of {H : Type} {enc : TypeId × Value → H} {w : World} {ao : Option Addr} {cap : Nat} {l : List Du} {d : DataW H} {p : List MemPlace}
    (h : DataW.Trod enc Try.prog w 0 (fun _ => true) true 22 (.slice ao l.length cap) d p) (hl : Lies w ao (cd l)) : Are w (.slice ao l.length cap) l := by
  cases ao with
  | none =>
    obtain ⟨h1, h2⟩ := nil_cap h
    have : l = [] := List.eq_nil_of_length_eq_zero h1
    subst this
    subst h2
    exact Or.inl ⟨rfl, rfl⟩
  | some a => exact Or.inr ⟨a, cap, rfl, hl⟩
end Go.Proofs.Ytjkhgpdhhnfmlaa
