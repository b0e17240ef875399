/- The contracts of the document's With, Without, Next, Round at this program. -/
import Derived.Test.YtlihcljjpalapaaDoorWe
namespace Go.Proofs.YtlihcljjpalapaaDoor
open Go.RowKit MK
set_option linter.unusedSimpArgs false

/-- a slice that reads as a list. -/
def RowL (w : World) (v : Value) (l : List Int) : Prop := ∃ ao cap, v = .slice ao l.length cap ∧ RowF w ao l.length (fun j => l.getD j 0)
theorem RowL.later {w x : World} {v : Value} {l : List Int} (h : RowL w v l) (g : Grw w x) : RowL x v l :=
  let ⟨ao, cap, e, r⟩ := h; ⟨ao, cap, e, r.later g⟩
theorem rof_list {v : Value} {l : List Int} {w : World} (hl : l.length ≤ 9223372036854775807) (h : RowL w v l) :
    Calls Tryd.prog 41 #[v] w fun e w' => e = .returned (.int .u64 (ofL l : Nat)) ∧ Grw w w' := by
  obtain ⟨ao, cap, rfl, r⟩ := h
  have := rof_any ao l.length cap _ w hl r
  rw [fl_of] at this; exact this
theorem ofL_els {m : Nat} (hm : m < 2 ^ 64) : ofL (els m) = m :=
  ofL_eq hm _ fun k hk => by rw [mem_els, has_nat m k hk]
theorem ofL_with {m : Nat} (hm : m < 2 ^ 64) (i : Int) : ofL (els m ++ [i]) = wth m i := by
  rw [ofL_snoc, ofL_els hm]; rfl
theorem ofL_without {m : Nat} (hm : m < 2 ^ 64) (i : Int) : ofL ((els m).filter (fun z => decide (z ≠ i))) = wot m i :=
  ofL_eq (wot_lt hm i) _ fun k hk => by
    rw [List.mem_filter, mem_els, has_nat m k hk, wot_bit m i k hk, Bool.and_eq_true]
    by_cases e : (k : Int) = i
    · simp [e]
    · simp [e, Ne.symm e]

end Go.Proofs.YtlihcljjpalapaaDoor
