/- The contracts of the document's Of, With, Without at this program. -/
import Derived.Test.YtlihcljjpalapaaWd
namespace Go.Proofs.Ytlihcljjpalapaa
open Go.RowKit MK
set_option linter.unusedSimpArgs false

theorem wth_out {m : Nat} {i : Int} (h : ¬ (0 ≤ i ∧ i < 64)) : wth m i = m := if_neg h
theorem wth_has {m : Nat} {i : Int} (hm : m < 2 ^ 64) (h : has m i = true) : wth m i = m := by
  refine ext64 (wth_lt hm i) hm fun k hk => ?_
  rw [wth_bit m i k hk]
  by_cases e : i = (k : Int)
  · subst e
    rw [has_nat m k hk] at h
    simp [h]
  · simp [e]
theorem wth_add {m q : Nat} (hq : q < 64) (h : has m (q : Int) = false) : wth m (q : Int) = m + 2 ^ q := by
  rw [has_nat m q hq] at h
  rw [add_bit h]
  unfold wth
  rw [if_pos (by omega)]; rfl

end Go.Proofs.Ytlihcljjpalapaa
