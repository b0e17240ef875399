/- Keys of maps whose keys are integers, at this program. -/
import Derived.Test.YtjkhgpdhhnfmlaaSa
import Derived.Maps.OwnSet
namespace Go.Proofs.Ytjkhgpdhhnfmlaa
open Go.RowKit
open Go.Maps (Keyed IsMap Tidy)

def ky (i : Int) : Lit := .int .i64 i
theorem ky_ne {i j : Int} (h : i ≠ j) : ky i ≠ ky j := fun e => h (by injection e)
theorem ky_lit (i : Int) : WideAt.IsKeyLit (ky i) := trivial
def Wi (i : Int) : Prop := -9223372036854775808 ≤ i ∧ i ≤ 9223372036854775807
theorem wi_wf {i : Int} (h : Wi i) : (Lit.int .i64 i).wf = true := by
  unfold Lit.wf
  simp only [Bool.and_eq_true, decide_eq_true_eq]
  exact h
theorem law3 : Keyed Try.prog 3 := Maps.int_keyed Try.underlying3
end Go.Proofs.Ytjkhgpdhhnfmlaa
