/- The contracts of mask.Of, of the document's Has and Of, and of the laws' own Ints at this program. -/
import Derived.Test.YtlihcljjpalapaaWc
namespace Go.Proofs.Ytlihcljjpalapaa
open Go.RowKit MK
set_option linter.unusedSimpArgs false

theorem with_is (m v : Nat) (i : Int) (w : World) (hm : m < 18446744073709551616) (h : wth m i = v) :
    Calls Try.prog 18 #[.int .u64 m, .int .i64 i] w fun e w' => e = .returned (.int .u64 (v : Nat)) ∧ w = w' := by rw [← h]; exact with_any m i w hm

/-- is it among the first k? -/
def inF (k : Nat) (f : Nat → Int) (i : Int) : Prop := ∃ j, j < k ∧ f j = i

end Go.Proofs.Ytlihcljjpalapaa
