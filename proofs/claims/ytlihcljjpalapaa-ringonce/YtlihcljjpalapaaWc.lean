/- The contracts of mask.List and of the document's List at this program. -/
import Derived.Test.YtlihcljjpalapaaWb
import Derived.Test.YtlihcljjpalapaaRw
namespace Go.Proofs.Ytlihcljjpalapaa
open Go.RowKit MK
set_option linter.unusedSimpArgs false

theorem Try.info3 : (Try.prog.info? 3).map (fun i => (i.zero, i.size, i.bytes)) = some (some (.int .i64 0), 1, 8) := by kernel_rfl
theorem pre_yes {m k : Nat} (h : m.testBit k = true) : pre m (k + 1) = pre m k ++ [(k : Int)] := by rw [pre_succ, if_pos h]
theorem pre_no {m k : Nat} (h : m.testBit k = false) : pre m (k + 1) = pre m k := by rw [pre_succ, if_neg (by rw [h]; decide)]

theorem bit_yes {m k q : Nat} (e : m / 2 ^ k = q) (h : m.testBit k = true) : ((q : Int) % 2 == 1) = true := by
  rw [Nat.testBit_eq_decide_div_mod_eq, e, decide_eq_true_eq] at h
  simp; omega
theorem bit_no {m k q : Nat} (e : m / 2 ^ k = q) (h : m.testBit k = false) : ((q : Int) % 2 == 1) = false := by
  rw [Nat.testBit_eq_decide_div_mod_eq, e, decide_eq_false_iff_not] at h
  simp; omega
end Go.Proofs.Ytlihcljjpalapaa
