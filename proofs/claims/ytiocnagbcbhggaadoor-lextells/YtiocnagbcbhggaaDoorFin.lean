/- What the last text of every law of this seat uses: the witness's world, the two tables out of what is laid. -/
import Derived.Test.YtiocnagbcbhggaaDoorRows
import Derived.Test.YtiocnagbcbhggaaDoorOe
import Derived.ProofKit
import Derived.OpenShut
import Derived.Lay
import Derived.MakeChecks
import Derived.Stop.Joined
import Derived.Stop.LaidErr
namespace Go.Proofs.YtiocnagbcbhggaaDoor
open Go.ChangeShapes Go.WideShapes Go.ChangeAt Go.RowKit

theorem own : ownKnob Tryd.prog.godebug = none := by kernel_rfl
theorem laidOut : laidOutB Tryd.prog = true := by kernel_rfl
/-- what is listed (the same list in all five rows). -/
abbrev listed : List (String × DataW Unit) := Rows.lexTellsRow.laid
theorem start_met (os : Os) (args : Array Value) : laidMetH Tryd.prog listed ((World.laidAll Tryd.prog os listed).forCall (fun _ _ => 0) ⟨#[], args, []⟩).memory := by
  rw [MakeChecks.laidMetH_plain _ _ _ (by kernel_rfl)]
  exact laidMet_laidAll _ (by kernel_rfl) (by kernel_rfl)
theorem pow_is : (Rows.laid_internal_strconv_uint64pow10 : DataW Unit) = Lib.tabData .u64 Lib.pow10Tab := by kernel_rfl
theorem marks_is : (Rows.laid_remontoir_lex_marks : DataW Unit) = strData marksL := by kernel_rfl
theorem tab_of_laid {W : World} (h : laidMetH Tryd.prog listed W) : Mks W ∧ Tab W := by
  rw [MakeChecks.laidMetH_plain _ _ _ (by kernel_rfl)] at h
  have h2 := laidMet.tail (laidMet.tail h)
  have h4 := laidMet.tail (laidMet.tail h2)
  rw [pow_is] at h2
  rw [marks_is] at h4
  exact ⟨mks_of_var (by kernel_rfl) (strs_of_head (g := 0) (by kernel_rfl) (by kernel_rfl) Tryd.underlying51 Tryd.underlying9 (by kernel_rfl) (by kernel_rfl) h4),
    Lib.tabIs_of_head (g := 4) (by kernel_rfl) (by kernel_rfl) Tryd.underlying96 Tryd.underlying41 (by kernel_rfl) (by kernel_rfl) h2⟩
end Go.Proofs.YtiocnagbcbhggaaDoor
