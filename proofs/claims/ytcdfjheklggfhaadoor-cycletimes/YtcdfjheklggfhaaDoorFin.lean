/- What the last text of every law of this seat uses: the witness's world, the table of the powers of ten out of what is laid. -/
import Derived.Test.YtcdfjheklggfhaaDoorRows
import Derived.Test.YtcdfjheklggfhaaDoorWe
import Derived.ProofKit
import Derived.OpenShut
import Derived.Lay
import Derived.MakeChecks
import Derived.Stop.Joined
import Derived.Stop.LaidErr
namespace Go.Proofs.YtcdfjheklggfhaaDoor
open Go.ChangeShapes Go.WideShapes Go.ChangeAt Go.RowKit

theorem own : ownKnob Tryd.prog.godebug = none := by kernel_rfl
theorem laidOut : laidOutB Tryd.prog = true := by kernel_rfl
/-- what is listed in the rows of CycleParses, CycleRounds and CycleErrors. -/
abbrev listedA : List (String × DataW Unit) := Rows.cycleParsesRow.laid
/-- what is listed in the rows of CycleTimes and CycleBack. -/
abbrev listedB : List (String × DataW Unit) := Rows.cycleTimesRow.laid
theorem start_metA (os : Os) (args : Array Value) : laidMetH Tryd.prog listedA ((World.laidAll Tryd.prog os listedA).forCall (fun _ _ => 0) ⟨#[], args, []⟩).memory := by
  rw [MakeChecks.laidMetH_plain _ _ _ (by kernel_rfl)]
  exact laidMet_laidAll _ (by kernel_rfl) (by kernel_rfl)
theorem start_metB (os : Os) (args : Array Value) : laidMetH Tryd.prog listedB ((World.laidAll Tryd.prog os listedB).forCall (fun _ _ => 0) ⟨#[], args, []⟩).memory := by
  rw [MakeChecks.laidMetH_plain _ _ _ (by kernel_rfl)]
  exact laidMet_laidAll _ (by kernel_rfl) (by kernel_rfl)
theorem pow_is : (Rows.laid_internal_strconv_uint64pow10 : DataW Unit) = Lib.tabData .u64 Lib.pow10Tab := by kernel_rfl
theorem tab_of_laid {W : World} (h : laidMetH Tryd.prog listedB W) : Tab W := by
  rw [MakeChecks.laidMetH_plain _ _ _ (by kernel_rfl)] at h
  have h2 := laidMet.tail (laidMet.tail h)
  rw [pow_is] at h2
  exact Lib.tabIs_of_head (g := 1) (by kernel_rfl) (by kernel_rfl) Tryd.underlying97 Tryd.underlying23 (by kernel_rfl) (by kernel_rfl) h2
end Go.Proofs.YtcdfjheklggfhaaDoor
