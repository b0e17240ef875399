/- What the last text of every law of this seat uses: the witness's world, the library's table out of what is laid. -/
import Derived.Test.YtjkhgpdhhnfmlaaDoorRows
import Derived.Test.YtjkhgpdhhnfmlaaDoorWb
import Derived.ProofKit
import Derived.OpenShut
import Derived.Lay
import Derived.MakeChecks
import Derived.Lib.LaidTab
import Derived.Stop.Joined
import Derived.Stop.LaidErr
namespace Go.Proofs.YtjkhgpdhhnfmlaaDoor
open Go.ChangeShapes Go.WideShapes Go.ChangeAt Go.RowKit

theorem lt64 {n : Nat} (h : (n : Int) ≤ IntKind.u64.max) : n < 2 ^ 64 := by
  have e : IntKind.u64.max = 18446744073709551615 := by decide
  omega
theorem own : ownKnob Tryd.prog.godebug = none := by kernel_rfl
theorem laidOut : laidOutB Tryd.prog = true := by kernel_rfl
/-- what is listed in every row of this seat. -/
abbrev listed : List (String × DataW Unit) := Rows.wheelPlaysRow.laid
theorem start_met (os : Os) (args : Array Value) : laidMetH Tryd.prog listed ((World.laidAll Tryd.prog os listed).forCall (fun _ _ => 0) ⟨#[], args, []⟩).memory := by
  rw [MakeChecks.laidMetH_plain _ _ _ (by kernel_rfl)]
  exact laidMet_laidAll _ (by kernel_rfl) (by kernel_rfl)
theorem table_is : (Rows.laid_math_bits_deBruijn64tab : DataW Unit) = Lib.tabData .u8 (Lib.deBruijn64tab.map fun n : Nat => (n : Int)) := by kernel_rfl
theorem tab_of_laid {W : World} (h : laidMetH Tryd.prog listed W) : Tab W := by
  rw [MakeChecks.laidMetH_plain _ _ _ (by kernel_rfl)] at h
  have h2 : laidMet Tryd.prog [("math/bits.deBruijn64tab", Rows.laid_math_bits_deBruijn64tab)] W := h
  rw [table_is] at h2
  have h3 := Lib.tabIs_of_head (g := 0) (by kernel_rfl) (by kernel_rfl) Tryd.underlying129 Tryd.underlying5 (by kernel_rfl) (by kernel_rfl) h2
  intro j hj
  have h4 := h3.cell (g := 0) (by kernel_rfl) j (by rw [List.length_map]; exact hj)
  rw [h4]
  have : (Lib.deBruijn64tab.map fun n : Nat => (n : Int)).getD j 0 = ((Lib.deBruijn64tab.getD j 0 : Nat) : Int) := by
    have hj' : j < Lib.deBruijn64tab.length := hj
    simp [hj']
  rw [this]
end Go.Proofs.YtjkhgpdhhnfmlaaDoor
