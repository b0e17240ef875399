/-
  DERIVED. GIVEN WITH THE SEED: THE CARDS: each row of YtjkhgpdhhnfmlaaDoorRows.lean that lists a variable, with what it lists TIED to the program's text (the seventh form; the later family's looks); each row that meets fmt, with fmt's text TOLD by the authors' own Lean function (tested against real Go, not proved from fmt's source: count such statements apart). THE CARD IS WHAT COUNTS. Prove the row's statement (the work); the ties are given (YtjkhgpdhhnfmlaaDoorTie.lean); close each card by the builder's one call (the guide's Derived/Test/ToyasCard.lean, 'card_holds'). Laid BY PROGRAM, IN A SANDBOX (cutbox-door.mjs). By AI agents, Wed Nov 11 2026. No macro, syntax, notation, axiom, sorry.
-/
import Derived.Test.YtjkhgpdhhnfmlaaDoorRows
import GoSem.ClaimSeven
namespace Go.Proofs.YtjkhgpdhhnfmlaaDoor
namespace Rows

/-- THE TIED CARD OF 'remontoirlaw06.WheelPlays'. -/
def wheelPlaysCard : Claim7 := { stood := { row := wheelPlaysRow, standIns := [], harness := (true, "fe30e7fe0a875b356f930f3912ac6686414b3455b16fcb566fa2b25fa8798325"), looks := false }, kinds := [], alts := [], laidByText := true, laidKinds := [.data], laidTests := true, laidLooks := .later }
def WheelPlaysCardSaid : Prop := Claim7.holds Tryd.pinned (.plain (OpenSpec.ofChange wheelPlaysSpec)) wheelPlaysCard

/-- THE TIED CARD OF 'remontoirlaw06.WheelFires'. -/
def wheelFiresCard : Claim7 := { stood := { row := wheelFiresRow, standIns := [], harness := (true, "fe30e7fe0a875b356f930f3912ac6686414b3455b16fcb566fa2b25fa8798325"), looks := false }, kinds := [], alts := [], laidByText := true, laidKinds := [.data], laidTests := true, laidLooks := .later }
def WheelFiresCardSaid : Prop := Claim7.holds Tryd.pinned (.plain (OpenSpec.ofChange wheelFiresSpec)) wheelFiresCard

/-- THE TIED CARD OF 'remontoirlaw07.PlanWheel'. -/
def planWheelCard : Claim7 := { stood := { row := planWheelRow, standIns := [], harness := (true, "fe30e7fe0a875b356f930f3912ac6686414b3455b16fcb566fa2b25fa8798325"), looks := false }, kinds := [], alts := [], laidByText := true, laidKinds := [.data], laidTests := true, laidLooks := .later }
def PlanWheelCardSaid : Prop := Claim7.holds Tryd.pinned (.plain (OpenSpec.ofChange planWheelSpec)) planWheelCard

/-- THE SECOND FORM's CARD OF 'remontoirlaw06.WheelPlays'. -/
def wheelPlaysUptoCard : Claim7 := { stood := { row := wheelPlaysUptoRow, standIns := [], harness := (true, "fe30e7fe0a875b356f930f3912ac6686414b3455b16fcb566fa2b25fa8798325"), looks := false }, kinds := [], alts := [], laidByText := true, laidKinds := [.data], laidTests := true, laidLooks := .later }
def WheelPlaysUptoCardSaid : Prop := Claim7.holds Tryd.pinned (.plain (OpenSpec.upto wheelPlaysSpec)) wheelPlaysUptoCard

/-- THE SECOND FORM's CARD OF 'remontoirlaw06.WheelFires'. -/
def wheelFiresUptoCard : Claim7 := { stood := { row := wheelFiresUptoRow, standIns := [], harness := (true, "fe30e7fe0a875b356f930f3912ac6686414b3455b16fcb566fa2b25fa8798325"), looks := false }, kinds := [], alts := [], laidByText := true, laidKinds := [.data], laidTests := true, laidLooks := .later }
def WheelFiresUptoCardSaid : Prop := Claim7.holds Tryd.pinned (.plain (OpenSpec.upto wheelFiresSpec)) wheelFiresUptoCard

/-- THE SECOND FORM's CARD OF 'remontoirlaw07.PlanWheel'. -/
def planWheelUptoCard : Claim7 := { stood := { row := planWheelUptoRow, standIns := [], harness := (true, "fe30e7fe0a875b356f930f3912ac6686414b3455b16fcb566fa2b25fa8798325"), looks := false }, kinds := [], alts := [], laidByText := true, laidKinds := [.data], laidTests := true, laidLooks := .later }
def PlanWheelUptoCardSaid : Prop := Claim7.holds Tryd.pinned (.plain (OpenSpec.upto planWheelSpec)) planWheelUptoCard
end Rows
end Go.Proofs.YtjkhgpdhhnfmlaaDoor
