/-
  DERIVED. GIVEN WITH THE SEED: THE CARDS: each row of YtnnonidiogoffaaGreatDoorRows.lean that lists a variable, with what it lists TIED to the program's text (the seventh form; the later family's looks); each row that meets fmt, with fmt's text TOLD by the authors' own Lean function (tested against real Go, not proved from fmt's source: count such statements apart). THE CARD IS WHAT COUNTS. Prove the row's statement (the work); the ties are given (YtnnonidiogoffaaGreatDoorTie.lean); close each card by the builder's one call (the guide's Derived/Test/ToyasCard.lean, 'card_holds'). Laid BY PROGRAM, IN A SANDBOX (cutbox-door.mjs). By AI agents, Wed Nov 11 2026. No macro, syntax, notation, axiom, sorry.
-/
import Derived.Test.YtnnonidiogoffaaGreatDoorRows
import GoSem.ClaimSeven
namespace Go.Proofs.YtnnonidiogoffaaGreatDoor
namespace Rows

/-- THE TIED CARD OF 'pyxlaw12.PemMatchesReference'. -/
def pemMatchesReferenceCard : Claim7 := { stood := { row := pemMatchesReferenceRow, standIns := [], harness := (true, "9bf2829deaf056d2d31ca79bd90436208a853b4f44741feca94e319eef72b267"), looks := true }, kinds := [], alts := [], laidByText := true, laidKinds := [.data, .handle, .pinned], laidTests := true, laidLooks := .later }
def PemMatchesReferenceCardSaid : Prop := Claim7.holds Tryz.pinned (.plain (OpenSpec.ofChange pemMatchesReferenceSpec)) pemMatchesReferenceCard

/-- THE TIED CARD OF 'pyxlaw12.PemEncodes'. -/
def pemEncodesCard : Claim7 := { stood := { row := pemEncodesRow, standIns := [], harness := (true, "9bf2829deaf056d2d31ca79bd90436208a853b4f44741feca94e319eef72b267"), looks := true }, kinds := [], alts := [], laidByText := true, laidKinds := [.data, .handle, .pinned], laidTests := true, laidLooks := .later }
def PemEncodesCardSaid : Prop := Claim7.holds Tryz.pinned (.plain (OpenSpec.ofChange pemEncodesSpec)) pemEncodesCard

/-- THE TIED CARD OF 'pyxlaw12.PemChanges'. -/
def pemChangesCard : Claim7 := { stood := { row := pemChangesRow, standIns := [], harness := (true, "9bf2829deaf056d2d31ca79bd90436208a853b4f44741feca94e319eef72b267"), looks := true }, kinds := [], alts := [], laidByText := true, laidKinds := [.data, .handle, .pinned], laidTests := true, laidLooks := .later }
def PemChangesCardSaid : Prop := Claim7.holds Tryz.pinned (.plain (OpenSpec.ofChange pemChangesSpec)) pemChangesCard

/-- THE TIED CARD OF 'pyxlaw12.PemLabels'. -/
def pemLabelsCard : Claim7 := { stood := { row := pemLabelsRow, standIns := [], harness := (true, "9bf2829deaf056d2d31ca79bd90436208a853b4f44741feca94e319eef72b267"), looks := true }, kinds := [], alts := [], laidByText := true, laidKinds := [.data, .handle, .pinned], laidTests := true, laidLooks := .later }
def PemLabelsCardSaid : Prop := Claim7.holds Tryz.pinned (.plain (OpenSpec.ofChange pemLabelsSpec)) pemLabelsCard

/-- THE TIED CARD OF 'pyxlaw12.PemLimits'. -/
def pemLimitsCard : Claim7 := { stood := { row := pemLimitsRow, standIns := [], harness := (true, "9bf2829deaf056d2d31ca79bd90436208a853b4f44741feca94e319eef72b267"), looks := true }, kinds := [], alts := [], laidByText := true, laidKinds := [.data, .handle, .pinned], laidTests := true, laidLooks := .later }
def PemLimitsCardSaid : Prop := Claim7.holds Tryz.pinned (.plain (OpenSpec.ofChange pemLimitsSpec)) pemLimitsCard

/-- THE SECOND FORM's CARD OF 'pyxlaw12.PemMatchesReference'. -/
def pemMatchesReferenceUptoCard : Claim7 := { stood := { row := pemMatchesReferenceUptoRow, standIns := [], harness := (true, "9bf2829deaf056d2d31ca79bd90436208a853b4f44741feca94e319eef72b267"), looks := true }, kinds := [], alts := [], laidByText := true, laidKinds := [.data, .handle, .pinned], laidTests := true, laidLooks := .later }
def PemMatchesReferenceUptoCardSaid : Prop := Claim7.holds Tryz.pinned (.plain (OpenSpec.upto pemMatchesReferenceSpec)) pemMatchesReferenceUptoCard

/-- THE SECOND FORM's CARD OF 'pyxlaw12.PemEncodes'. -/
def pemEncodesUptoCard : Claim7 := { stood := { row := pemEncodesUptoRow, standIns := [], harness := (true, "9bf2829deaf056d2d31ca79bd90436208a853b4f44741feca94e319eef72b267"), looks := true }, kinds := [], alts := [], laidByText := true, laidKinds := [.data, .handle, .pinned], laidTests := true, laidLooks := .later }
def PemEncodesUptoCardSaid : Prop := Claim7.holds Tryz.pinned (.plain (OpenSpec.upto pemEncodesSpec)) pemEncodesUptoCard

/-- THE SECOND FORM's CARD OF 'pyxlaw12.PemChanges'. -/
def pemChangesUptoCard : Claim7 := { stood := { row := pemChangesUptoRow, standIns := [], harness := (true, "9bf2829deaf056d2d31ca79bd90436208a853b4f44741feca94e319eef72b267"), looks := true }, kinds := [], alts := [], laidByText := true, laidKinds := [.data, .handle, .pinned], laidTests := true, laidLooks := .later }
def PemChangesUptoCardSaid : Prop := Claim7.holds Tryz.pinned (.plain (OpenSpec.upto pemChangesSpec)) pemChangesUptoCard

/-- THE SECOND FORM's CARD OF 'pyxlaw12.PemLabels'. -/
def pemLabelsUptoCard : Claim7 := { stood := { row := pemLabelsUptoRow, standIns := [], harness := (true, "9bf2829deaf056d2d31ca79bd90436208a853b4f44741feca94e319eef72b267"), looks := true }, kinds := [], alts := [], laidByText := true, laidKinds := [.data, .handle, .pinned], laidTests := true, laidLooks := .later }
def PemLabelsUptoCardSaid : Prop := Claim7.holds Tryz.pinned (.plain (OpenSpec.upto pemLabelsSpec)) pemLabelsUptoCard

/-- THE SECOND FORM's CARD OF 'pyxlaw12.PemLimits'. -/
def pemLimitsUptoCard : Claim7 := { stood := { row := pemLimitsUptoRow, standIns := [], harness := (true, "9bf2829deaf056d2d31ca79bd90436208a853b4f44741feca94e319eef72b267"), looks := true }, kinds := [], alts := [], laidByText := true, laidKinds := [.data, .handle, .pinned], laidTests := true, laidLooks := .later }
def PemLimitsUptoCardSaid : Prop := Claim7.holds Tryz.pinned (.plain (OpenSpec.upto pemLimitsSpec)) pemLimitsUptoCard
end Rows
end Go.Proofs.YtnnonidiogoffaaGreatDoor
