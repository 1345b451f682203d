/-
  DERIVED. GIVEN WITH THE SEED: THE CARDS: each row of YtkhflpnapjoomaaGreatDoorRows.lean that lists a variable, with what it lists TIED to the program's text (the seventh form; the later family's looks); each row that meets fmt, with fmt's text TOLD by the authors' own Lean function (tested against real Go, not proved from fmt's source: count such statements apart). THE CARD IS WHAT COUNTS. Prove the row's statement (the work); the ties are given (YtkhflpnapjoomaaGreatDoorTie.lean); close each card by the builder's one call (the guide's Derived/Test/ToyasCard.lean, 'card_holds'). Laid BY PROGRAM, IN A SANDBOX (cutbox-door.mjs). By AI agents, Wed Nov 11 2026. No macro, syntax, notation, axiom, sorry.
-/
import Derived.Test.YtkhflpnapjoomaaGreatDoorRows
import GoSem.ClaimSeven
namespace Go.Proofs.YtkhflpnapjoomaaGreatDoor
namespace Rows

/-- THE TIED CARD OF 'pyxlaw11.JsonLimits'. -/
def jsonLimitsCard : Claim7 := { stood := { row := jsonLimitsRow, standIns := [], harness := (true, "f07821aa425c651a86ddcf3333d0896641c73073879bd20004d0395f335c1d73"), looks := true }, kinds := [], alts := [], laidByText := true, laidKinds := [.data, .handle, .data, .pinned], laidTests := true, laidLooks := .later }
def JsonLimitsCardSaid : Prop := Claim7.holds Tryz.pinned (.plain (OpenSpec.ofChange jsonLimitsSpec)) jsonLimitsCard

/-- THE SECOND FORM's CARD OF 'pyxlaw11.JsonLimits'. -/
def jsonLimitsUptoCard : Claim7 := { stood := { row := jsonLimitsUptoRow, standIns := [], harness := (true, "f07821aa425c651a86ddcf3333d0896641c73073879bd20004d0395f335c1d73"), looks := true }, kinds := [], alts := [], laidByText := true, laidKinds := [.data, .handle, .data, .pinned], laidTests := true, laidLooks := .later }
def JsonLimitsUptoCardSaid : Prop := Claim7.holds Tryz.pinned (.plain (OpenSpec.upto jsonLimitsSpec)) jsonLimitsUptoCard
end Rows
end Go.Proofs.YtkhflpnapjoomaaGreatDoor
