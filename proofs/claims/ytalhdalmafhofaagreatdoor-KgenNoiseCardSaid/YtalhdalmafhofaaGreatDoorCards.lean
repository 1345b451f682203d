/-
  DERIVED. GIVEN WITH THE SEED: THE CARDS: each row of YtalhdalmafhofaaGreatDoorRows.lean that lists a variable, with what it lists TIED to the program's text (the seventh form; the later family's looks); each row that meets fmt, with fmt's text TOLD by the authors' own Lean function (tested against real Go, not proved from fmt's source: count such statements apart). THE CARD IS WHAT COUNTS. Prove the row's statement (the work); the ties are given (YtalhdalmafhofaaGreatDoorTie.lean); close each card by the builder's one call (the guide's Derived/Test/ToyasCard.lean, 'card_holds'). Laid BY PROGRAM, IN A SANDBOX (cutbox-door.mjs). By AI agents, Wed Nov 11 2026. No macro, syntax, notation, axiom, sorry.
-/
import Derived.Test.YtalhdalmafhofaaGreatDoorRows
import GoSem.ClaimSeven
namespace Go.Proofs.YtalhdalmafhofaaGreatDoor
namespace Rows

/-- THE TIED CARD OF 'pyxlaw16.KgenNoise'. -/
def kgenNoiseCard : Claim7 := { stood := { row := kgenNoiseRow, standIns := [], harness := (true, "e47ed3d15dfac4eea8d5f0dbf8b69ac25f627a70deba777d2714b0f02a19afe3"), looks := true }, kinds := [], alts := [], laidByText := true, laidKinds := [.data, .data, .data, .data, .sentinel, .sentinel, .data, .data, .data, .data, .pinned], laidTests := true, laidLooks := .later }
def KgenNoiseCardSaid : Prop := Claim7.holds Tryz.pinned (.plain (OpenSpec.ofChange kgenNoiseSpec)) kgenNoiseCard

/-- THE SECOND FORM's CARD OF 'pyxlaw16.KgenNoise'. -/
def kgenNoiseUptoCard : Claim7 := { stood := { row := kgenNoiseUptoRow, standIns := [], harness := (true, "e47ed3d15dfac4eea8d5f0dbf8b69ac25f627a70deba777d2714b0f02a19afe3"), looks := true }, kinds := [], alts := [], laidByText := true, laidKinds := [.data, .data, .data, .data, .sentinel, .sentinel, .data, .data, .data, .data, .pinned], laidTests := true, laidLooks := .later }
def KgenNoiseUptoCardSaid : Prop := Claim7.holds Tryz.pinned (.plain (OpenSpec.upto kgenNoiseSpec)) kgenNoiseUptoCard
end Rows
end Go.Proofs.YtalhdalmafhofaaGreatDoor
