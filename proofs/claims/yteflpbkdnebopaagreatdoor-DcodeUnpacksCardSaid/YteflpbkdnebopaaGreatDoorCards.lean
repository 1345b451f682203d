/-
  DERIVED. GIVEN WITH THE SEED: THE CARDS: each row of YteflpbkdnebopaaGreatDoorRows.lean that lists a variable, with what it lists TIED to the program's text (the seventh form; the later family's looks); each row that meets fmt, with fmt's text TOLD by the authors' own Lean function (tested against real Go, not proved from fmt's source: count such statements apart). THE CARD IS WHAT COUNTS. Prove the row's statement (the work); the ties are given (YteflpbkdnebopaaGreatDoorTie.lean); close each card by the builder's one call (the guide's Derived/Test/ToyasCard.lean, 'card_holds'). Laid BY PROGRAM, IN A SANDBOX (cutbox-door.mjs). By AI agents, Wed Nov 11 2026. No macro, syntax, notation, axiom, sorry.
-/
import Derived.Test.YteflpbkdnebopaaGreatDoorRows
import GoSem.ClaimSeven
namespace Go.Proofs.YteflpbkdnebopaaGreatDoor
namespace Rows

/-- THE TIED CARD OF 'pyxlaw18.DcodeMatchesReference'. -/
def dcodeMatchesReferenceCard : Claim7 := { stood := { row := dcodeMatchesReferenceRow, standIns := [], harness := (true, "5fae8c9b36e89603c71781bca68c72b8ce76c76d882689786226d345e704a3cf"), looks := true }, kinds := [], alts := [], laidByText := true, laidKinds := [.data, .data, .data, .data, .handle, .sentinel, .sentinel, .data, .data, .data, .data, .pinned], laidTests := true, laidLooks := .later }
def DcodeMatchesReferenceCardSaid : Prop := Claim7.holds Tryz.pinned (.plain (OpenSpec.ofChange dcodeMatchesReferenceSpec)) dcodeMatchesReferenceCard

/-- THE TIED CARD OF 'pyxlaw18.DcodeSplits'. -/
def dcodeSplitsCard : Claim7 := { stood := { row := dcodeSplitsRow, standIns := [], harness := (true, "5fae8c9b36e89603c71781bca68c72b8ce76c76d882689786226d345e704a3cf"), looks := true }, kinds := [], alts := [], laidByText := true, laidKinds := [.data, .data, .data, .data, .handle, .sentinel, .sentinel, .data, .data, .data, .data, .pinned], laidTests := true, laidLooks := .later }
def DcodeSplitsCardSaid : Prop := Claim7.holds Tryz.pinned (.plain (OpenSpec.ofChange dcodeSplitsSpec)) dcodeSplitsCard

/-- THE TIED CARD OF 'pyxlaw18.DcodeUnpacks'. -/
def dcodeUnpacksCard : Claim7 := { stood := { row := dcodeUnpacksRow, standIns := [], harness := (true, "5fae8c9b36e89603c71781bca68c72b8ce76c76d882689786226d345e704a3cf"), looks := true }, kinds := [], alts := [], laidByText := true, laidKinds := [.data, .data, .data, .data, .handle, .sentinel, .sentinel, .data, .data, .data, .data, .pinned], laidTests := true, laidLooks := .later }
def DcodeUnpacksCardSaid : Prop := Claim7.holds Tryz.pinned (.plain (OpenSpec.ofChange dcodeUnpacksSpec)) dcodeUnpacksCard

/-- THE SECOND FORM's CARD OF 'pyxlaw18.DcodeMatchesReference'. -/
def dcodeMatchesReferenceUptoCard : Claim7 := { stood := { row := dcodeMatchesReferenceUptoRow, standIns := [], harness := (true, "5fae8c9b36e89603c71781bca68c72b8ce76c76d882689786226d345e704a3cf"), looks := true }, kinds := [], alts := [], laidByText := true, laidKinds := [.data, .data, .data, .data, .handle, .sentinel, .sentinel, .data, .data, .data, .data, .pinned], laidTests := true, laidLooks := .later }
def DcodeMatchesReferenceUptoCardSaid : Prop := Claim7.holds Tryz.pinned (.plain (OpenSpec.upto dcodeMatchesReferenceSpec)) dcodeMatchesReferenceUptoCard

/-- THE SECOND FORM's CARD OF 'pyxlaw18.DcodeSplits'. -/
def dcodeSplitsUptoCard : Claim7 := { stood := { row := dcodeSplitsUptoRow, standIns := [], harness := (true, "5fae8c9b36e89603c71781bca68c72b8ce76c76d882689786226d345e704a3cf"), looks := true }, kinds := [], alts := [], laidByText := true, laidKinds := [.data, .data, .data, .data, .handle, .sentinel, .sentinel, .data, .data, .data, .data, .pinned], laidTests := true, laidLooks := .later }
def DcodeSplitsUptoCardSaid : Prop := Claim7.holds Tryz.pinned (.plain (OpenSpec.upto dcodeSplitsSpec)) dcodeSplitsUptoCard

/-- THE SECOND FORM's CARD OF 'pyxlaw18.DcodeUnpacks'. -/
def dcodeUnpacksUptoCard : Claim7 := { stood := { row := dcodeUnpacksUptoRow, standIns := [], harness := (true, "5fae8c9b36e89603c71781bca68c72b8ce76c76d882689786226d345e704a3cf"), looks := true }, kinds := [], alts := [], laidByText := true, laidKinds := [.data, .data, .data, .data, .handle, .sentinel, .sentinel, .data, .data, .data, .data, .pinned], laidTests := true, laidLooks := .later }
def DcodeUnpacksUptoCardSaid : Prop := Claim7.holds Tryz.pinned (.plain (OpenSpec.upto dcodeUnpacksSpec)) dcodeUnpacksUptoCard
end Rows
end Go.Proofs.YteflpbkdnebopaaGreatDoor
