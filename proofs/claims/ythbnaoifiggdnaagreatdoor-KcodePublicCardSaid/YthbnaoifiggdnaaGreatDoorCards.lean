/-
  DERIVED. GIVEN WITH THE SEED: THE CARDS: each row of YthbnaoifiggdnaaGreatDoorRows.lean that lists a variable, with what it lists TIED to the program's text (the seventh form; the later family's looks); each row that meets fmt, with fmt's text TOLD by the authors' own Lean function (tested against real Go, not proved from fmt's source: count such statements apart). THE CARD IS WHAT COUNTS. Prove the row's statement (the work); the ties are given (YthbnaoifiggdnaaGreatDoorTie.lean); close each card by the builder's one call (the guide's Derived/Test/ToyasCard.lean, 'card_holds'). Laid BY PROGRAM, IN A SANDBOX (cutbox-door.mjs). By AI agents, Wed Nov 11 2026. No macro, syntax, notation, axiom, sorry.
-/
import Derived.Test.YthbnaoifiggdnaaGreatDoorRows
import GoSem.ClaimSeven
namespace Go.Proofs.YthbnaoifiggdnaaGreatDoor
namespace Rows

/-- THE TIED CARD OF 'pyxlaw15.KcodeMatchesReference'. -/
def kcodeMatchesReferenceCard : Claim7 := { stood := { row := kcodeMatchesReferenceRow, standIns := [], harness := (true, "ac54c47457152d0401c8e0c85aa6bdf84d13c4e47788d6cb9690323efaf76f5c"), looks := true }, kinds := [], alts := [], laidByText := true, laidKinds := [.data, .data, .data, .data, .handle, .sentinel, .sentinel, .data, .data, .data, .data, .pinned], laidTests := true, laidLooks := .later }
def KcodeMatchesReferenceCardSaid : Prop := Claim7.holds Tryz.pinned (.plain (OpenSpec.ofChange kcodeMatchesReferenceSpec)) kcodeMatchesReferenceCard

/-- THE TIED CARD OF 'pyxlaw15.KcodePublic'. -/
def kcodePublicCard : Claim7 := { stood := { row := kcodePublicRow, standIns := [], harness := (true, "ac54c47457152d0401c8e0c85aa6bdf84d13c4e47788d6cb9690323efaf76f5c"), looks := true }, kinds := [], alts := [], laidByText := true, laidKinds := [.data, .data, .data, .data, .handle, .sentinel, .sentinel, .data, .data, .data, .data, .pinned], laidTests := true, laidLooks := .later }
def KcodePublicCardSaid : Prop := Claim7.holds Tryz.pinned (.plain (OpenSpec.ofChange kcodePublicSpec)) kcodePublicCard

/-- THE TIED CARD OF 'pyxlaw15.KcodePolys'. -/
def kcodePolysCard : Claim7 := { stood := { row := kcodePolysRow, standIns := [], harness := (true, "ac54c47457152d0401c8e0c85aa6bdf84d13c4e47788d6cb9690323efaf76f5c"), looks := true }, kinds := [], alts := [], laidByText := true, laidKinds := [.data, .data, .data, .data, .handle, .sentinel, .sentinel, .data, .data, .data, .data, .pinned], laidTests := true, laidLooks := .later }
def KcodePolysCardSaid : Prop := Claim7.holds Tryz.pinned (.plain (OpenSpec.ofChange kcodePolysSpec)) kcodePolysCard

/-- THE TIED CARD OF 'pyxlaw15.KcodeBytes'. -/
def kcodeBytesCard : Claim7 := { stood := { row := kcodeBytesRow, standIns := [], harness := (true, "ac54c47457152d0401c8e0c85aa6bdf84d13c4e47788d6cb9690323efaf76f5c"), looks := true }, kinds := [], alts := [], laidByText := true, laidKinds := [.data, .data, .data, .data, .handle, .sentinel, .sentinel, .data, .data, .data, .data, .pinned], laidTests := true, laidLooks := .later }
def KcodeBytesCardSaid : Prop := Claim7.holds Tryz.pinned (.plain (OpenSpec.ofChange kcodeBytesSpec)) kcodeBytesCard

/-- THE TIED CARD OF 'pyxlaw15.KcodeFirst'. -/
def kcodeFirstCard : Claim7 := { stood := { row := kcodeFirstRow, standIns := [], harness := (true, "ac54c47457152d0401c8e0c85aa6bdf84d13c4e47788d6cb9690323efaf76f5c"), looks := true }, kinds := [], alts := [], laidByText := true, laidKinds := [.data, .data, .data, .data, .handle, .sentinel, .sentinel, .data, .data, .data, .data, .pinned], laidTests := true, laidLooks := .later }
def KcodeFirstCardSaid : Prop := Claim7.holds Tryz.pinned (.plain (OpenSpec.ofChange kcodeFirstSpec)) kcodeFirstCard

/-- THE SECOND FORM's CARD OF 'pyxlaw15.KcodeMatchesReference'. -/
def kcodeMatchesReferenceUptoCard : Claim7 := { stood := { row := kcodeMatchesReferenceUptoRow, standIns := [], harness := (true, "ac54c47457152d0401c8e0c85aa6bdf84d13c4e47788d6cb9690323efaf76f5c"), looks := true }, kinds := [], alts := [], laidByText := true, laidKinds := [.data, .data, .data, .data, .handle, .sentinel, .sentinel, .data, .data, .data, .data, .pinned], laidTests := true, laidLooks := .later }
def KcodeMatchesReferenceUptoCardSaid : Prop := Claim7.holds Tryz.pinned (.plain (OpenSpec.upto kcodeMatchesReferenceSpec)) kcodeMatchesReferenceUptoCard

/-- THE SECOND FORM's CARD OF 'pyxlaw15.KcodePublic'. -/
def kcodePublicUptoCard : Claim7 := { stood := { row := kcodePublicUptoRow, standIns := [], harness := (true, "ac54c47457152d0401c8e0c85aa6bdf84d13c4e47788d6cb9690323efaf76f5c"), looks := true }, kinds := [], alts := [], laidByText := true, laidKinds := [.data, .data, .data, .data, .handle, .sentinel, .sentinel, .data, .data, .data, .data, .pinned], laidTests := true, laidLooks := .later }
def KcodePublicUptoCardSaid : Prop := Claim7.holds Tryz.pinned (.plain (OpenSpec.upto kcodePublicSpec)) kcodePublicUptoCard

/-- THE SECOND FORM's CARD OF 'pyxlaw15.KcodePolys'. -/
def kcodePolysUptoCard : Claim7 := { stood := { row := kcodePolysUptoRow, standIns := [], harness := (true, "ac54c47457152d0401c8e0c85aa6bdf84d13c4e47788d6cb9690323efaf76f5c"), looks := true }, kinds := [], alts := [], laidByText := true, laidKinds := [.data, .data, .data, .data, .handle, .sentinel, .sentinel, .data, .data, .data, .data, .pinned], laidTests := true, laidLooks := .later }
def KcodePolysUptoCardSaid : Prop := Claim7.holds Tryz.pinned (.plain (OpenSpec.upto kcodePolysSpec)) kcodePolysUptoCard

/-- THE SECOND FORM's CARD OF 'pyxlaw15.KcodeBytes'. -/
def kcodeBytesUptoCard : Claim7 := { stood := { row := kcodeBytesUptoRow, standIns := [], harness := (true, "ac54c47457152d0401c8e0c85aa6bdf84d13c4e47788d6cb9690323efaf76f5c"), looks := true }, kinds := [], alts := [], laidByText := true, laidKinds := [.data, .data, .data, .data, .handle, .sentinel, .sentinel, .data, .data, .data, .data, .pinned], laidTests := true, laidLooks := .later }
def KcodeBytesUptoCardSaid : Prop := Claim7.holds Tryz.pinned (.plain (OpenSpec.upto kcodeBytesSpec)) kcodeBytesUptoCard

/-- THE SECOND FORM's CARD OF 'pyxlaw15.KcodeFirst'. -/
def kcodeFirstUptoCard : Claim7 := { stood := { row := kcodeFirstUptoRow, standIns := [], harness := (true, "ac54c47457152d0401c8e0c85aa6bdf84d13c4e47788d6cb9690323efaf76f5c"), looks := true }, kinds := [], alts := [], laidByText := true, laidKinds := [.data, .data, .data, .data, .handle, .sentinel, .sentinel, .data, .data, .data, .data, .pinned], laidTests := true, laidLooks := .later }
def KcodeFirstUptoCardSaid : Prop := Claim7.holds Tryz.pinned (.plain (OpenSpec.upto kcodeFirstSpec)) kcodeFirstUptoCard
end Rows
end Go.Proofs.YthbnaoifiggdnaaGreatDoor
