/-
  DERIVED. GIVEN WITH THE SEED: THE CARDS: each row of YtmhgpdfllpgjpaaDoorRows.lean that lists a variable, with what it lists TIED to the program's text (the seventh form; the later family's looks); each row that meets fmt, with fmt's text TOLD by the authors' own Lean function (tested against real Go, not proved from fmt's source: count such statements apart). THE CARD IS WHAT COUNTS. Prove the row's statement (the work); the ties are given (YtmhgpdfllpgjpaaDoorTie.lean); close each card by the builder's one call (the guide's Derived/Test/ToyasCard.lean, 'card_holds'). Laid BY PROGRAM, IN A SANDBOX (cutbox-door.mjs). By AI agents, Wed Nov 11 2026. No macro, syntax, notation, axiom, sorry.
-/
import Derived.Test.YtmhgpdfllpgjpaaDoorRows
import GoSem.ClaimSeven
namespace Go.Proofs.YtmhgpdfllpgjpaaDoor
namespace Rows

/-- THE TIED CARD OF 'pyxlaw10.CborMatchesReference'. -/
def cborMatchesReferenceCard : Claim7 := { stood := { row := cborMatchesReferenceRow, standIns := [], harness := (true, "0f8e0ae618cf227d893c7906f03e5a400f0225e61fc4c584c4f541e4c6d9835f"), looks := true }, kinds := [], alts := [], laidByText := true, laidKinds := [.data, .data, .handle], laidTests := true, laidLooks := .later }
def CborMatchesReferenceCardSaid : Prop := Claim7.holds Tryd.pinned (.plain (OpenSpec.ofChange cborMatchesReferenceSpec)) cborMatchesReferenceCard

/-- THE TIED CARD OF 'pyxlaw10.CborEncodes'. -/
def cborEncodesCard : Claim7 := { stood := { row := cborEncodesRow, standIns := [], harness := (true, "0f8e0ae618cf227d893c7906f03e5a400f0225e61fc4c584c4f541e4c6d9835f"), looks := true }, kinds := [], alts := [], laidByText := true, laidKinds := [.data, .data, .handle], laidTests := true, laidLooks := .later }
def CborEncodesCardSaid : Prop := Claim7.holds Tryd.pinned (.plain (OpenSpec.ofChange cborEncodesSpec)) cborEncodesCard

/-- THE TIED CARD OF 'pyxlaw10.CborInts'. -/
def cborIntsCard : Claim7 := { stood := { row := cborIntsRow, standIns := [], harness := (true, "0f8e0ae618cf227d893c7906f03e5a400f0225e61fc4c584c4f541e4c6d9835f"), looks := true }, kinds := [], alts := [], laidByText := true, laidKinds := [.data, .data, .handle], laidTests := true, laidLooks := .later }
def CborIntsCardSaid : Prop := Claim7.holds Tryd.pinned (.plain (OpenSpec.ofChange cborIntsSpec)) cborIntsCard

/-- THE TIED CARD OF 'pyxlaw10.CborGets'. -/
def cborGetsCard : Claim7 := { stood := { row := cborGetsRow, standIns := [], harness := (true, "0f8e0ae618cf227d893c7906f03e5a400f0225e61fc4c584c4f541e4c6d9835f"), looks := true }, kinds := [], alts := [], laidByText := true, laidKinds := [.data, .data, .handle], laidTests := true, laidLooks := .later }
def CborGetsCardSaid : Prop := Claim7.holds Tryd.pinned (.plain (OpenSpec.ofChange cborGetsSpec)) cborGetsCard

/-- THE TIED CARD OF 'pyxlaw10.CborLimits'. -/
def cborLimitsCard : Claim7 := { stood := { row := cborLimitsRow, standIns := [], harness := (true, "0f8e0ae618cf227d893c7906f03e5a400f0225e61fc4c584c4f541e4c6d9835f"), looks := true }, kinds := [], alts := [], laidByText := true, laidKinds := [.data, .data, .handle], laidTests := true, laidLooks := .later }
def CborLimitsCardSaid : Prop := Claim7.holds Tryd.pinned (.plain (OpenSpec.ofChange cborLimitsSpec)) cborLimitsCard

/-- THE SECOND FORM's CARD OF 'pyxlaw10.CborMatchesReference'. -/
def cborMatchesReferenceUptoCard : Claim7 := { stood := { row := cborMatchesReferenceUptoRow, standIns := [], harness := (true, "0f8e0ae618cf227d893c7906f03e5a400f0225e61fc4c584c4f541e4c6d9835f"), looks := true }, kinds := [], alts := [], laidByText := true, laidKinds := [.data, .data, .handle], laidTests := true, laidLooks := .later }
def CborMatchesReferenceUptoCardSaid : Prop := Claim7.holds Tryd.pinned (.plain (OpenSpec.upto cborMatchesReferenceSpec)) cborMatchesReferenceUptoCard

/-- THE SECOND FORM's CARD OF 'pyxlaw10.CborEncodes'. -/
def cborEncodesUptoCard : Claim7 := { stood := { row := cborEncodesUptoRow, standIns := [], harness := (true, "0f8e0ae618cf227d893c7906f03e5a400f0225e61fc4c584c4f541e4c6d9835f"), looks := true }, kinds := [], alts := [], laidByText := true, laidKinds := [.data, .data, .handle], laidTests := true, laidLooks := .later }
def CborEncodesUptoCardSaid : Prop := Claim7.holds Tryd.pinned (.plain (OpenSpec.upto cborEncodesSpec)) cborEncodesUptoCard

/-- THE SECOND FORM's CARD OF 'pyxlaw10.CborInts'. -/
def cborIntsUptoCard : Claim7 := { stood := { row := cborIntsUptoRow, standIns := [], harness := (true, "0f8e0ae618cf227d893c7906f03e5a400f0225e61fc4c584c4f541e4c6d9835f"), looks := true }, kinds := [], alts := [], laidByText := true, laidKinds := [.data, .data, .handle], laidTests := true, laidLooks := .later }
def CborIntsUptoCardSaid : Prop := Claim7.holds Tryd.pinned (.plain (OpenSpec.upto cborIntsSpec)) cborIntsUptoCard

/-- THE SECOND FORM's CARD OF 'pyxlaw10.CborGets'. -/
def cborGetsUptoCard : Claim7 := { stood := { row := cborGetsUptoRow, standIns := [], harness := (true, "0f8e0ae618cf227d893c7906f03e5a400f0225e61fc4c584c4f541e4c6d9835f"), looks := true }, kinds := [], alts := [], laidByText := true, laidKinds := [.data, .data, .handle], laidTests := true, laidLooks := .later }
def CborGetsUptoCardSaid : Prop := Claim7.holds Tryd.pinned (.plain (OpenSpec.upto cborGetsSpec)) cborGetsUptoCard

/-- THE SECOND FORM's CARD OF 'pyxlaw10.CborLimits'. -/
def cborLimitsUptoCard : Claim7 := { stood := { row := cborLimitsUptoRow, standIns := [], harness := (true, "0f8e0ae618cf227d893c7906f03e5a400f0225e61fc4c584c4f541e4c6d9835f"), looks := true }, kinds := [], alts := [], laidByText := true, laidKinds := [.data, .data, .handle], laidTests := true, laidLooks := .later }
def CborLimitsUptoCardSaid : Prop := Claim7.holds Tryd.pinned (.plain (OpenSpec.upto cborLimitsSpec)) cborLimitsUptoCard
end Rows
end Go.Proofs.YtmhgpdfllpgjpaaDoor
