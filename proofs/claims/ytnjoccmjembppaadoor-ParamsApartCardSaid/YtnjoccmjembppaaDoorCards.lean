/-
  DERIVED. GIVEN WITH THE SEED: THE CARDS: each row of YtnjoccmjembppaaDoorRows.lean that lists a variable, with what it lists TIED to the program's text (the seventh form; the later family's looks); each row that meets fmt, with fmt's text TOLD by the authors' own Lean function (tested against real Go, not proved from fmt's source: count such statements apart). THE CARD IS WHAT COUNTS. Prove the row's statement (the work); the ties are given (YtnjoccmjembppaaDoorTie.lean); close each card by the builder's one call (the guide's Derived/Test/ToyasCard.lean, 'card_holds'). Laid BY PROGRAM, IN A SANDBOX (cutbox-door.mjs). By AI agents, Wed Nov 11 2026. No macro, syntax, notation, axiom, sorry.
-/
import Derived.Test.YtnjoccmjembppaaDoorRows
import GoSem.ClaimSeven
namespace Go.Proofs.YtnjoccmjembppaaDoor
namespace Rows

/-- THE TIED CARD OF 'pyxlaw13.ParamsMatchesReference'. -/
def paramsMatchesReferenceCard : Claim7 := { stood := { row := paramsMatchesReferenceRow, standIns := [], harness := (true, "6e1f73c5cb501f689b79ec9f96d41915efd2892c39358276289d55efccd08581"), looks := true }, kinds := [], alts := [], laidByText := true, laidKinds := [.data, .data, .data, .data, .sentinel, .sentinel, .data, .data, .data, .data, .pinned], laidTests := true, laidLooks := .later }
def ParamsMatchesReferenceCardSaid : Prop := Claim7.holds Tryd.pinned (.plain (OpenSpec.ofChange paramsMatchesReferenceSpec)) paramsMatchesReferenceCard

/-- THE TIED CARD OF 'pyxlaw13.ParamsFinds'. -/
def paramsFindsCard : Claim7 := { stood := { row := paramsFindsRow, standIns := [], harness := (true, "6e1f73c5cb501f689b79ec9f96d41915efd2892c39358276289d55efccd08581"), looks := true }, kinds := [], alts := [], laidByText := true, laidKinds := [.data, .data, .data, .data, .sentinel, .sentinel, .data, .data, .data, .data, .pinned], laidTests := true, laidLooks := .later }
def ParamsFindsCardSaid : Prop := Claim7.holds Tryd.pinned (.plain (OpenSpec.ofChange paramsFindsSpec)) paramsFindsCard

/-- THE TIED CARD OF 'pyxlaw13.ParamsLists'. -/
def paramsListsCard : Claim7 := { stood := { row := paramsListsRow, standIns := [], harness := (true, "6e1f73c5cb501f689b79ec9f96d41915efd2892c39358276289d55efccd08581"), looks := true }, kinds := [], alts := [], laidByText := true, laidKinds := [.data, .data, .data, .data, .sentinel, .sentinel, .data, .data, .data, .data, .pinned], laidTests := true, laidLooks := .later }
def ParamsListsCardSaid : Prop := Claim7.holds Tryd.pinned (.plain (OpenSpec.ofChange paramsListsSpec)) paramsListsCard

/-- THE TIED CARD OF 'pyxlaw13.ParamsApart'. -/
def paramsApartCard : Claim7 := { stood := { row := paramsApartRow, standIns := [], harness := (true, "6e1f73c5cb501f689b79ec9f96d41915efd2892c39358276289d55efccd08581"), looks := true }, kinds := [], alts := [], laidByText := true, laidKinds := [.data, .data, .data, .data, .sentinel, .sentinel, .data, .data, .data, .data, .pinned], laidTests := true, laidLooks := .later }
def ParamsApartCardSaid : Prop := Claim7.holds Tryd.pinned (.plain (OpenSpec.ofChange paramsApartSpec)) paramsApartCard

/-- THE TIED CARD OF 'pyxlaw13.ParamsSizes'. -/
def paramsSizesCard : Claim7 := { stood := { row := paramsSizesRow, standIns := [], harness := (true, "6e1f73c5cb501f689b79ec9f96d41915efd2892c39358276289d55efccd08581"), looks := true }, kinds := [], alts := [], laidByText := true, laidKinds := [.data, .data, .data, .data, .sentinel, .sentinel, .data, .data, .data, .data, .pinned], laidTests := true, laidLooks := .later }
def ParamsSizesCardSaid : Prop := Claim7.holds Tryd.pinned (.plain (OpenSpec.ofChange paramsSizesSpec)) paramsSizesCard

/-- THE SECOND FORM's CARD OF 'pyxlaw13.ParamsMatchesReference'. -/
def paramsMatchesReferenceUptoCard : Claim7 := { stood := { row := paramsMatchesReferenceUptoRow, standIns := [], harness := (true, "6e1f73c5cb501f689b79ec9f96d41915efd2892c39358276289d55efccd08581"), looks := true }, kinds := [], alts := [], laidByText := true, laidKinds := [.data, .data, .data, .data, .sentinel, .sentinel, .data, .data, .data, .data, .pinned], laidTests := true, laidLooks := .later }
def ParamsMatchesReferenceUptoCardSaid : Prop := Claim7.holds Tryd.pinned (.plain (OpenSpec.upto paramsMatchesReferenceSpec)) paramsMatchesReferenceUptoCard

/-- THE SECOND FORM's CARD OF 'pyxlaw13.ParamsFinds'. -/
def paramsFindsUptoCard : Claim7 := { stood := { row := paramsFindsUptoRow, standIns := [], harness := (true, "6e1f73c5cb501f689b79ec9f96d41915efd2892c39358276289d55efccd08581"), looks := true }, kinds := [], alts := [], laidByText := true, laidKinds := [.data, .data, .data, .data, .sentinel, .sentinel, .data, .data, .data, .data, .pinned], laidTests := true, laidLooks := .later }
def ParamsFindsUptoCardSaid : Prop := Claim7.holds Tryd.pinned (.plain (OpenSpec.upto paramsFindsSpec)) paramsFindsUptoCard

/-- THE SECOND FORM's CARD OF 'pyxlaw13.ParamsLists'. -/
def paramsListsUptoCard : Claim7 := { stood := { row := paramsListsUptoRow, standIns := [], harness := (true, "6e1f73c5cb501f689b79ec9f96d41915efd2892c39358276289d55efccd08581"), looks := true }, kinds := [], alts := [], laidByText := true, laidKinds := [.data, .data, .data, .data, .sentinel, .sentinel, .data, .data, .data, .data, .pinned], laidTests := true, laidLooks := .later }
def ParamsListsUptoCardSaid : Prop := Claim7.holds Tryd.pinned (.plain (OpenSpec.upto paramsListsSpec)) paramsListsUptoCard

/-- THE SECOND FORM's CARD OF 'pyxlaw13.ParamsApart'. -/
def paramsApartUptoCard : Claim7 := { stood := { row := paramsApartUptoRow, standIns := [], harness := (true, "6e1f73c5cb501f689b79ec9f96d41915efd2892c39358276289d55efccd08581"), looks := true }, kinds := [], alts := [], laidByText := true, laidKinds := [.data, .data, .data, .data, .sentinel, .sentinel, .data, .data, .data, .data, .pinned], laidTests := true, laidLooks := .later }
def ParamsApartUptoCardSaid : Prop := Claim7.holds Tryd.pinned (.plain (OpenSpec.upto paramsApartSpec)) paramsApartUptoCard

/-- THE SECOND FORM's CARD OF 'pyxlaw13.ParamsSizes'. -/
def paramsSizesUptoCard : Claim7 := { stood := { row := paramsSizesUptoRow, standIns := [], harness := (true, "6e1f73c5cb501f689b79ec9f96d41915efd2892c39358276289d55efccd08581"), looks := true }, kinds := [], alts := [], laidByText := true, laidKinds := [.data, .data, .data, .data, .sentinel, .sentinel, .data, .data, .data, .data, .pinned], laidTests := true, laidLooks := .later }
def ParamsSizesUptoCardSaid : Prop := Claim7.holds Tryd.pinned (.plain (OpenSpec.upto paramsSizesSpec)) paramsSizesUptoCard
end Rows
end Go.Proofs.YtnjoccmjembppaaDoor
