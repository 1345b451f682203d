/-
  DERIVED. GIVEN WITH THE SEED: THE CARDS: each row of YtclnoblcdaimiaaDoorRows.lean that lists a variable, with what it lists TIED to the program's text (the seventh form; the later family's looks); each row that meets fmt, with fmt's text TOLD by the authors' own Lean function (tested against real Go, not proved from fmt's source: count such statements apart). THE CARD IS WHAT COUNTS. Prove the row's statement (the work); the ties are given (YtclnoblcdaimiaaDoorTie.lean); close each card by the builder's one call (the guide's Derived/Test/ToyasCard.lean, 'card_holds'). Laid BY PROGRAM, IN A SANDBOX (cutbox-door.mjs). By AI agents, Wed Nov 11 2026. No macro, syntax, notation, axiom, sorry.
-/
import Derived.Test.YtclnoblcdaimiaaDoorRows
import GoSem.ClaimSeven
namespace Go.Proofs.YtclnoblcdaimiaaDoor
namespace Rows

/-- THE TIED CARD OF 'pyxlaw11.JsonMatchesReference'. -/
def jsonMatchesReferenceCard : Claim7 := { stood := { row := jsonMatchesReferenceRow, standIns := [], harness := (true, "78812fbdc3ec4d53f5e8edabc062f1e434b62c57e832dae3d1c3be54f829a51b"), looks := true }, kinds := [], alts := [], laidByText := true, laidKinds := [.data, .handle, .data, .pinned], laidTests := true, laidLooks := .later }
def JsonMatchesReferenceCardSaid : Prop := Claim7.holds Tryd.pinned (.plain (OpenSpec.ofChange jsonMatchesReferenceSpec)) jsonMatchesReferenceCard

/-- THE TIED CARD OF 'pyxlaw11.JsonEncodes'. -/
def jsonEncodesCard : Claim7 := { stood := { row := jsonEncodesRow, standIns := [], harness := (true, "78812fbdc3ec4d53f5e8edabc062f1e434b62c57e832dae3d1c3be54f829a51b"), looks := true }, kinds := [], alts := [], laidByText := true, laidKinds := [.data, .handle, .data, .pinned], laidTests := true, laidLooks := .later }
def JsonEncodesCardSaid : Prop := Claim7.holds Tryd.pinned (.plain (OpenSpec.ofChange jsonEncodesSpec)) jsonEncodesCard

/-- THE TIED CARD OF 'pyxlaw11.JsonSorts'. -/
def jsonSortsCard : Claim7 := { stood := { row := jsonSortsRow, standIns := [], harness := (true, "78812fbdc3ec4d53f5e8edabc062f1e434b62c57e832dae3d1c3be54f829a51b"), looks := true }, kinds := [], alts := [], laidByText := true, laidKinds := [.data, .handle, .data, .pinned], laidTests := true, laidLooks := .later }
def JsonSortsCardSaid : Prop := Claim7.holds Tryd.pinned (.plain (OpenSpec.ofChange jsonSortsSpec)) jsonSortsCard

/-- THE TIED CARD OF 'pyxlaw11.JsonParts'. -/
def jsonPartsCard : Claim7 := { stood := { row := jsonPartsRow, standIns := [], harness := (true, "78812fbdc3ec4d53f5e8edabc062f1e434b62c57e832dae3d1c3be54f829a51b"), looks := true }, kinds := [], alts := [], laidByText := true, laidKinds := [.data, .handle, .data, .pinned], laidTests := true, laidLooks := .later }
def JsonPartsCardSaid : Prop := Claim7.holds Tryd.pinned (.plain (OpenSpec.ofChange jsonPartsSpec)) jsonPartsCard

/-- THE SECOND FORM's CARD OF 'pyxlaw11.JsonMatchesReference'. -/
def jsonMatchesReferenceUptoCard : Claim7 := { stood := { row := jsonMatchesReferenceUptoRow, standIns := [], harness := (true, "78812fbdc3ec4d53f5e8edabc062f1e434b62c57e832dae3d1c3be54f829a51b"), looks := true }, kinds := [], alts := [], laidByText := true, laidKinds := [.data, .handle, .data, .pinned], laidTests := true, laidLooks := .later }
def JsonMatchesReferenceUptoCardSaid : Prop := Claim7.holds Tryd.pinned (.plain (OpenSpec.upto jsonMatchesReferenceSpec)) jsonMatchesReferenceUptoCard

/-- THE SECOND FORM's CARD OF 'pyxlaw11.JsonEncodes'. -/
def jsonEncodesUptoCard : Claim7 := { stood := { row := jsonEncodesUptoRow, standIns := [], harness := (true, "78812fbdc3ec4d53f5e8edabc062f1e434b62c57e832dae3d1c3be54f829a51b"), looks := true }, kinds := [], alts := [], laidByText := true, laidKinds := [.data, .handle, .data, .pinned], laidTests := true, laidLooks := .later }
def JsonEncodesUptoCardSaid : Prop := Claim7.holds Tryd.pinned (.plain (OpenSpec.upto jsonEncodesSpec)) jsonEncodesUptoCard

/-- THE SECOND FORM's CARD OF 'pyxlaw11.JsonSorts'. -/
def jsonSortsUptoCard : Claim7 := { stood := { row := jsonSortsUptoRow, standIns := [], harness := (true, "78812fbdc3ec4d53f5e8edabc062f1e434b62c57e832dae3d1c3be54f829a51b"), looks := true }, kinds := [], alts := [], laidByText := true, laidKinds := [.data, .handle, .data, .pinned], laidTests := true, laidLooks := .later }
def JsonSortsUptoCardSaid : Prop := Claim7.holds Tryd.pinned (.plain (OpenSpec.upto jsonSortsSpec)) jsonSortsUptoCard

/-- THE SECOND FORM's CARD OF 'pyxlaw11.JsonParts'. -/
def jsonPartsUptoCard : Claim7 := { stood := { row := jsonPartsUptoRow, standIns := [], harness := (true, "78812fbdc3ec4d53f5e8edabc062f1e434b62c57e832dae3d1c3be54f829a51b"), looks := true }, kinds := [], alts := [], laidByText := true, laidKinds := [.data, .handle, .data, .pinned], laidTests := true, laidLooks := .later }
def JsonPartsUptoCardSaid : Prop := Claim7.holds Tryd.pinned (.plain (OpenSpec.upto jsonPartsSpec)) jsonPartsUptoCard
end Rows
end Go.Proofs.YtclnoblcdaimiaaDoor
