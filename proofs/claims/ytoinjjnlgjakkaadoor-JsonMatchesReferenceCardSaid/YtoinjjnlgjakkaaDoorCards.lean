/-
  DERIVED. GIVEN WITH THE SEED: THE CARDS: each row of YtoinjjnlgjakkaaDoorRows.lean that lists a variable, with what it lists TIED to the program's text (the seventh form; the later family's looks); each row that meets fmt, with fmt's text TOLD by the authors' own Lean function (tested against real Go, not proved from fmt's source: count such statements apart). THE CARD IS WHAT COUNTS. Prove the row's statement (the work); the ties are given (YtoinjjnlgjakkaaDoorTie.lean); close each card by the builder's one call (the guide's Derived/Test/ToyasCard.lean, 'card_holds'). Laid BY PROGRAM, IN A SANDBOX (cutbox-door.mjs). By AI agents, Wed Nov 11 2026. No macro, syntax, notation, axiom, sorry.
-/
import Derived.Test.YtoinjjnlgjakkaaDoorRows
import GoSem.ClaimSeven
namespace Go.Proofs.YtoinjjnlgjakkaaDoor
namespace Rows

/-- THE TIED CARD OF 'pyxlaw11.JsonMatchesReference'. -/
def jsonMatchesReferenceCard : Claim7 := { stood := { row := jsonMatchesReferenceRow, standIns := [], harness := (true, "69c40331d7a46c9afe2b7976549e115234ffefdcc0388074bbaa8da52e6afe2f"), looks := true }, kinds := [], alts := [], laidByText := true, laidKinds := [.data, .handle, .data, .pinned], laidTests := true, laidLooks := .later }
def JsonMatchesReferenceCardSaid : Prop := Claim7.holds Tryd.pinned (.plain (OpenSpec.ofChange jsonMatchesReferenceSpec)) jsonMatchesReferenceCard

/-- THE TIED CARD OF 'pyxlaw11.JsonSorts'. -/
def jsonSortsCard : Claim7 := { stood := { row := jsonSortsRow, standIns := [], harness := (true, "69c40331d7a46c9afe2b7976549e115234ffefdcc0388074bbaa8da52e6afe2f"), looks := true }, kinds := [], alts := [], laidByText := true, laidKinds := [.data, .handle, .data, .pinned], laidTests := true, laidLooks := .later }
def JsonSortsCardSaid : Prop := Claim7.holds Tryd.pinned (.plain (OpenSpec.ofChange jsonSortsSpec)) jsonSortsCard

/-- THE SECOND FORM's CARD OF 'pyxlaw11.JsonMatchesReference'. -/
def jsonMatchesReferenceUptoCard : Claim7 := { stood := { row := jsonMatchesReferenceUptoRow, standIns := [], harness := (true, "69c40331d7a46c9afe2b7976549e115234ffefdcc0388074bbaa8da52e6afe2f"), looks := true }, kinds := [], alts := [], laidByText := true, laidKinds := [.data, .handle, .data, .pinned], laidTests := true, laidLooks := .later }
def JsonMatchesReferenceUptoCardSaid : Prop := Claim7.holds Tryd.pinned (.plain (OpenSpec.upto jsonMatchesReferenceSpec)) jsonMatchesReferenceUptoCard

/-- THE SECOND FORM's CARD OF 'pyxlaw11.JsonSorts'. -/
def jsonSortsUptoCard : Claim7 := { stood := { row := jsonSortsUptoRow, standIns := [], harness := (true, "69c40331d7a46c9afe2b7976549e115234ffefdcc0388074bbaa8da52e6afe2f"), looks := true }, kinds := [], alts := [], laidByText := true, laidKinds := [.data, .handle, .data, .pinned], laidTests := true, laidLooks := .later }
def JsonSortsUptoCardSaid : Prop := Claim7.holds Tryd.pinned (.plain (OpenSpec.upto jsonSortsSpec)) jsonSortsUptoCard
end Rows
end Go.Proofs.YtoinjjnlgjakkaaDoor
