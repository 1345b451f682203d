/-
  DERIVED. GIVEN WITH THE SEED: THE CARDS: each row of YtbemkfneebbgeaaDoorRows.lean that lists a variable, with what it lists TIED to the program's text (the seventh form; the later family's looks); each row that meets fmt, with fmt's text TOLD by the authors' own Lean function (tested against real Go, not proved from fmt's source: count such statements apart). THE CARD IS WHAT COUNTS. Prove the row's statement (the work); the ties are given (YtbemkfneebbgeaaDoorTie.lean); close each card by the builder's one call (the guide's Derived/Test/ToyasCard.lean, 'card_holds'). Laid BY PROGRAM, IN A SANDBOX (cutbox-door.mjs). By AI agents, Wed Nov 11 2026. No macro, syntax, notation, axiom, sorry.
-/
import Derived.Test.YtbemkfneebbgeaaDoorRows
import GoSem.ClaimSeven
namespace Go.Proofs.YtbemkfneebbgeaaDoor
namespace Rows

/-- THE TIED CARD OF 'pyxlaw09.OidMatchesReference'. -/
def oidMatchesReferenceCard : Claim7 := { stood := { row := oidMatchesReferenceRow, standIns := [], harness := (true, "5e7aec22e15cf460828a2327249082661efc9a03bdca8679b1ae1aec40460118"), looks := true }, kinds := [], alts := [], laidByText := true, laidKinds := [.data, .data, .data, .data, .sentinel, .sentinel, .pinned], laidTests := true, laidLooks := .later }
def OidMatchesReferenceCardSaid : Prop := Claim7.holds Tryd.pinned (.plain (OpenSpec.ofChange oidMatchesReferenceSpec)) oidMatchesReferenceCard

/-- THE TIED CARD OF 'pyxlaw09.OidParses'. -/
def oidParsesCard : Claim7 := { stood := { row := oidParsesRow, standIns := [], harness := (true, "5e7aec22e15cf460828a2327249082661efc9a03bdca8679b1ae1aec40460118"), looks := true }, kinds := [], alts := [], laidByText := true, laidKinds := [.data, .data, .data, .data, .sentinel, .sentinel, .pinned], laidTests := true, laidLooks := .later }
def OidParsesCardSaid : Prop := Claim7.holds Tryd.pinned (.plain (OpenSpec.ofChange oidParsesSpec)) oidParsesCard

/-- THE TIED CARD OF 'pyxlaw09.OidReads'. -/
def oidReadsCard : Claim7 := { stood := { row := oidReadsRow, standIns := [], harness := (true, "5e7aec22e15cf460828a2327249082661efc9a03bdca8679b1ae1aec40460118"), looks := true }, kinds := [], alts := [], laidByText := true, laidKinds := [.data, .data, .data, .data, .sentinel, .sentinel, .pinned], laidTests := true, laidLooks := .later }
def OidReadsCardSaid : Prop := Claim7.holds Tryd.pinned (.plain (OpenSpec.ofChange oidReadsSpec)) oidReadsCard

/-- THE TIED CARD OF 'pyxlaw09.OidBelow'. -/
def oidBelowCard : Claim7 := { stood := { row := oidBelowRow, standIns := [], harness := (true, "5e7aec22e15cf460828a2327249082661efc9a03bdca8679b1ae1aec40460118"), looks := true }, kinds := [], alts := [], laidByText := true, laidKinds := [.data, .data, .data, .data, .sentinel, .sentinel, .pinned], laidTests := true, laidLooks := .later }
def OidBelowCardSaid : Prop := Claim7.holds Tryd.pinned (.plain (OpenSpec.ofChange oidBelowSpec)) oidBelowCard

/-- THE TIED CARD OF 'pyxlaw09.OidApart'. -/
def oidApartCard : Claim7 := { stood := { row := oidApartRow, standIns := [], harness := (true, "5e7aec22e15cf460828a2327249082661efc9a03bdca8679b1ae1aec40460118"), looks := true }, kinds := [], alts := [], laidByText := true, laidKinds := [.data, .data, .data, .data, .sentinel, .sentinel, .pinned], laidTests := true, laidLooks := .later }
def OidApartCardSaid : Prop := Claim7.holds Tryd.pinned (.plain (OpenSpec.ofChange oidApartSpec)) oidApartCard

/-- THE SECOND FORM's CARD OF 'pyxlaw09.OidMatchesReference'. -/
def oidMatchesReferenceUptoCard : Claim7 := { stood := { row := oidMatchesReferenceUptoRow, standIns := [], harness := (true, "5e7aec22e15cf460828a2327249082661efc9a03bdca8679b1ae1aec40460118"), looks := true }, kinds := [], alts := [], laidByText := true, laidKinds := [.data, .data, .data, .data, .sentinel, .sentinel, .pinned], laidTests := true, laidLooks := .later }
def OidMatchesReferenceUptoCardSaid : Prop := Claim7.holds Tryd.pinned (.plain (OpenSpec.upto oidMatchesReferenceSpec)) oidMatchesReferenceUptoCard

/-- THE SECOND FORM's CARD OF 'pyxlaw09.OidParses'. -/
def oidParsesUptoCard : Claim7 := { stood := { row := oidParsesUptoRow, standIns := [], harness := (true, "5e7aec22e15cf460828a2327249082661efc9a03bdca8679b1ae1aec40460118"), looks := true }, kinds := [], alts := [], laidByText := true, laidKinds := [.data, .data, .data, .data, .sentinel, .sentinel, .pinned], laidTests := true, laidLooks := .later }
def OidParsesUptoCardSaid : Prop := Claim7.holds Tryd.pinned (.plain (OpenSpec.upto oidParsesSpec)) oidParsesUptoCard

/-- THE SECOND FORM's CARD OF 'pyxlaw09.OidReads'. -/
def oidReadsUptoCard : Claim7 := { stood := { row := oidReadsUptoRow, standIns := [], harness := (true, "5e7aec22e15cf460828a2327249082661efc9a03bdca8679b1ae1aec40460118"), looks := true }, kinds := [], alts := [], laidByText := true, laidKinds := [.data, .data, .data, .data, .sentinel, .sentinel, .pinned], laidTests := true, laidLooks := .later }
def OidReadsUptoCardSaid : Prop := Claim7.holds Tryd.pinned (.plain (OpenSpec.upto oidReadsSpec)) oidReadsUptoCard

/-- THE SECOND FORM's CARD OF 'pyxlaw09.OidBelow'. -/
def oidBelowUptoCard : Claim7 := { stood := { row := oidBelowUptoRow, standIns := [], harness := (true, "5e7aec22e15cf460828a2327249082661efc9a03bdca8679b1ae1aec40460118"), looks := true }, kinds := [], alts := [], laidByText := true, laidKinds := [.data, .data, .data, .data, .sentinel, .sentinel, .pinned], laidTests := true, laidLooks := .later }
def OidBelowUptoCardSaid : Prop := Claim7.holds Tryd.pinned (.plain (OpenSpec.upto oidBelowSpec)) oidBelowUptoCard

/-- THE SECOND FORM's CARD OF 'pyxlaw09.OidApart'. -/
def oidApartUptoCard : Claim7 := { stood := { row := oidApartUptoRow, standIns := [], harness := (true, "5e7aec22e15cf460828a2327249082661efc9a03bdca8679b1ae1aec40460118"), looks := true }, kinds := [], alts := [], laidByText := true, laidKinds := [.data, .data, .data, .data, .sentinel, .sentinel, .pinned], laidTests := true, laidLooks := .later }
def OidApartUptoCardSaid : Prop := Claim7.holds Tryd.pinned (.plain (OpenSpec.upto oidApartSpec)) oidApartUptoCard
end Rows
end Go.Proofs.YtbemkfneebbgeaaDoor
