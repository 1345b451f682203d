/-
  DERIVED. GIVEN WITH THE SEED: THE CARDS: each row of YtdpnfojpeafdhaaDoorRows.lean that lists a variable, with what it lists TIED to the program's text (the seventh form; the later family's looks); each row that meets fmt, with fmt's text TOLD by the authors' own Lean function (tested against real Go, not proved from fmt's source: count such statements apart). THE CARD IS WHAT COUNTS. Prove the row's statement (the work); the ties are given (YtdpnfojpeafdhaaDoorTie.lean); close each card by the builder's one call (the guide's Derived/Test/ToyasCard.lean, 'card_holds'). Laid BY PROGRAM, IN A SANDBOX (cutbox-door.mjs). By AI agents, Wed Nov 11 2026. No macro, syntax, notation, axiom, sorry.
-/
import Derived.Test.YtdpnfojpeafdhaaDoorRows
import GoSem.ClaimSeven
namespace Go.Proofs.YtdpnfojpeafdhaaDoor
namespace Rows

/-- THE TIED CARD OF 'pyxlaw08.DerMatchesReference'. -/
def derMatchesReferenceCard : Claim7 := { stood := { row := derMatchesReferenceRow, standIns := [], harness := (true, "9936372cc9c23791b46a7d87dc7d9ca567f6d5ced52e379e16c87286d35e1c35"), looks := true }, kinds := [], alts := [], laidByText := true, laidKinds := [.handle], laidTests := true, laidLooks := .later }
def DerMatchesReferenceCardSaid : Prop := Claim7.holds Tryd.pinned (.plain (OpenSpec.ofChange derMatchesReferenceSpec)) derMatchesReferenceCard

/-- THE TIED CARD OF 'pyxlaw08.DerSame'. -/
def derSameCard : Claim7 := { stood := { row := derSameRow, standIns := [], harness := (true, "9936372cc9c23791b46a7d87dc7d9ca567f6d5ced52e379e16c87286d35e1c35"), looks := true }, kinds := [], alts := [], laidByText := true, laidKinds := [.handle], laidTests := true, laidLooks := .later }
def DerSameCardSaid : Prop := Claim7.holds Tryd.pinned (.plain (OpenSpec.ofChange derSameSpec)) derSameCard

/-- THE TIED CARD OF 'pyxlaw08.DerLimits'. -/
def derLimitsCard : Claim7 := { stood := { row := derLimitsRow, standIns := [], harness := (true, "9936372cc9c23791b46a7d87dc7d9ca567f6d5ced52e379e16c87286d35e1c35"), looks := true }, kinds := [], alts := [], laidByText := true, laidKinds := [.handle], laidTests := true, laidLooks := .later }
def DerLimitsCardSaid : Prop := Claim7.holds Tryd.pinned (.plain (OpenSpec.ofChange derLimitsSpec)) derLimitsCard

/-- THE TIED CARD OF 'pyxlaw08.DerDeep'. -/
def derDeepCard : Claim7 := { stood := { row := derDeepRow, standIns := [], harness := (true, "9936372cc9c23791b46a7d87dc7d9ca567f6d5ced52e379e16c87286d35e1c35"), looks := true }, kinds := [], alts := [], laidByText := true, laidKinds := [.handle], laidTests := true, laidLooks := .later }
def DerDeepCardSaid : Prop := Claim7.holds Tryd.pinned (.plain (OpenSpec.ofChange derDeepSpec)) derDeepCard

/-- THE SECOND FORM's CARD OF 'pyxlaw08.DerMatchesReference'. -/
def derMatchesReferenceUptoCard : Claim7 := { stood := { row := derMatchesReferenceUptoRow, standIns := [], harness := (true, "9936372cc9c23791b46a7d87dc7d9ca567f6d5ced52e379e16c87286d35e1c35"), looks := true }, kinds := [], alts := [], laidByText := true, laidKinds := [.handle], laidTests := true, laidLooks := .later }
def DerMatchesReferenceUptoCardSaid : Prop := Claim7.holds Tryd.pinned (.plain (OpenSpec.upto derMatchesReferenceSpec)) derMatchesReferenceUptoCard

/-- THE SECOND FORM's CARD OF 'pyxlaw08.DerSame'. -/
def derSameUptoCard : Claim7 := { stood := { row := derSameUptoRow, standIns := [], harness := (true, "9936372cc9c23791b46a7d87dc7d9ca567f6d5ced52e379e16c87286d35e1c35"), looks := true }, kinds := [], alts := [], laidByText := true, laidKinds := [.handle], laidTests := true, laidLooks := .later }
def DerSameUptoCardSaid : Prop := Claim7.holds Tryd.pinned (.plain (OpenSpec.upto derSameSpec)) derSameUptoCard

/-- THE SECOND FORM's CARD OF 'pyxlaw08.DerLimits'. -/
def derLimitsUptoCard : Claim7 := { stood := { row := derLimitsUptoRow, standIns := [], harness := (true, "9936372cc9c23791b46a7d87dc7d9ca567f6d5ced52e379e16c87286d35e1c35"), looks := true }, kinds := [], alts := [], laidByText := true, laidKinds := [.handle], laidTests := true, laidLooks := .later }
def DerLimitsUptoCardSaid : Prop := Claim7.holds Tryd.pinned (.plain (OpenSpec.upto derLimitsSpec)) derLimitsUptoCard

/-- THE SECOND FORM's CARD OF 'pyxlaw08.DerDeep'. -/
def derDeepUptoCard : Claim7 := { stood := { row := derDeepUptoRow, standIns := [], harness := (true, "9936372cc9c23791b46a7d87dc7d9ca567f6d5ced52e379e16c87286d35e1c35"), looks := true }, kinds := [], alts := [], laidByText := true, laidKinds := [.handle], laidTests := true, laidLooks := .later }
def DerDeepUptoCardSaid : Prop := Claim7.holds Tryd.pinned (.plain (OpenSpec.upto derDeepSpec)) derDeepUptoCard
end Rows
end Go.Proofs.YtdpnfojpeafdhaaDoor
