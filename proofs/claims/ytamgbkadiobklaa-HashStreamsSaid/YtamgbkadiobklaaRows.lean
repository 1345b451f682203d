/-
  No cell of these rows narrows 'for every input' (looked for: loops, veiled, ifaces, maps, wideKeys, modest, calm, conditions, laid).
  DERIVED. THE GIVEN ROWS OF THIS SEAT. 5 by the template 'for every input the law returns true; each argument reads behind the call as it read before'; 0 by the template 'total and deterministic' (their statements: YtamgbkadiobklaaTotals.lean).
  GIVEN WITH THE SEED: the statements are not yours to turn. If you find one false, say at which input.
  Laid BY PROGRAM, IN A SANDBOX (cutbox-rows.mjs): the forced cells as the released guide's own fill.sh prints them over the translation 840f79a723b7599d… (all of the seat's roots in one cut). By AI agents, Wed Nov 11 2026. No macro, syntax, notation, axiom, sorry.
-/
import Derived.Test.YtamgbkadiobklaaChecked
import GoSem.Claim
import GoSem.ClaimJoined
import GoSem.ClaimMapViews
import Derived.JoinedTies
import Derived.KernelRfl
namespace Go.Proofs.Ytamgbkadiobklaa
/- THE CELL 'sum', in the pinned program and in every row, IS THE sha256 OF THE DUMP (.gsa) THAT YtamgbkadiobklaaProg.lean LOADS. Nothing in Lean hashes anything: it is a label: what it is worth is what the hold of that sum in a sandbox is worth. -/
noncomputable def Try.pinned : Pinned := { name := "ytamgbkadiobklaa", sum := "840f79a723b7599d708efbc0fa5026c0f31480f353bb79f259fdbc7a9e9def35", checked := Try.checked }
namespace Rows
def none {H : Type} : Left H := { results := [], args := [] }

/-- 'pyxlaw07.HashMatchesReference': WHATEVER THE INPUT: true; the input reads as it did. -/
def hashMatchesReferenceSpec : ChangeSpec := { name := "hashMatchesReference", fn := fun _ => fun
  | [d] => { results := [.lit (.bool true)], args := [d] }
  | _ => none }
def hashMatchesReferenceRow : OpenClaim := { program := "ytamgbkadiobklaa", sum := "840f79a723b7599d708efbc0fa5026c0f31480f353bb79f259fdbc7a9e9def35", func := "pyx/pyxlaw07.HashMatchesReference", spec := "hashMatchesReference", apart := false }
def HashMatchesReferenceSaid : Prop := hashMatchesReferenceRow.holds Try.pinned (OpenSpec.ofChange hashMatchesReferenceSpec)

/-- ITS FALSE NEIGHBOUR: 'it returns false'. Refute it at one input. -/
def hashMatchesReferenceWrong : ChangeSpec := { name := "hashMatchesReference", fn := fun _ => fun
  | [d] => { results := [.lit (.bool false)], args := [d] }
  | _ => none }
def HashMatchesReferenceWrongFalsely : Prop := hashMatchesReferenceRow.holds Try.pinned (OpenSpec.ofChange hashMatchesReferenceWrong)

/-- 'pyxlaw07.HashShakes': WHATEVER THE INPUT: true; the input reads as it did. -/
def hashShakesSpec : ChangeSpec := { name := "hashShakes", fn := fun _ => fun
  | [d1, d2] => { results := [.lit (.bool true)], args := [d1, d2] }
  | _ => none }
def hashShakesRow : OpenClaim := { program := "ytamgbkadiobklaa", sum := "840f79a723b7599d708efbc0fa5026c0f31480f353bb79f259fdbc7a9e9def35", func := "pyx/pyxlaw07.HashShakes", spec := "hashShakes", apart := false }
def HashShakesSaid : Prop := hashShakesRow.holds Try.pinned (OpenSpec.ofChange hashShakesSpec)

/-- ITS FALSE NEIGHBOUR: 'it returns false'. Refute it at one input. -/
def hashShakesWrong : ChangeSpec := { name := "hashShakes", fn := fun _ => fun
  | [d1, d2] => { results := [.lit (.bool false)], args := [d1, d2] }
  | _ => none }
def HashShakesWrongFalsely : Prop := hashShakesRow.holds Try.pinned (OpenSpec.ofChange hashShakesWrong)

/-- 'pyxlaw07.HashStreams': WHATEVER THE INPUT: true; the input reads as it did. -/
def hashStreamsSpec : ChangeSpec := { name := "hashStreams", fn := fun _ => fun
  | [d1, d2] => { results := [.lit (.bool true)], args := [d1, d2] }
  | _ => none }
def hashStreamsRow : OpenClaim := { program := "ytamgbkadiobklaa", sum := "840f79a723b7599d708efbc0fa5026c0f31480f353bb79f259fdbc7a9e9def35", func := "pyx/pyxlaw07.HashStreams", spec := "hashStreams", apart := false }
def HashStreamsSaid : Prop := hashStreamsRow.holds Try.pinned (OpenSpec.ofChange hashStreamsSpec)

/-- ITS FALSE NEIGHBOUR: 'it returns false'. Refute it at one input. -/
def hashStreamsWrong : ChangeSpec := { name := "hashStreams", fn := fun _ => fun
  | [d1, d2] => { results := [.lit (.bool false)], args := [d1, d2] }
  | _ => none }
def HashStreamsWrongFalsely : Prop := hashStreamsRow.holds Try.pinned (OpenSpec.ofChange hashStreamsWrong)

/-- 'pyxlaw07.HashLimits': WHATEVER THE INPUT: true; the input reads as it did. -/
def hashLimitsSpec : ChangeSpec := { name := "hashLimits", fn := fun _ => fun
  | [d1, d2] => { results := [.lit (.bool true)], args := [d1, d2] }
  | _ => none }
def hashLimitsRow : OpenClaim := { program := "ytamgbkadiobklaa", sum := "840f79a723b7599d708efbc0fa5026c0f31480f353bb79f259fdbc7a9e9def35", func := "pyx/pyxlaw07.HashLimits", spec := "hashLimits", apart := false }
def HashLimitsSaid : Prop := hashLimitsRow.holds Try.pinned (OpenSpec.ofChange hashLimitsSpec)

/-- ITS FALSE NEIGHBOUR: 'it returns false'. Refute it at one input. -/
def hashLimitsWrong : ChangeSpec := { name := "hashLimits", fn := fun _ => fun
  | [d1, d2] => { results := [.lit (.bool false)], args := [d1, d2] }
  | _ => none }
def HashLimitsWrongFalsely : Prop := hashLimitsRow.holds Try.pinned (OpenSpec.ofChange hashLimitsWrong)

/-- 'pyxlaw07.HashApart': WHATEVER THE INPUT: true; the input reads as it did. -/
def hashApartSpec : ChangeSpec := { name := "hashApart", fn := fun _ => fun
  | [d] => { results := [.lit (.bool true)], args := [d] }
  | _ => none }
def hashApartRow : OpenClaim := { program := "ytamgbkadiobklaa", sum := "840f79a723b7599d708efbc0fa5026c0f31480f353bb79f259fdbc7a9e9def35", func := "pyx/pyxlaw07.HashApart", spec := "hashApart", apart := false }
def HashApartSaid : Prop := hashApartRow.holds Try.pinned (OpenSpec.ofChange hashApartSpec)

/-- ITS FALSE NEIGHBOUR: 'it returns false'. Refute it at one input. -/
def hashApartWrong : ChangeSpec := { name := "hashApart", fn := fun _ => fun
  | [d] => { results := [.lit (.bool false)], args := [d] }
  | _ => none }
def HashApartWrongFalsely : Prop := hashApartRow.holds Try.pinned (OpenSpec.ofChange hashApartWrong)

/- THE SECOND FORM. 'bulk': how many values and letters a reading holds, each counted each time it is reached (what is shared counts as often as it is met; a slice's spare places count too). A statement '..UptoSaid' is the law's where the arguments, and the package variables that the reading takes, are together of bulk at most 1048576: NARROWER than '..Said'. Prove '..Said' where nothing that the law and all that it calls make is longer than what came in: it says more and counts as full. Else prove '..UptoSaid'. A law counts once. -/
mutual
def uptoBulk {H : Type} : DataW H → Nat
  | .lit (.string bytes) => bytes.length + 1
  | .lit _ => 1
  | .nil => 1
  | .ptr d => uptoBulk d + 1
  | .slice elems spare => uptoBulkAll elems + uptoBulkAll spare + 1
  | .agg parts => uptoBulkAll parts + 1
  | .iface _ d => uptoBulk d + 1
  | .map entries => uptoBulkEntries entries + 1
  | .held _ => 1
def uptoBulkAll {H : Type} : List (DataW H) → Nat
  | [] => 0
  | d :: r => uptoBulk d + uptoBulkAll r
def uptoBulkEntries {H : Type} : List (Lit × DataW H) → Nat
  | [] => 0
  | x :: r => uptoBulkEntry x + uptoBulkEntries r
def uptoBulkEntry {H : Type} : Lit × DataW H → Nat
  | (.string bytes, d) => bytes.length + uptoBulk d + 1
  | (_, d) => uptoBulk d + 1
 end
def uptoSmall : (H : Type) → List (DataW H) → Bool := fun _ ds => decide (uptoBulkAll ds ≤ 1048576)
def OpenSpec.upto (s : _root_.Go.ChangeSpec) : _root_.Go.OpenSpec := { _root_.Go.OpenSpec.ofChange s with cond := some uptoSmall }

/-- 'pyxlaw07.HashMatchesReference', WHERE WHAT IT READS IS OF BULK AT MOST 1048576: true; the input reads as it did. -/
def hashMatchesReferenceUptoRow : OpenClaim := { program := "ytamgbkadiobklaa", sum := "840f79a723b7599d708efbc0fa5026c0f31480f353bb79f259fdbc7a9e9def35", func := "pyx/pyxlaw07.HashMatchesReference", spec := "hashMatchesReference", apart := false, narrowed := true }
def HashMatchesReferenceUptoSaid : Prop := hashMatchesReferenceUptoRow.holds Try.pinned (OpenSpec.upto hashMatchesReferenceSpec)

/-- 'pyxlaw07.HashShakes', WHERE WHAT IT READS IS OF BULK AT MOST 1048576: true; the input reads as it did. -/
def hashShakesUptoRow : OpenClaim := { program := "ytamgbkadiobklaa", sum := "840f79a723b7599d708efbc0fa5026c0f31480f353bb79f259fdbc7a9e9def35", func := "pyx/pyxlaw07.HashShakes", spec := "hashShakes", apart := false, narrowed := true }
def HashShakesUptoSaid : Prop := hashShakesUptoRow.holds Try.pinned (OpenSpec.upto hashShakesSpec)

/-- 'pyxlaw07.HashStreams', WHERE WHAT IT READS IS OF BULK AT MOST 1048576: true; the input reads as it did. -/
def hashStreamsUptoRow : OpenClaim := { program := "ytamgbkadiobklaa", sum := "840f79a723b7599d708efbc0fa5026c0f31480f353bb79f259fdbc7a9e9def35", func := "pyx/pyxlaw07.HashStreams", spec := "hashStreams", apart := false, narrowed := true }
def HashStreamsUptoSaid : Prop := hashStreamsUptoRow.holds Try.pinned (OpenSpec.upto hashStreamsSpec)

/-- 'pyxlaw07.HashLimits', WHERE WHAT IT READS IS OF BULK AT MOST 1048576: true; the input reads as it did. -/
def hashLimitsUptoRow : OpenClaim := { program := "ytamgbkadiobklaa", sum := "840f79a723b7599d708efbc0fa5026c0f31480f353bb79f259fdbc7a9e9def35", func := "pyx/pyxlaw07.HashLimits", spec := "hashLimits", apart := false, narrowed := true }
def HashLimitsUptoSaid : Prop := hashLimitsUptoRow.holds Try.pinned (OpenSpec.upto hashLimitsSpec)

/-- 'pyxlaw07.HashApart', WHERE WHAT IT READS IS OF BULK AT MOST 1048576: true; the input reads as it did. -/
def hashApartUptoRow : OpenClaim := { program := "ytamgbkadiobklaa", sum := "840f79a723b7599d708efbc0fa5026c0f31480f353bb79f259fdbc7a9e9def35", func := "pyx/pyxlaw07.HashApart", spec := "hashApart", apart := false, narrowed := true }
def HashApartUptoSaid : Prop := hashApartUptoRow.holds Try.pinned (OpenSpec.upto hashApartSpec)

end Rows
end Go.Proofs.Ytamgbkadiobklaa
