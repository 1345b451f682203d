/-
  No cell of these rows narrows 'for every input' (looked for: loops, veiled, ifaces, maps, wideKeys, modest, calm, conditions, laid).
  DERIVED. THE GIVEN ROWS OF THIS SEAT. 5 by the template 'for every input the law returns true; each argument reads behind the call as it read before'; 0 by the template 'total and deterministic' (their statements: YtclfnpggllgepaaTotals.lean).
  GIVEN WITH THE SEED: the statements are not yours to turn. If you find one false, say at which input.
  Laid BY PROGRAM, IN A SANDBOX (cutbox-rows.mjs): the forced cells as the released guide's own fill.sh prints them over the translation aa1e3a8b3bfc284d… (all of the seat's roots in one cut). By AI agents, Wed Nov 11 2026. No macro, syntax, notation, axiom, sorry.
-/
import Derived.Test.YtclfnpggllgepaaChecked
import GoSem.Claim
import GoSem.ClaimJoined
import GoSem.ClaimMapViews
import Derived.JoinedTies
import Derived.KernelRfl
namespace Go.Proofs.Ytclfnpggllgepaa
/- THE CELL 'sum', in the pinned program and in every row, IS THE sha256 OF THE DUMP (.gsa) THAT YtclfnpggllgepaaProg.lean LOADS. Nothing in Lean hashes anything: it is a label: what it is worth is what the hold of that sum in a sandbox is worth. -/
noncomputable def Try.pinned : Pinned := { name := "ytclfnpggllgepaa", sum := "aa1e3a8b3bfc284d324743f2c4273c3e571269b4a9543623a06c9cd3fe82c0c9", checked := Try.checked }
namespace Rows
def none {H : Type} : Left H := { results := [], args := [] }

/-- 'pyxlaw04.Base64MatchesReference': WHATEVER THE INPUT: true; the input reads as it did. -/
def base64MatchesReferenceSpec : ChangeSpec := { name := "base64MatchesReference", fn := fun _ => fun
  | [d1, d2] => { results := [.lit (.bool true)], args := [d1, d2] }
  | _ => none }
def base64MatchesReferenceRow : OpenClaim := { program := "ytclfnpggllgepaa", sum := "aa1e3a8b3bfc284d324743f2c4273c3e571269b4a9543623a06c9cd3fe82c0c9", func := "pyx/pyxlaw04.Base64MatchesReference", spec := "base64MatchesReference", inPlace := ["internal/bytealg.IndexByteString", "internal/abi.NoEscape", "internal/bytealg.MakeNoZero"], apart := false }
def Base64MatchesReferenceSaid : Prop := base64MatchesReferenceRow.holds Try.pinned (OpenSpec.ofChange base64MatchesReferenceSpec)

/-- ITS FALSE NEIGHBOUR: 'it returns false'. Refute it at one input. -/
def base64MatchesReferenceWrong : ChangeSpec := { name := "base64MatchesReference", fn := fun _ => fun
  | [d1, d2] => { results := [.lit (.bool false)], args := [d1, d2] }
  | _ => none }
def Base64MatchesReferenceWrongFalsely : Prop := base64MatchesReferenceRow.holds Try.pinned (OpenSpec.ofChange base64MatchesReferenceWrong)

/-- 'pyxlaw04.Base64Encodes': WHATEVER THE INPUT: true; the input reads as it did. -/
def base64EncodesSpec : ChangeSpec := { name := "base64Encodes", fn := fun _ => fun
  | [d1, d2] => { results := [.lit (.bool true)], args := [d1, d2] }
  | _ => none }
def base64EncodesRow : OpenClaim := { program := "ytclfnpggllgepaa", sum := "aa1e3a8b3bfc284d324743f2c4273c3e571269b4a9543623a06c9cd3fe82c0c9", func := "pyx/pyxlaw04.Base64Encodes", spec := "base64Encodes", inPlace := ["internal/bytealg.IndexByteString", "internal/abi.NoEscape", "internal/bytealg.MakeNoZero"], apart := false }
def Base64EncodesSaid : Prop := base64EncodesRow.holds Try.pinned (OpenSpec.ofChange base64EncodesSpec)

/-- ITS FALSE NEIGHBOUR: 'it returns false'. Refute it at one input. -/
def base64EncodesWrong : ChangeSpec := { name := "base64Encodes", fn := fun _ => fun
  | [d1, d2] => { results := [.lit (.bool false)], args := [d1, d2] }
  | _ => none }
def Base64EncodesWrongFalsely : Prop := base64EncodesRow.holds Try.pinned (OpenSpec.ofChange base64EncodesWrong)

/-- 'pyxlaw04.Base64Digits': WHATEVER THE INPUT: true; the input reads as it did. -/
def base64DigitsSpec : ChangeSpec := { name := "base64Digits", fn := fun _ => fun
  | [d1, d2, d3] => { results := [.lit (.bool true)], args := [d1, d2, d3] }
  | _ => none }
def base64DigitsRow : OpenClaim := { program := "ytclfnpggllgepaa", sum := "aa1e3a8b3bfc284d324743f2c4273c3e571269b4a9543623a06c9cd3fe82c0c9", func := "pyx/pyxlaw04.Base64Digits", spec := "base64Digits", inPlace := ["internal/bytealg.IndexByteString", "internal/abi.NoEscape", "internal/bytealg.MakeNoZero"], apart := false }
def Base64DigitsSaid : Prop := base64DigitsRow.holds Try.pinned (OpenSpec.ofChange base64DigitsSpec)

/-- ITS FALSE NEIGHBOUR: 'it returns false'. Refute it at one input. -/
def base64DigitsWrong : ChangeSpec := { name := "base64Digits", fn := fun _ => fun
  | [d1, d2, d3] => { results := [.lit (.bool false)], args := [d1, d2, d3] }
  | _ => none }
def Base64DigitsWrongFalsely : Prop := base64DigitsRow.holds Try.pinned (OpenSpec.ofChange base64DigitsWrong)

/-- 'pyxlaw04.Base64Joins': WHATEVER THE INPUT: true; the input reads as it did. -/
def base64JoinsSpec : ChangeSpec := { name := "base64Joins", fn := fun _ => fun
  | [d1, d2, d3] => { results := [.lit (.bool true)], args := [d1, d2, d3] }
  | _ => none }
def base64JoinsRow : OpenClaim := { program := "ytclfnpggllgepaa", sum := "aa1e3a8b3bfc284d324743f2c4273c3e571269b4a9543623a06c9cd3fe82c0c9", func := "pyx/pyxlaw04.Base64Joins", spec := "base64Joins", inPlace := ["internal/bytealg.IndexByteString", "internal/abi.NoEscape", "internal/bytealg.MakeNoZero"], apart := false }
def Base64JoinsSaid : Prop := base64JoinsRow.holds Try.pinned (OpenSpec.ofChange base64JoinsSpec)

/-- ITS FALSE NEIGHBOUR: 'it returns false'. Refute it at one input. -/
def base64JoinsWrong : ChangeSpec := { name := "base64Joins", fn := fun _ => fun
  | [d1, d2, d3] => { results := [.lit (.bool false)], args := [d1, d2, d3] }
  | _ => none }
def Base64JoinsWrongFalsely : Prop := base64JoinsRow.holds Try.pinned (OpenSpec.ofChange base64JoinsWrong)

/-- 'pyxlaw04.Base64Changes': WHATEVER THE INPUT: true; the input reads as it did. -/
def base64ChangesSpec : ChangeSpec := { name := "base64Changes", fn := fun _ => fun
  | [d1, d2, d3, d4] => { results := [.lit (.bool true)], args := [d1, d2, d3, d4] }
  | _ => none }
def base64ChangesRow : OpenClaim := { program := "ytclfnpggllgepaa", sum := "aa1e3a8b3bfc284d324743f2c4273c3e571269b4a9543623a06c9cd3fe82c0c9", func := "pyx/pyxlaw04.Base64Changes", spec := "base64Changes", inPlace := ["internal/bytealg.IndexByteString", "internal/abi.NoEscape", "internal/bytealg.MakeNoZero"], apart := false }
def Base64ChangesSaid : Prop := base64ChangesRow.holds Try.pinned (OpenSpec.ofChange base64ChangesSpec)

/-- ITS FALSE NEIGHBOUR: 'it returns false'. Refute it at one input. -/
def base64ChangesWrong : ChangeSpec := { name := "base64Changes", fn := fun _ => fun
  | [d1, d2, d3, d4] => { results := [.lit (.bool false)], args := [d1, d2, d3, d4] }
  | _ => none }
def Base64ChangesWrongFalsely : Prop := base64ChangesRow.holds Try.pinned (OpenSpec.ofChange base64ChangesWrong)

/- THE SECOND FORM. 'bulk': how many values and letters a reading holds, each counted each time it is reached (what is shared counts as often as it is met; a slice's spare places count too). A statement '..UptoSaid' is the law's where the arguments, and the package variables that the reading takes, are together of bulk at most 1048576: NARROWER than '..Said'. Prove '..Said' where nothing that the law and all that it calls make is longer than what came in: it says more and counts as full. Else prove '..UptoSaid'. A law counts once. -/
mutual
def uptoBulk {H : Type} : DataW H → Nat
  | .lit (.string bytes) => bytes.length + 1
  | .lit _ => 1
  | .nil => 1
  | .ptr d => uptoBulk d + 1
  | .slice elems spare => uptoBulkAll elems + uptoBulkAll spare + 1
  | .agg parts => uptoBulkAll parts + 1
  | .iface _ d => uptoBulk d + 1
  | .map entries => uptoBulkEntries entries + 1
  | .held _ => 1
def uptoBulkAll {H : Type} : List (DataW H) → Nat
  | [] => 0
  | d :: r => uptoBulk d + uptoBulkAll r
def uptoBulkEntries {H : Type} : List (Lit × DataW H) → Nat
  | [] => 0
  | x :: r => uptoBulkEntry x + uptoBulkEntries r
def uptoBulkEntry {H : Type} : Lit × DataW H → Nat
  | (.string bytes, d) => bytes.length + uptoBulk d + 1
  | (_, d) => uptoBulk d + 1
 end
def uptoSmall : (H : Type) → List (DataW H) → Bool := fun _ ds => decide (uptoBulkAll ds ≤ 1048576)
def OpenSpec.upto (s : _root_.Go.ChangeSpec) : _root_.Go.OpenSpec := { _root_.Go.OpenSpec.ofChange s with cond := some uptoSmall }

/-- 'pyxlaw04.Base64MatchesReference', WHERE WHAT IT READS IS OF BULK AT MOST 1048576: true; the input reads as it did. -/
def base64MatchesReferenceUptoRow : OpenClaim := { program := "ytclfnpggllgepaa", sum := "aa1e3a8b3bfc284d324743f2c4273c3e571269b4a9543623a06c9cd3fe82c0c9", func := "pyx/pyxlaw04.Base64MatchesReference", spec := "base64MatchesReference", inPlace := ["internal/bytealg.IndexByteString", "internal/abi.NoEscape", "internal/bytealg.MakeNoZero"], apart := false, narrowed := true }
def Base64MatchesReferenceUptoSaid : Prop := base64MatchesReferenceUptoRow.holds Try.pinned (OpenSpec.upto base64MatchesReferenceSpec)

/-- 'pyxlaw04.Base64Encodes', WHERE WHAT IT READS IS OF BULK AT MOST 1048576: true; the input reads as it did. -/
def base64EncodesUptoRow : OpenClaim := { program := "ytclfnpggllgepaa", sum := "aa1e3a8b3bfc284d324743f2c4273c3e571269b4a9543623a06c9cd3fe82c0c9", func := "pyx/pyxlaw04.Base64Encodes", spec := "base64Encodes", inPlace := ["internal/bytealg.IndexByteString", "internal/abi.NoEscape", "internal/bytealg.MakeNoZero"], apart := false, narrowed := true }
def Base64EncodesUptoSaid : Prop := base64EncodesUptoRow.holds Try.pinned (OpenSpec.upto base64EncodesSpec)

/-- 'pyxlaw04.Base64Digits', WHERE WHAT IT READS IS OF BULK AT MOST 1048576: true; the input reads as it did. -/
def base64DigitsUptoRow : OpenClaim := { program := "ytclfnpggllgepaa", sum := "aa1e3a8b3bfc284d324743f2c4273c3e571269b4a9543623a06c9cd3fe82c0c9", func := "pyx/pyxlaw04.Base64Digits", spec := "base64Digits", inPlace := ["internal/bytealg.IndexByteString", "internal/abi.NoEscape", "internal/bytealg.MakeNoZero"], apart := false, narrowed := true }
def Base64DigitsUptoSaid : Prop := base64DigitsUptoRow.holds Try.pinned (OpenSpec.upto base64DigitsSpec)

/-- 'pyxlaw04.Base64Joins', WHERE WHAT IT READS IS OF BULK AT MOST 1048576: true; the input reads as it did. -/
def base64JoinsUptoRow : OpenClaim := { program := "ytclfnpggllgepaa", sum := "aa1e3a8b3bfc284d324743f2c4273c3e571269b4a9543623a06c9cd3fe82c0c9", func := "pyx/pyxlaw04.Base64Joins", spec := "base64Joins", inPlace := ["internal/bytealg.IndexByteString", "internal/abi.NoEscape", "internal/bytealg.MakeNoZero"], apart := false, narrowed := true }
def Base64JoinsUptoSaid : Prop := base64JoinsUptoRow.holds Try.pinned (OpenSpec.upto base64JoinsSpec)

/-- 'pyxlaw04.Base64Changes', WHERE WHAT IT READS IS OF BULK AT MOST 1048576: true; the input reads as it did. -/
def base64ChangesUptoRow : OpenClaim := { program := "ytclfnpggllgepaa", sum := "aa1e3a8b3bfc284d324743f2c4273c3e571269b4a9543623a06c9cd3fe82c0c9", func := "pyx/pyxlaw04.Base64Changes", spec := "base64Changes", inPlace := ["internal/bytealg.IndexByteString", "internal/abi.NoEscape", "internal/bytealg.MakeNoZero"], apart := false, narrowed := true }
def Base64ChangesUptoSaid : Prop := base64ChangesUptoRow.holds Try.pinned (OpenSpec.upto base64ChangesSpec)

end Rows
end Go.Proofs.Ytclfnpggllgepaa
