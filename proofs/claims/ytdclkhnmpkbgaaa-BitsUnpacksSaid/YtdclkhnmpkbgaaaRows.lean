/-
  No cell of these rows narrows 'for every input' (looked for: loops, veiled, ifaces, maps, wideKeys, modest, calm, conditions, laid).
  DERIVED. THE GIVEN ROWS OF THIS SEAT. 5 by the template 'for every input the law returns true; each argument reads behind the call as it read before'; 0 by the template 'total and deterministic' (their statements: YtdclkhnmpkbgaaaTotals.lean).
  GIVEN WITH THE SEED: the statements are not yours to turn. If you find one false, say at which input.
  Laid BY PROGRAM, IN A SANDBOX (cutbox-rows.mjs): the forced cells as the released guide's own fill.sh prints them over the translation f9439f6546c2fbda… (all of the seat's roots in one cut). By AI agents, Wed Nov 11 2026. No macro, syntax, notation, axiom, sorry.
-/
import Derived.Test.YtdclkhnmpkbgaaaChecked
import GoSem.Claim
import GoSem.ClaimJoined
import GoSem.ClaimMapViews
import Derived.JoinedTies
import Derived.KernelRfl
namespace Go.Proofs.Ytdclkhnmpkbgaaa
/- THE CELL 'sum', in the pinned program and in every row, IS THE sha256 OF THE DUMP (.gsa) THAT YtdclkhnmpkbgaaaProg.lean LOADS. Nothing in Lean hashes anything: it is a label: what it is worth is what the hold of that sum in a sandbox is worth. -/
noncomputable def Try.pinned : Pinned := { name := "ytdclkhnmpkbgaaa", sum := "f9439f6546c2fbdad5c9f01233967a4660c65a214e4be0100c7262894bbc17b3", checked := Try.checked }
namespace Rows
def none {H : Type} : Left H := { results := [], args := [] }

/-- 'pyxlaw05.BitsMatchesReference': WHATEVER THE INPUT: true; the input reads as it did. -/
def bitsMatchesReferenceSpec : ChangeSpec := { name := "bitsMatchesReference", fn := fun _ => fun
  | [d1, d2] => { results := [.lit (.bool true)], args := [d1, d2] }
  | _ => none }
def bitsMatchesReferenceRow : OpenClaim := { program := "ytdclkhnmpkbgaaa", sum := "f9439f6546c2fbdad5c9f01233967a4660c65a214e4be0100c7262894bbc17b3", func := "pyx/pyxlaw05.BitsMatchesReference", spec := "bitsMatchesReference", unfollowed := true, recurses := true, apart := false }
def BitsMatchesReferenceSaid : Prop := bitsMatchesReferenceRow.holds Try.pinned (OpenSpec.ofChange bitsMatchesReferenceSpec)

/-- ITS FALSE NEIGHBOUR: 'it returns false'. Refute it at one input. -/
def bitsMatchesReferenceWrong : ChangeSpec := { name := "bitsMatchesReference", fn := fun _ => fun
  | [d1, d2] => { results := [.lit (.bool false)], args := [d1, d2] }
  | _ => none }
def BitsMatchesReferenceWrongFalsely : Prop := bitsMatchesReferenceRow.holds Try.pinned (OpenSpec.ofChange bitsMatchesReferenceWrong)

/-- 'pyxlaw05.BitsUnpacks': WHATEVER THE INPUT: true; the input reads as it did. -/
def bitsUnpacksSpec : ChangeSpec := { name := "bitsUnpacks", fn := fun _ => fun
  | [d1, d2, d3] => { results := [.lit (.bool true)], args := [d1, d2, d3] }
  | _ => none }
def bitsUnpacksRow : OpenClaim := { program := "ytdclkhnmpkbgaaa", sum := "f9439f6546c2fbdad5c9f01233967a4660c65a214e4be0100c7262894bbc17b3", func := "pyx/pyxlaw05.BitsUnpacks", spec := "bitsUnpacks", unfollowed := true, recurses := true, apart := false }
def BitsUnpacksSaid : Prop := bitsUnpacksRow.holds Try.pinned (OpenSpec.ofChange bitsUnpacksSpec)

/-- ITS FALSE NEIGHBOUR: 'it returns false'. Refute it at one input. -/
def bitsUnpacksWrong : ChangeSpec := { name := "bitsUnpacks", fn := fun _ => fun
  | [d1, d2, d3] => { results := [.lit (.bool false)], args := [d1, d2, d3] }
  | _ => none }
def BitsUnpacksWrongFalsely : Prop := bitsUnpacksRow.holds Try.pinned (OpenSpec.ofChange bitsUnpacksWrong)

/-- 'pyxlaw05.BitsInverse': WHATEVER THE INPUT: true; the input reads as it did. -/
def bitsInverseSpec : ChangeSpec := { name := "bitsInverse", fn := fun _ => fun
  | [d1, d2] => { results := [.lit (.bool true)], args := [d1, d2] }
  | _ => none }
def bitsInverseRow : OpenClaim := { program := "ytdclkhnmpkbgaaa", sum := "f9439f6546c2fbdad5c9f01233967a4660c65a214e4be0100c7262894bbc17b3", func := "pyx/pyxlaw05.BitsInverse", spec := "bitsInverse", unfollowed := true, recurses := true, apart := false }
def BitsInverseSaid : Prop := bitsInverseRow.holds Try.pinned (OpenSpec.ofChange bitsInverseSpec)

/-- ITS FALSE NEIGHBOUR: 'it returns false'. Refute it at one input. -/
def bitsInverseWrong : ChangeSpec := { name := "bitsInverse", fn := fun _ => fun
  | [d1, d2] => { results := [.lit (.bool false)], args := [d1, d2] }
  | _ => none }
def BitsInverseWrongFalsely : Prop := bitsInverseRow.holds Try.pinned (OpenSpec.ofChange bitsInverseWrong)

/-- 'pyxlaw05.BitsSingle': WHATEVER THE INPUT: true; the input reads as it did. -/
def bitsSingleSpec : ChangeSpec := { name := "bitsSingle", fn := fun _ => fun
  | [d1, d2, d3] => { results := [.lit (.bool true)], args := [d1, d2, d3] }
  | _ => none }
def bitsSingleRow : OpenClaim := { program := "ytdclkhnmpkbgaaa", sum := "f9439f6546c2fbdad5c9f01233967a4660c65a214e4be0100c7262894bbc17b3", func := "pyx/pyxlaw05.BitsSingle", spec := "bitsSingle", unfollowed := true, recurses := true, apart := false }
def BitsSingleSaid : Prop := bitsSingleRow.holds Try.pinned (OpenSpec.ofChange bitsSingleSpec)

/-- ITS FALSE NEIGHBOUR: 'it returns false'. Refute it at one input. -/
def bitsSingleWrong : ChangeSpec := { name := "bitsSingle", fn := fun _ => fun
  | [d1, d2, d3] => { results := [.lit (.bool false)], args := [d1, d2, d3] }
  | _ => none }
def BitsSingleWrongFalsely : Prop := bitsSingleRow.holds Try.pinned (OpenSpec.ofChange bitsSingleWrong)

/-- 'pyxlaw05.BitsLeast': WHATEVER THE INPUT: true; the input reads as it did. -/
def bitsLeastSpec : ChangeSpec := { name := "bitsLeast", fn := fun _ => fun
  | [d1, d2] => { results := [.lit (.bool true)], args := [d1, d2] }
  | _ => none }
def bitsLeastRow : OpenClaim := { program := "ytdclkhnmpkbgaaa", sum := "f9439f6546c2fbdad5c9f01233967a4660c65a214e4be0100c7262894bbc17b3", func := "pyx/pyxlaw05.BitsLeast", spec := "bitsLeast", unfollowed := true, recurses := true, apart := false }
def BitsLeastSaid : Prop := bitsLeastRow.holds Try.pinned (OpenSpec.ofChange bitsLeastSpec)

/-- ITS FALSE NEIGHBOUR: 'it returns false'. Refute it at one input. -/
def bitsLeastWrong : ChangeSpec := { name := "bitsLeast", fn := fun _ => fun
  | [d1, d2] => { results := [.lit (.bool false)], args := [d1, d2] }
  | _ => none }
def BitsLeastWrongFalsely : Prop := bitsLeastRow.holds Try.pinned (OpenSpec.ofChange bitsLeastWrong)

/- THE SECOND FORM. 'bulk': how many values and letters a reading holds, each counted each time it is reached (what is shared counts as often as it is met; a slice's spare places count too). A statement '..UptoSaid' is the law's where the arguments, and the package variables that the reading takes, are together of bulk at most 1048576: NARROWER than '..Said'. Prove '..Said' where nothing that the law and all that it calls make is longer than what came in: it says more and counts as full. Else prove '..UptoSaid'. A law counts once. -/
mutual
def uptoBulk {H : Type} : DataW H → Nat
  | .lit (.string bytes) => bytes.length + 1
  | .lit _ => 1
  | .nil => 1
  | .ptr d => uptoBulk d + 1
  | .slice elems spare => uptoBulkAll elems + uptoBulkAll spare + 1
  | .agg parts => uptoBulkAll parts + 1
  | .iface _ d => uptoBulk d + 1
  | .map entries => uptoBulkEntries entries + 1
  | .held _ => 1
def uptoBulkAll {H : Type} : List (DataW H) → Nat
  | [] => 0
  | d :: r => uptoBulk d + uptoBulkAll r
def uptoBulkEntries {H : Type} : List (Lit × DataW H) → Nat
  | [] => 0
  | x :: r => uptoBulkEntry x + uptoBulkEntries r
def uptoBulkEntry {H : Type} : Lit × DataW H → Nat
  | (.string bytes, d) => bytes.length + uptoBulk d + 1
  | (_, d) => uptoBulk d + 1
 end
def uptoSmall : (H : Type) → List (DataW H) → Bool := fun _ ds => decide (uptoBulkAll ds ≤ 1048576)
def OpenSpec.upto (s : _root_.Go.ChangeSpec) : _root_.Go.OpenSpec := { _root_.Go.OpenSpec.ofChange s with cond := some uptoSmall }

/-- 'pyxlaw05.BitsMatchesReference', WHERE WHAT IT READS IS OF BULK AT MOST 1048576: true; the input reads as it did. -/
def bitsMatchesReferenceUptoRow : OpenClaim := { program := "ytdclkhnmpkbgaaa", sum := "f9439f6546c2fbdad5c9f01233967a4660c65a214e4be0100c7262894bbc17b3", func := "pyx/pyxlaw05.BitsMatchesReference", spec := "bitsMatchesReference", unfollowed := true, recurses := true, apart := false, narrowed := true }
def BitsMatchesReferenceUptoSaid : Prop := bitsMatchesReferenceUptoRow.holds Try.pinned (OpenSpec.upto bitsMatchesReferenceSpec)

/-- 'pyxlaw05.BitsUnpacks', WHERE WHAT IT READS IS OF BULK AT MOST 1048576: true; the input reads as it did. -/
def bitsUnpacksUptoRow : OpenClaim := { program := "ytdclkhnmpkbgaaa", sum := "f9439f6546c2fbdad5c9f01233967a4660c65a214e4be0100c7262894bbc17b3", func := "pyx/pyxlaw05.BitsUnpacks", spec := "bitsUnpacks", unfollowed := true, recurses := true, apart := false, narrowed := true }
def BitsUnpacksUptoSaid : Prop := bitsUnpacksUptoRow.holds Try.pinned (OpenSpec.upto bitsUnpacksSpec)

/-- 'pyxlaw05.BitsInverse', WHERE WHAT IT READS IS OF BULK AT MOST 1048576: true; the input reads as it did. -/
def bitsInverseUptoRow : OpenClaim := { program := "ytdclkhnmpkbgaaa", sum := "f9439f6546c2fbdad5c9f01233967a4660c65a214e4be0100c7262894bbc17b3", func := "pyx/pyxlaw05.BitsInverse", spec := "bitsInverse", unfollowed := true, recurses := true, apart := false, narrowed := true }
def BitsInverseUptoSaid : Prop := bitsInverseUptoRow.holds Try.pinned (OpenSpec.upto bitsInverseSpec)

/-- 'pyxlaw05.BitsSingle', WHERE WHAT IT READS IS OF BULK AT MOST 1048576: true; the input reads as it did. -/
def bitsSingleUptoRow : OpenClaim := { program := "ytdclkhnmpkbgaaa", sum := "f9439f6546c2fbdad5c9f01233967a4660c65a214e4be0100c7262894bbc17b3", func := "pyx/pyxlaw05.BitsSingle", spec := "bitsSingle", unfollowed := true, recurses := true, apart := false, narrowed := true }
def BitsSingleUptoSaid : Prop := bitsSingleUptoRow.holds Try.pinned (OpenSpec.upto bitsSingleSpec)

/-- 'pyxlaw05.BitsLeast', WHERE WHAT IT READS IS OF BULK AT MOST 1048576: true; the input reads as it did. -/
def bitsLeastUptoRow : OpenClaim := { program := "ytdclkhnmpkbgaaa", sum := "f9439f6546c2fbdad5c9f01233967a4660c65a214e4be0100c7262894bbc17b3", func := "pyx/pyxlaw05.BitsLeast", spec := "bitsLeast", unfollowed := true, recurses := true, apart := false, narrowed := true }
def BitsLeastUptoSaid : Prop := bitsLeastUptoRow.holds Try.pinned (OpenSpec.upto bitsLeastSpec)

end Rows
end Go.Proofs.Ytdclkhnmpkbgaaa
