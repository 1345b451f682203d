/-
  No cell of these rows narrows 'for every input' (looked for: loops, veiled, ifaces, maps, wideKeys, modest, calm, conditions, laid).
  DERIVED. THE GIVEN ROWS OF THIS SEAT. 5 by the template 'for every input the law returns true; each argument reads behind the call as it read before'; 0 by the template 'total and deterministic' (their statements: YtdnpmkhincdghaaTotals.lean).
  GIVEN WITH THE SEED: the statements are not yours to turn. If you find one false, say at which input.
  Laid BY PROGRAM, IN A SANDBOX (cutbox-rows.mjs): the forced cells as the released guide's own fill.sh prints them over the translation 2ac5af38adacdfda… (all of the seat's roots in one cut). By AI agents, Wed Nov 11 2026. No macro, syntax, notation, axiom, sorry.
-/
import Derived.Test.YtdnpmkhincdghaaChecked
import GoSem.Claim
import GoSem.ClaimJoined
import GoSem.ClaimMapViews
import Derived.JoinedTies
import Derived.KernelRfl
namespace Go.Proofs.Ytdnpmkhincdghaa
/- THE CELL 'sum', in the pinned program and in every row, IS THE sha256 OF THE DUMP (.gsa) THAT YtdnpmkhincdghaaProg.lean LOADS. Nothing in Lean hashes anything: it is a label: what it is worth is what the hold of that sum in a sandbox is worth. -/
noncomputable def Try.pinned : Pinned := { name := "ytdnpmkhincdghaa", sum := "2ac5af38adacdfda7507af776f3e42ca095ae46c60beb551b6fef618d87c6691", checked := Try.checked }
namespace Rows
def none {H : Type} : Left H := { results := [], args := [] }

/-- 'pyxlaw06.KeccakMatchesReference': WHATEVER THE INPUT: true; the input reads as it did. -/
def keccakMatchesReferenceSpec : ChangeSpec := { name := "keccakMatchesReference", fn := fun _ => fun
  | [d] => { results := [.lit (.bool true)], args := [d] }
  | _ => none }
def keccakMatchesReferenceRow : OpenClaim := { program := "ytdnpmkhincdghaa", sum := "2ac5af38adacdfda7507af776f3e42ca095ae46c60beb551b6fef618d87c6691", func := "pyx/pyxlaw06.KeccakMatchesReference", spec := "keccakMatchesReference", apart := false }
def KeccakMatchesReferenceSaid : Prop := keccakMatchesReferenceRow.holds Try.pinned (OpenSpec.ofChange keccakMatchesReferenceSpec)

/-- ITS FALSE NEIGHBOUR: 'it returns false'. Refute it at one input. -/
def keccakMatchesReferenceWrong : ChangeSpec := { name := "keccakMatchesReference", fn := fun _ => fun
  | [d] => { results := [.lit (.bool false)], args := [d] }
  | _ => none }
def KeccakMatchesReferenceWrongFalsely : Prop := keccakMatchesReferenceRow.holds Try.pinned (OpenSpec.ofChange keccakMatchesReferenceWrong)

/-- 'pyxlaw06.KeccakRounds': WHATEVER THE INPUT: true; the input reads as it did. -/
def keccakRoundsSpec : ChangeSpec := { name := "keccakRounds", fn := fun _ => fun
  | [d1, d2] => { results := [.lit (.bool true)], args := [d1, d2] }
  | _ => none }
def keccakRoundsRow : OpenClaim := { program := "ytdnpmkhincdghaa", sum := "2ac5af38adacdfda7507af776f3e42ca095ae46c60beb551b6fef618d87c6691", func := "pyx/pyxlaw06.KeccakRounds", spec := "keccakRounds", apart := false }
def KeccakRoundsSaid : Prop := keccakRoundsRow.holds Try.pinned (OpenSpec.ofChange keccakRoundsSpec)

/-- ITS FALSE NEIGHBOUR: 'it returns false'. Refute it at one input. -/
def keccakRoundsWrong : ChangeSpec := { name := "keccakRounds", fn := fun _ => fun
  | [d1, d2] => { results := [.lit (.bool false)], args := [d1, d2] }
  | _ => none }
def KeccakRoundsWrongFalsely : Prop := keccakRoundsRow.holds Try.pinned (OpenSpec.ofChange keccakRoundsWrong)

/-- 'pyxlaw06.KeccakTables': WHATEVER THE INPUT: true; the input reads as it did. -/
def keccakTablesSpec : ChangeSpec := { name := "keccakTables", fn := fun _ => fun
  | [d] => { results := [.lit (.bool true)], args := [d] }
  | _ => none }
def keccakTablesRow : OpenClaim := { program := "ytdnpmkhincdghaa", sum := "2ac5af38adacdfda7507af776f3e42ca095ae46c60beb551b6fef618d87c6691", func := "pyx/pyxlaw06.KeccakTables", spec := "keccakTables", apart := false }
def KeccakTablesSaid : Prop := keccakTablesRow.holds Try.pinned (OpenSpec.ofChange keccakTablesSpec)

/-- ITS FALSE NEIGHBOUR: 'it returns false'. Refute it at one input. -/
def keccakTablesWrong : ChangeSpec := { name := "keccakTables", fn := fun _ => fun
  | [d] => { results := [.lit (.bool false)], args := [d] }
  | _ => none }
def KeccakTablesWrongFalsely : Prop := keccakTablesRow.holds Try.pinned (OpenSpec.ofChange keccakTablesWrong)

/-- 'pyxlaw06.KeccakBytes': WHATEVER THE INPUT: true; the input reads as it did. -/
def keccakBytesSpec : ChangeSpec := { name := "keccakBytes", fn := fun _ => fun
  | [d] => { results := [.lit (.bool true)], args := [d] }
  | _ => none }
def keccakBytesRow : OpenClaim := { program := "ytdnpmkhincdghaa", sum := "2ac5af38adacdfda7507af776f3e42ca095ae46c60beb551b6fef618d87c6691", func := "pyx/pyxlaw06.KeccakBytes", spec := "keccakBytes", apart := false }
def KeccakBytesSaid : Prop := keccakBytesRow.holds Try.pinned (OpenSpec.ofChange keccakBytesSpec)

/-- ITS FALSE NEIGHBOUR: 'it returns false'. Refute it at one input. -/
def keccakBytesWrong : ChangeSpec := { name := "keccakBytes", fn := fun _ => fun
  | [d] => { results := [.lit (.bool false)], args := [d] }
  | _ => none }
def KeccakBytesWrongFalsely : Prop := keccakBytesRow.holds Try.pinned (OpenSpec.ofChange keccakBytesWrong)

/-- 'pyxlaw06.KeccakApart': WHATEVER THE INPUT: true; the input reads as it did. -/
def keccakApartSpec : ChangeSpec := { name := "keccakApart", fn := fun _ => fun
  | [d1, d2] => { results := [.lit (.bool true)], args := [d1, d2] }
  | _ => none }
def keccakApartRow : OpenClaim := { program := "ytdnpmkhincdghaa", sum := "2ac5af38adacdfda7507af776f3e42ca095ae46c60beb551b6fef618d87c6691", func := "pyx/pyxlaw06.KeccakApart", spec := "keccakApart", apart := false }
def KeccakApartSaid : Prop := keccakApartRow.holds Try.pinned (OpenSpec.ofChange keccakApartSpec)

/-- ITS FALSE NEIGHBOUR: 'it returns false'. Refute it at one input. -/
def keccakApartWrong : ChangeSpec := { name := "keccakApart", fn := fun _ => fun
  | [d1, d2] => { results := [.lit (.bool false)], args := [d1, d2] }
  | _ => none }
def KeccakApartWrongFalsely : Prop := keccakApartRow.holds Try.pinned (OpenSpec.ofChange keccakApartWrong)

/- THE SECOND FORM. 'bulk': how many values and letters a reading holds, each counted each time it is reached (what is shared counts as often as it is met; a slice's spare places count too). A statement '..UptoSaid' is the law's where the arguments, and the package variables that the reading takes, are together of bulk at most 1048576: NARROWER than '..Said'. Prove '..Said' where nothing that the law and all that it calls make is longer than what came in: it says more and counts as full. Else prove '..UptoSaid'. A law counts once. -/
mutual
def uptoBulk {H : Type} : DataW H → Nat
  | .lit (.string bytes) => bytes.length + 1
  | .lit _ => 1
  | .nil => 1
  | .ptr d => uptoBulk d + 1
  | .slice elems spare => uptoBulkAll elems + uptoBulkAll spare + 1
  | .agg parts => uptoBulkAll parts + 1
  | .iface _ d => uptoBulk d + 1
  | .map entries => uptoBulkEntries entries + 1
  | .held _ => 1
def uptoBulkAll {H : Type} : List (DataW H) → Nat
  | [] => 0
  | d :: r => uptoBulk d + uptoBulkAll r
def uptoBulkEntries {H : Type} : List (Lit × DataW H) → Nat
  | [] => 0
  | x :: r => uptoBulkEntry x + uptoBulkEntries r
def uptoBulkEntry {H : Type} : Lit × DataW H → Nat
  | (.string bytes, d) => bytes.length + uptoBulk d + 1
  | (_, d) => uptoBulk d + 1
 end
def uptoSmall : (H : Type) → List (DataW H) → Bool := fun _ ds => decide (uptoBulkAll ds ≤ 1048576)
def OpenSpec.upto (s : _root_.Go.ChangeSpec) : _root_.Go.OpenSpec := { _root_.Go.OpenSpec.ofChange s with cond := some uptoSmall }

/-- 'pyxlaw06.KeccakMatchesReference', WHERE WHAT IT READS IS OF BULK AT MOST 1048576: true; the input reads as it did. -/
def keccakMatchesReferenceUptoRow : OpenClaim := { program := "ytdnpmkhincdghaa", sum := "2ac5af38adacdfda7507af776f3e42ca095ae46c60beb551b6fef618d87c6691", func := "pyx/pyxlaw06.KeccakMatchesReference", spec := "keccakMatchesReference", apart := false, narrowed := true }
def KeccakMatchesReferenceUptoSaid : Prop := keccakMatchesReferenceUptoRow.holds Try.pinned (OpenSpec.upto keccakMatchesReferenceSpec)

/-- 'pyxlaw06.KeccakRounds', WHERE WHAT IT READS IS OF BULK AT MOST 1048576: true; the input reads as it did. -/
def keccakRoundsUptoRow : OpenClaim := { program := "ytdnpmkhincdghaa", sum := "2ac5af38adacdfda7507af776f3e42ca095ae46c60beb551b6fef618d87c6691", func := "pyx/pyxlaw06.KeccakRounds", spec := "keccakRounds", apart := false, narrowed := true }
def KeccakRoundsUptoSaid : Prop := keccakRoundsUptoRow.holds Try.pinned (OpenSpec.upto keccakRoundsSpec)

/-- 'pyxlaw06.KeccakTables', WHERE WHAT IT READS IS OF BULK AT MOST 1048576: true; the input reads as it did. -/
def keccakTablesUptoRow : OpenClaim := { program := "ytdnpmkhincdghaa", sum := "2ac5af38adacdfda7507af776f3e42ca095ae46c60beb551b6fef618d87c6691", func := "pyx/pyxlaw06.KeccakTables", spec := "keccakTables", apart := false, narrowed := true }
def KeccakTablesUptoSaid : Prop := keccakTablesUptoRow.holds Try.pinned (OpenSpec.upto keccakTablesSpec)

/-- 'pyxlaw06.KeccakBytes', WHERE WHAT IT READS IS OF BULK AT MOST 1048576: true; the input reads as it did. -/
def keccakBytesUptoRow : OpenClaim := { program := "ytdnpmkhincdghaa", sum := "2ac5af38adacdfda7507af776f3e42ca095ae46c60beb551b6fef618d87c6691", func := "pyx/pyxlaw06.KeccakBytes", spec := "keccakBytes", apart := false, narrowed := true }
def KeccakBytesUptoSaid : Prop := keccakBytesUptoRow.holds Try.pinned (OpenSpec.upto keccakBytesSpec)

/-- 'pyxlaw06.KeccakApart', WHERE WHAT IT READS IS OF BULK AT MOST 1048576: true; the input reads as it did. -/
def keccakApartUptoRow : OpenClaim := { program := "ytdnpmkhincdghaa", sum := "2ac5af38adacdfda7507af776f3e42ca095ae46c60beb551b6fef618d87c6691", func := "pyx/pyxlaw06.KeccakApart", spec := "keccakApart", apart := false, narrowed := true }
def KeccakApartUptoSaid : Prop := keccakApartUptoRow.holds Try.pinned (OpenSpec.upto keccakApartSpec)

end Rows
end Go.Proofs.Ytdnpmkhincdghaa
