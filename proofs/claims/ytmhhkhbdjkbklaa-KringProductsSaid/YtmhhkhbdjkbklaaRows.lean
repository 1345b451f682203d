/-
  No cell of these rows narrows 'for every input' (looked for: loops, veiled, ifaces, maps, wideKeys, modest, calm, conditions, laid).
  DERIVED. THE GIVEN ROWS OF THIS SEAT. 5 by the template 'for every input the law returns true; each argument reads behind the call as it read before'; 0 by the template 'total and deterministic' (their statements: YtmhhkhbdjkbklaaTotals.lean).
  GIVEN WITH THE SEED: the statements are not yours to turn. If you find one false, say at which input.
  Laid BY PROGRAM, IN A SANDBOX (cutbox-rows.mjs): the forced cells as the released guide's own fill.sh prints them over the translation b5a9ce06ab7ca5d6… (all of the seat's roots in one cut). By AI agents, Wed Nov 11 2026. No macro, syntax, notation, axiom, sorry.
-/
import Derived.Test.YtmhhkhbdjkbklaaChecked
import GoSem.Claim
import GoSem.ClaimJoined
import GoSem.ClaimMapViews
import Derived.JoinedTies
import Derived.KernelRfl
namespace Go.Proofs.Ytmhhkhbdjkbklaa
/- THE CELL 'sum', in the pinned program and in every row, IS THE sha256 OF THE DUMP (.gsa) THAT YtmhhkhbdjkbklaaProg.lean LOADS. Nothing in Lean hashes anything: it is a label: what it is worth is what the hold of that sum in a sandbox is worth. -/
noncomputable def Try.pinned : Pinned := { name := "ytmhhkhbdjkbklaa", sum := "b5a9ce06ab7ca5d6a21522b9452ecae257602159a3856abbcd7171b65ec5a98d", checked := Try.checked }
namespace Rows
def none {H : Type} : Left H := { results := [], args := [] }

/-- 'pyxlaw14.KringMatchesReference': WHATEVER THE INPUT: true; the input reads as it did. -/
def kringMatchesReferenceSpec : ChangeSpec := { name := "kringMatchesReference", fn := fun _ => fun
  | [d] => { results := [.lit (.bool true)], args := [d] }
  | _ => none }
def kringMatchesReferenceRow : OpenClaim := { program := "ytmhhkhbdjkbklaa", sum := "b5a9ce06ab7ca5d6a21522b9452ecae257602159a3856abbcd7171b65ec5a98d", func := "pyx/pyxlaw14.KringMatchesReference", spec := "kringMatchesReference", apart := false }
def KringMatchesReferenceSaid : Prop := kringMatchesReferenceRow.holds Try.pinned (OpenSpec.ofChange kringMatchesReferenceSpec)

/-- ITS FALSE NEIGHBOUR: 'it returns false'. Refute it at one input. -/
def kringMatchesReferenceWrong : ChangeSpec := { name := "kringMatchesReference", fn := fun _ => fun
  | [d] => { results := [.lit (.bool false)], args := [d] }
  | _ => none }
def KringMatchesReferenceWrongFalsely : Prop := kringMatchesReferenceRow.holds Try.pinned (OpenSpec.ofChange kringMatchesReferenceWrong)

/-- 'pyxlaw14.KringInverse': WHATEVER THE INPUT: true; the input reads as it did. -/
def kringInverseSpec : ChangeSpec := { name := "kringInverse", fn := fun _ => fun
  | [d] => { results := [.lit (.bool true)], args := [d] }
  | _ => none }
def kringInverseRow : OpenClaim := { program := "ytmhhkhbdjkbklaa", sum := "b5a9ce06ab7ca5d6a21522b9452ecae257602159a3856abbcd7171b65ec5a98d", func := "pyx/pyxlaw14.KringInverse", spec := "kringInverse", apart := false }
def KringInverseSaid : Prop := kringInverseRow.holds Try.pinned (OpenSpec.ofChange kringInverseSpec)

/-- ITS FALSE NEIGHBOUR: 'it returns false'. Refute it at one input. -/
def kringInverseWrong : ChangeSpec := { name := "kringInverse", fn := fun _ => fun
  | [d] => { results := [.lit (.bool false)], args := [d] }
  | _ => none }
def KringInverseWrongFalsely : Prop := kringInverseRow.holds Try.pinned (OpenSpec.ofChange kringInverseWrong)

/-- 'pyxlaw14.KringProducts': WHATEVER THE INPUT: true; the input reads as it did. -/
def kringProductsSpec : ChangeSpec := { name := "kringProducts", fn := fun _ => fun
  | [d1, d2] => { results := [.lit (.bool true)], args := [d1, d2] }
  | _ => none }
def kringProductsRow : OpenClaim := { program := "ytmhhkhbdjkbklaa", sum := "b5a9ce06ab7ca5d6a21522b9452ecae257602159a3856abbcd7171b65ec5a98d", func := "pyx/pyxlaw14.KringProducts", spec := "kringProducts", apart := false }
def KringProductsSaid : Prop := kringProductsRow.holds Try.pinned (OpenSpec.ofChange kringProductsSpec)

/-- ITS FALSE NEIGHBOUR: 'it returns false'. Refute it at one input. -/
def kringProductsWrong : ChangeSpec := { name := "kringProducts", fn := fun _ => fun
  | [d1, d2] => { results := [.lit (.bool false)], args := [d1, d2] }
  | _ => none }
def KringProductsWrongFalsely : Prop := kringProductsRow.holds Try.pinned (OpenSpec.ofChange kringProductsWrong)

/-- 'pyxlaw14.KringSums': WHATEVER THE INPUT: true; the input reads as it did. -/
def kringSumsSpec : ChangeSpec := { name := "kringSums", fn := fun _ => fun
  | [d1, d2, d3] => { results := [.lit (.bool true)], args := [d1, d2, d3] }
  | _ => none }
def kringSumsRow : OpenClaim := { program := "ytmhhkhbdjkbklaa", sum := "b5a9ce06ab7ca5d6a21522b9452ecae257602159a3856abbcd7171b65ec5a98d", func := "pyx/pyxlaw14.KringSums", spec := "kringSums", apart := false }
def KringSumsSaid : Prop := kringSumsRow.holds Try.pinned (OpenSpec.ofChange kringSumsSpec)

/-- ITS FALSE NEIGHBOUR: 'it returns false'. Refute it at one input. -/
def kringSumsWrong : ChangeSpec := { name := "kringSums", fn := fun _ => fun
  | [d1, d2, d3] => { results := [.lit (.bool false)], args := [d1, d2, d3] }
  | _ => none }
def KringSumsWrongFalsely : Prop := kringSumsRow.holds Try.pinned (OpenSpec.ofChange kringSumsWrong)

/-- 'pyxlaw14.KringRoots': WHATEVER THE INPUT: true; the input reads as it did. -/
def kringRootsSpec : ChangeSpec := { name := "kringRoots", fn := fun _ => fun
  | [d1, d2] => { results := [.lit (.bool true)], args := [d1, d2] }
  | _ => none }
def kringRootsRow : OpenClaim := { program := "ytmhhkhbdjkbklaa", sum := "b5a9ce06ab7ca5d6a21522b9452ecae257602159a3856abbcd7171b65ec5a98d", func := "pyx/pyxlaw14.KringRoots", spec := "kringRoots", apart := false }
def KringRootsSaid : Prop := kringRootsRow.holds Try.pinned (OpenSpec.ofChange kringRootsSpec)

/-- ITS FALSE NEIGHBOUR: 'it returns false'. Refute it at one input. -/
def kringRootsWrong : ChangeSpec := { name := "kringRoots", fn := fun _ => fun
  | [d1, d2] => { results := [.lit (.bool false)], args := [d1, d2] }
  | _ => none }
def KringRootsWrongFalsely : Prop := kringRootsRow.holds Try.pinned (OpenSpec.ofChange kringRootsWrong)

/- THE SECOND FORM. 'bulk': how many values and letters a reading holds, each counted each time it is reached (what is shared counts as often as it is met; a slice's spare places count too). A statement '..UptoSaid' is the law's where the arguments, and the package variables that the reading takes, are together of bulk at most 1048576: NARROWER than '..Said'. Prove '..Said' where nothing that the law and all that it calls make is longer than what came in: it says more and counts as full. Else prove '..UptoSaid'. A law counts once. -/
mutual
def uptoBulk {H : Type} : DataW H → Nat
  | .lit (.string bytes) => bytes.length + 1
  | .lit _ => 1
  | .nil => 1
  | .ptr d => uptoBulk d + 1
  | .slice elems spare => uptoBulkAll elems + uptoBulkAll spare + 1
  | .agg parts => uptoBulkAll parts + 1
  | .iface _ d => uptoBulk d + 1
  | .map entries => uptoBulkEntries entries + 1
  | .held _ => 1
def uptoBulkAll {H : Type} : List (DataW H) → Nat
  | [] => 0
  | d :: r => uptoBulk d + uptoBulkAll r
def uptoBulkEntries {H : Type} : List (Lit × DataW H) → Nat
  | [] => 0
  | x :: r => uptoBulkEntry x + uptoBulkEntries r
def uptoBulkEntry {H : Type} : Lit × DataW H → Nat
  | (.string bytes, d) => bytes.length + uptoBulk d + 1
  | (_, d) => uptoBulk d + 1
 end
def uptoSmall : (H : Type) → List (DataW H) → Bool := fun _ ds => decide (uptoBulkAll ds ≤ 1048576)
def OpenSpec.upto (s : _root_.Go.ChangeSpec) : _root_.Go.OpenSpec := { _root_.Go.OpenSpec.ofChange s with cond := some uptoSmall }

/-- 'pyxlaw14.KringMatchesReference', WHERE WHAT IT READS IS OF BULK AT MOST 1048576: true; the input reads as it did. -/
def kringMatchesReferenceUptoRow : OpenClaim := { program := "ytmhhkhbdjkbklaa", sum := "b5a9ce06ab7ca5d6a21522b9452ecae257602159a3856abbcd7171b65ec5a98d", func := "pyx/pyxlaw14.KringMatchesReference", spec := "kringMatchesReference", apart := false, narrowed := true }
def KringMatchesReferenceUptoSaid : Prop := kringMatchesReferenceUptoRow.holds Try.pinned (OpenSpec.upto kringMatchesReferenceSpec)

/-- 'pyxlaw14.KringInverse', WHERE WHAT IT READS IS OF BULK AT MOST 1048576: true; the input reads as it did. -/
def kringInverseUptoRow : OpenClaim := { program := "ytmhhkhbdjkbklaa", sum := "b5a9ce06ab7ca5d6a21522b9452ecae257602159a3856abbcd7171b65ec5a98d", func := "pyx/pyxlaw14.KringInverse", spec := "kringInverse", apart := false, narrowed := true }
def KringInverseUptoSaid : Prop := kringInverseUptoRow.holds Try.pinned (OpenSpec.upto kringInverseSpec)

/-- 'pyxlaw14.KringProducts', WHERE WHAT IT READS IS OF BULK AT MOST 1048576: true; the input reads as it did. -/
def kringProductsUptoRow : OpenClaim := { program := "ytmhhkhbdjkbklaa", sum := "b5a9ce06ab7ca5d6a21522b9452ecae257602159a3856abbcd7171b65ec5a98d", func := "pyx/pyxlaw14.KringProducts", spec := "kringProducts", apart := false, narrowed := true }
def KringProductsUptoSaid : Prop := kringProductsUptoRow.holds Try.pinned (OpenSpec.upto kringProductsSpec)

/-- 'pyxlaw14.KringSums', WHERE WHAT IT READS IS OF BULK AT MOST 1048576: true; the input reads as it did. -/
def kringSumsUptoRow : OpenClaim := { program := "ytmhhkhbdjkbklaa", sum := "b5a9ce06ab7ca5d6a21522b9452ecae257602159a3856abbcd7171b65ec5a98d", func := "pyx/pyxlaw14.KringSums", spec := "kringSums", apart := false, narrowed := true }
def KringSumsUptoSaid : Prop := kringSumsUptoRow.holds Try.pinned (OpenSpec.upto kringSumsSpec)

/-- 'pyxlaw14.KringRoots', WHERE WHAT IT READS IS OF BULK AT MOST 1048576: true; the input reads as it did. -/
def kringRootsUptoRow : OpenClaim := { program := "ytmhhkhbdjkbklaa", sum := "b5a9ce06ab7ca5d6a21522b9452ecae257602159a3856abbcd7171b65ec5a98d", func := "pyx/pyxlaw14.KringRoots", spec := "kringRoots", apart := false, narrowed := true }
def KringRootsUptoSaid : Prop := kringRootsUptoRow.holds Try.pinned (OpenSpec.upto kringRootsSpec)

end Rows
end Go.Proofs.Ytmhhkhbdjkbklaa
