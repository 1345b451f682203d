/-
  No cell of these rows narrows 'for every input' (looked for: loops, veiled, ifaces, maps, wideKeys, modest, calm, conditions, laid).
  DERIVED. THE GIVEN ROWS OF THIS SEAT. 5 by the template 'for every input the law returns true; each argument reads behind the call as it read before'; 0 by the template 'total and deterministic' (their statements: YtngbmaojgfocgaaTotals.lean).
  GIVEN WITH THE SEED: the statements are not yours to turn. If you find one false, say at which input.
  Laid BY PROGRAM, IN A SANDBOX (cutbox-rows.mjs): the forced cells as the released guide's own fill.sh prints them over the translation 63735087bec71052… (all of the seat's roots in one cut). By AI agents, Wed Nov 11 2026. No macro, syntax, notation, axiom, sorry.
-/
import Derived.Test.YtngbmaojgfocgaaChecked
import GoSem.Claim
import GoSem.ClaimJoined
import GoSem.ClaimMapViews
import Derived.JoinedTies
import Derived.KernelRfl
namespace Go.Proofs.Ytngbmaojgfocgaa
/- THE CELL 'sum', in the pinned program and in every row, IS THE sha256 OF THE DUMP (.gsa) THAT YtngbmaojgfocgaaProg.lean LOADS. Nothing in Lean hashes anything: it is a label: what it is worth is what the hold of that sum in a sandbox is worth. -/
noncomputable def Try.pinned : Pinned := { name := "ytngbmaojgfocgaa", sum := "63735087bec710526b621c6257e4490d550d1d06b115aa9841a2fbe412f42f35", checked := Try.checked }
namespace Rows
def none {H : Type} : Left H := { results := [], args := [] }

/-- 'pyxlaw17.DringMatchesReference': WHATEVER THE INPUT: true; the input reads as it did. -/
def dringMatchesReferenceSpec : ChangeSpec := { name := "dringMatchesReference", fn := fun _ => fun
  | [d] => { results := [.lit (.bool true)], args := [d] }
  | _ => none }
def dringMatchesReferenceRow : OpenClaim := { program := "ytngbmaojgfocgaa", sum := "63735087bec710526b621c6257e4490d550d1d06b115aa9841a2fbe412f42f35", func := "pyx/pyxlaw17.DringMatchesReference", spec := "dringMatchesReference", unfollowed := true, recurses := true, apart := false }
def DringMatchesReferenceSaid : Prop := dringMatchesReferenceRow.holds Try.pinned (OpenSpec.ofChange dringMatchesReferenceSpec)

/-- ITS FALSE NEIGHBOUR: 'it returns false'. Refute it at one input. -/
def dringMatchesReferenceWrong : ChangeSpec := { name := "dringMatchesReference", fn := fun _ => fun
  | [d] => { results := [.lit (.bool false)], args := [d] }
  | _ => none }
def DringMatchesReferenceWrongFalsely : Prop := dringMatchesReferenceRow.holds Try.pinned (OpenSpec.ofChange dringMatchesReferenceWrong)

/-- 'pyxlaw17.DringInverse': WHATEVER THE INPUT: true; the input reads as it did. -/
def dringInverseSpec : ChangeSpec := { name := "dringInverse", fn := fun _ => fun
  | [d] => { results := [.lit (.bool true)], args := [d] }
  | _ => none }
def dringInverseRow : OpenClaim := { program := "ytngbmaojgfocgaa", sum := "63735087bec710526b621c6257e4490d550d1d06b115aa9841a2fbe412f42f35", func := "pyx/pyxlaw17.DringInverse", spec := "dringInverse", unfollowed := true, recurses := true, apart := false }
def DringInverseSaid : Prop := dringInverseRow.holds Try.pinned (OpenSpec.ofChange dringInverseSpec)

/-- ITS FALSE NEIGHBOUR: 'it returns false'. Refute it at one input. -/
def dringInverseWrong : ChangeSpec := { name := "dringInverse", fn := fun _ => fun
  | [d] => { results := [.lit (.bool false)], args := [d] }
  | _ => none }
def DringInverseWrongFalsely : Prop := dringInverseRow.holds Try.pinned (OpenSpec.ofChange dringInverseWrong)

/-- 'pyxlaw17.DringProducts': WHATEVER THE INPUT: true; the input reads as it did. -/
def dringProductsSpec : ChangeSpec := { name := "dringProducts", fn := fun _ => fun
  | [d1, d2] => { results := [.lit (.bool true)], args := [d1, d2] }
  | _ => none }
def dringProductsRow : OpenClaim := { program := "ytngbmaojgfocgaa", sum := "63735087bec710526b621c6257e4490d550d1d06b115aa9841a2fbe412f42f35", func := "pyx/pyxlaw17.DringProducts", spec := "dringProducts", unfollowed := true, recurses := true, apart := false }
def DringProductsSaid : Prop := dringProductsRow.holds Try.pinned (OpenSpec.ofChange dringProductsSpec)

/-- ITS FALSE NEIGHBOUR: 'it returns false'. Refute it at one input. -/
def dringProductsWrong : ChangeSpec := { name := "dringProducts", fn := fun _ => fun
  | [d1, d2] => { results := [.lit (.bool false)], args := [d1, d2] }
  | _ => none }
def DringProductsWrongFalsely : Prop := dringProductsRow.holds Try.pinned (OpenSpec.ofChange dringProductsWrong)

/-- 'pyxlaw17.DringSums': WHATEVER THE INPUT: true; the input reads as it did. -/
def dringSumsSpec : ChangeSpec := { name := "dringSums", fn := fun _ => fun
  | [d1, d2, d3] => { results := [.lit (.bool true)], args := [d1, d2, d3] }
  | _ => none }
def dringSumsRow : OpenClaim := { program := "ytngbmaojgfocgaa", sum := "63735087bec710526b621c6257e4490d550d1d06b115aa9841a2fbe412f42f35", func := "pyx/pyxlaw17.DringSums", spec := "dringSums", unfollowed := true, recurses := true, apart := false }
def DringSumsSaid : Prop := dringSumsRow.holds Try.pinned (OpenSpec.ofChange dringSumsSpec)

/-- ITS FALSE NEIGHBOUR: 'it returns false'. Refute it at one input. -/
def dringSumsWrong : ChangeSpec := { name := "dringSums", fn := fun _ => fun
  | [d1, d2, d3] => { results := [.lit (.bool false)], args := [d1, d2, d3] }
  | _ => none }
def DringSumsWrongFalsely : Prop := dringSumsRow.holds Try.pinned (OpenSpec.ofChange dringSumsWrong)

/-- 'pyxlaw17.DringNorm': WHATEVER THE INPUT: true; the input reads as it did. -/
def dringNormSpec : ChangeSpec := { name := "dringNorm", fn := fun _ => fun
  | [d1, d2, d3, d4] => { results := [.lit (.bool true)], args := [d1, d2, d3, d4] }
  | _ => none }
def dringNormRow : OpenClaim := { program := "ytngbmaojgfocgaa", sum := "63735087bec710526b621c6257e4490d550d1d06b115aa9841a2fbe412f42f35", func := "pyx/pyxlaw17.DringNorm", spec := "dringNorm", unfollowed := true, recurses := true, apart := false }
def DringNormSaid : Prop := dringNormRow.holds Try.pinned (OpenSpec.ofChange dringNormSpec)

/-- ITS FALSE NEIGHBOUR: 'it returns false'. Refute it at one input. -/
def dringNormWrong : ChangeSpec := { name := "dringNorm", fn := fun _ => fun
  | [d1, d2, d3, d4] => { results := [.lit (.bool false)], args := [d1, d2, d3, d4] }
  | _ => none }
def DringNormWrongFalsely : Prop := dringNormRow.holds Try.pinned (OpenSpec.ofChange dringNormWrong)

/- THE SECOND FORM. 'bulk': how many values and letters a reading holds, each counted each time it is reached (what is shared counts as often as it is met; a slice's spare places count too). A statement '..UptoSaid' is the law's where the arguments, and the package variables that the reading takes, are together of bulk at most 1048576: NARROWER than '..Said'. Prove '..Said' where nothing that the law and all that it calls make is longer than what came in: it says more and counts as full. Else prove '..UptoSaid'. A law counts once. -/
mutual
def uptoBulk {H : Type} : DataW H → Nat
  | .lit (.string bytes) => bytes.length + 1
  | .lit _ => 1
  | .nil => 1
  | .ptr d => uptoBulk d + 1
  | .slice elems spare => uptoBulkAll elems + uptoBulkAll spare + 1
  | .agg parts => uptoBulkAll parts + 1
  | .iface _ d => uptoBulk d + 1
  | .map entries => uptoBulkEntries entries + 1
  | .held _ => 1
def uptoBulkAll {H : Type} : List (DataW H) → Nat
  | [] => 0
  | d :: r => uptoBulk d + uptoBulkAll r
def uptoBulkEntries {H : Type} : List (Lit × DataW H) → Nat
  | [] => 0
  | x :: r => uptoBulkEntry x + uptoBulkEntries r
def uptoBulkEntry {H : Type} : Lit × DataW H → Nat
  | (.string bytes, d) => bytes.length + uptoBulk d + 1
  | (_, d) => uptoBulk d + 1
 end
def uptoSmall : (H : Type) → List (DataW H) → Bool := fun _ ds => decide (uptoBulkAll ds ≤ 1048576)
def OpenSpec.upto (s : _root_.Go.ChangeSpec) : _root_.Go.OpenSpec := { _root_.Go.OpenSpec.ofChange s with cond := some uptoSmall }

/-- 'pyxlaw17.DringMatchesReference', WHERE WHAT IT READS IS OF BULK AT MOST 1048576: true; the input reads as it did. -/
def dringMatchesReferenceUptoRow : OpenClaim := { program := "ytngbmaojgfocgaa", sum := "63735087bec710526b621c6257e4490d550d1d06b115aa9841a2fbe412f42f35", func := "pyx/pyxlaw17.DringMatchesReference", spec := "dringMatchesReference", unfollowed := true, recurses := true, apart := false, narrowed := true }
def DringMatchesReferenceUptoSaid : Prop := dringMatchesReferenceUptoRow.holds Try.pinned (OpenSpec.upto dringMatchesReferenceSpec)

/-- 'pyxlaw17.DringInverse', WHERE WHAT IT READS IS OF BULK AT MOST 1048576: true; the input reads as it did. -/
def dringInverseUptoRow : OpenClaim := { program := "ytngbmaojgfocgaa", sum := "63735087bec710526b621c6257e4490d550d1d06b115aa9841a2fbe412f42f35", func := "pyx/pyxlaw17.DringInverse", spec := "dringInverse", unfollowed := true, recurses := true, apart := false, narrowed := true }
def DringInverseUptoSaid : Prop := dringInverseUptoRow.holds Try.pinned (OpenSpec.upto dringInverseSpec)

/-- 'pyxlaw17.DringProducts', WHERE WHAT IT READS IS OF BULK AT MOST 1048576: true; the input reads as it did. -/
def dringProductsUptoRow : OpenClaim := { program := "ytngbmaojgfocgaa", sum := "63735087bec710526b621c6257e4490d550d1d06b115aa9841a2fbe412f42f35", func := "pyx/pyxlaw17.DringProducts", spec := "dringProducts", unfollowed := true, recurses := true, apart := false, narrowed := true }
def DringProductsUptoSaid : Prop := dringProductsUptoRow.holds Try.pinned (OpenSpec.upto dringProductsSpec)

/-- 'pyxlaw17.DringSums', WHERE WHAT IT READS IS OF BULK AT MOST 1048576: true; the input reads as it did. -/
def dringSumsUptoRow : OpenClaim := { program := "ytngbmaojgfocgaa", sum := "63735087bec710526b621c6257e4490d550d1d06b115aa9841a2fbe412f42f35", func := "pyx/pyxlaw17.DringSums", spec := "dringSums", unfollowed := true, recurses := true, apart := false, narrowed := true }
def DringSumsUptoSaid : Prop := dringSumsUptoRow.holds Try.pinned (OpenSpec.upto dringSumsSpec)

/-- 'pyxlaw17.DringNorm', WHERE WHAT IT READS IS OF BULK AT MOST 1048576: true; the input reads as it did. -/
def dringNormUptoRow : OpenClaim := { program := "ytngbmaojgfocgaa", sum := "63735087bec710526b621c6257e4490d550d1d06b115aa9841a2fbe412f42f35", func := "pyx/pyxlaw17.DringNorm", spec := "dringNorm", unfollowed := true, recurses := true, apart := false, narrowed := true }
def DringNormUptoSaid : Prop := dringNormUptoRow.holds Try.pinned (OpenSpec.upto dringNormSpec)

end Rows
end Go.Proofs.Ytngbmaojgfocgaa
