/-
  NARROWER THAN 'FOR EVERY INPUT', by the rows' own cells (each row's printed sentence says how): DerMatchesReference: laid · DerSame: loops, laid · DerLimits: laid · DerDeep: laid.
  DERIVED. THE GIVEN ROWS OF THIS SEAT. 4 by the template 'for every input the law returns true; each argument reads behind the call as it read before'; 0 by the template 'total and deterministic' (their statements: YtdpnfojpeafdhaaDoorTotals.lean).
  GIVEN WITH THE SEED: the statements are not yours to turn. If you find one false, say at which input.
  Laid BY PROGRAM, IN A SANDBOX (cutbox-rows.mjs): the forced cells as the released guide's own fill.sh prints them over the translation e999a9d78fa54e05… (all of the seat's roots in one cut). By AI agents, Wed Nov 11 2026. No macro, syntax, notation, axiom, sorry.
-/
import Derived.Test.YtdpnfojpeafdhaaDoorChecked
import GoSem.Claim
import GoSem.ClaimJoined
import GoSem.ClaimMapViews
import Derived.JoinedTies
import Derived.KernelRfl
namespace Go.Proofs.YtdpnfojpeafdhaaDoor
/- THE CELL 'sum', in the pinned program and in every row, IS THE sha256 OF THE DUMP (.gsa) THAT YtdpnfojpeafdhaaDoorProg.lean LOADS. Nothing in Lean hashes anything: it is a label: what it is worth is what the hold of that sum in a sandbox is worth. -/
noncomputable def Tryd.pinned : Pinned := { name := "ytdpnfojpeafdhaadoor", sum := "e999a9d78fa54e0591aa252d9b4c1a54b8e8fba3ff094c9485be5fa9fe51a792", checked := Tryd.checked }
namespace Rows
def none {H : Type} : Left H := { results := [], args := [] }

/- WHAT THE LISTED PACKAGE-LEVEL VARIABLES READ AS WHEN THE CALL BEGINS. Each datum BY PROGRAM (the guide's laid-datum.mjs) off the statement by which the dump's own 'gosem.cut.vars' lays the variable. In a bare row this is a premise. The card (YtdpnfojpeafdhaaDoorCards.lean) ties it to the program's text. -/
def laid_errors_errorType {H : Type} : DataW H := .iface "internal/reflectlite.rtype" (.agg [.ptr (.lit (.string [101, 114, 114, 111, 114]))])

/-- 'pyxlaw08.DerMatchesReference': WHATEVER THE INPUT: true; the input reads as it did. -/
def derMatchesReferenceSpec : ChangeSpec := { name := "derMatchesReference", fn := fun _ => fun
  | [d] => { results := [.lit (.bool true)], args := [d] }
  | _ => none }
def derMatchesReferenceRow : OpenClaim := { program := "ytdpnfojpeafdhaadoor", sum := "e999a9d78fa54e0591aa252d9b4c1a54b8e8fba3ff094c9485be5fa9fe51a792", func := "pyx/pyxlaw08.DerMatchesReference", spec := "derMatchesReference", inPlace := ["internal/bytealg.MakeNoZero", "internal/reflectlite.ValueOf", "(internal/reflectlite.Value).Type", "(internal/reflectlite.Value).IsNil", "internal/reflectlite.TypeOf", "(internal/reflectlite.Value).Elem", "(internal/reflectlite.Value).Set"], unfollowed := true, recurses := true, named := ["errors.errorType"], apart := false, laid := [("errors.errorType", laid_errors_errorType)] }
def DerMatchesReferenceSaid : Prop := derMatchesReferenceRow.holds Tryd.pinned (OpenSpec.ofChange derMatchesReferenceSpec)

/-- ITS FALSE NEIGHBOUR: 'it returns false'. Refute it at one input. -/
def derMatchesReferenceWrong : ChangeSpec := { name := "derMatchesReference", fn := fun _ => fun
  | [d] => { results := [.lit (.bool false)], args := [d] }
  | _ => none }
def DerMatchesReferenceWrongFalsely : Prop := derMatchesReferenceRow.holds Tryd.pinned (OpenSpec.ofChange derMatchesReferenceWrong)

/-- 'pyxlaw08.DerSame': WHATEVER THE INPUT: true; the input reads as it did. -/
def derSameSpec : ChangeSpec := { name := "derSame", fn := fun _ => fun
  | [d1, d2] => { results := [.lit (.bool true)], args := [d1, d2] }
  | _ => none }
def derSameRow : OpenClaim := { program := "ytdpnfojpeafdhaadoor", sum := "e999a9d78fa54e0591aa252d9b4c1a54b8e8fba3ff094c9485be5fa9fe51a792", func := "pyx/pyxlaw08.DerSame", spec := "derSame", inPlace := ["internal/bytealg.MakeNoZero", "internal/reflectlite.ValueOf", "(internal/reflectlite.Value).Type", "(internal/reflectlite.Value).IsNil", "internal/reflectlite.TypeOf", "(internal/reflectlite.Value).Elem", "(internal/reflectlite.Value).Set"], unfollowed := true, recurses := true, named := ["errors.errorType"], loops := true, apart := false, laid := [("errors.errorType", laid_errors_errorType)] }
def DerSameSaid : Prop := derSameRow.holds Tryd.pinned (OpenSpec.ofChange derSameSpec)

/-- ITS FALSE NEIGHBOUR: 'it returns false'. Refute it at one input. -/
def derSameWrong : ChangeSpec := { name := "derSame", fn := fun _ => fun
  | [d1, d2] => { results := [.lit (.bool false)], args := [d1, d2] }
  | _ => none }
def DerSameWrongFalsely : Prop := derSameRow.holds Tryd.pinned (OpenSpec.ofChange derSameWrong)

/-- 'pyxlaw08.DerLimits': WHATEVER THE INPUT: true; the input reads as it did. -/
def derLimitsSpec : ChangeSpec := { name := "derLimits", fn := fun _ => fun
  | [d1, d2] => { results := [.lit (.bool true)], args := [d1, d2] }
  | _ => none }
def derLimitsRow : OpenClaim := { program := "ytdpnfojpeafdhaadoor", sum := "e999a9d78fa54e0591aa252d9b4c1a54b8e8fba3ff094c9485be5fa9fe51a792", func := "pyx/pyxlaw08.DerLimits", spec := "derLimits", inPlace := ["internal/bytealg.MakeNoZero", "internal/reflectlite.ValueOf", "(internal/reflectlite.Value).Type", "(internal/reflectlite.Value).IsNil", "internal/reflectlite.TypeOf", "(internal/reflectlite.Value).Elem", "(internal/reflectlite.Value).Set"], unfollowed := true, recurses := true, named := ["errors.errorType"], apart := false, laid := [("errors.errorType", laid_errors_errorType)] }
def DerLimitsSaid : Prop := derLimitsRow.holds Tryd.pinned (OpenSpec.ofChange derLimitsSpec)

/-- ITS FALSE NEIGHBOUR: 'it returns false'. Refute it at one input. -/
def derLimitsWrong : ChangeSpec := { name := "derLimits", fn := fun _ => fun
  | [d1, d2] => { results := [.lit (.bool false)], args := [d1, d2] }
  | _ => none }
def DerLimitsWrongFalsely : Prop := derLimitsRow.holds Tryd.pinned (OpenSpec.ofChange derLimitsWrong)

/-- 'pyxlaw08.DerDeep': WHATEVER THE INPUT: true; the input reads as it did. -/
def derDeepSpec : ChangeSpec := { name := "derDeep", fn := fun _ => fun
  | [d] => { results := [.lit (.bool true)], args := [d] }
  | _ => none }
def derDeepRow : OpenClaim := { program := "ytdpnfojpeafdhaadoor", sum := "e999a9d78fa54e0591aa252d9b4c1a54b8e8fba3ff094c9485be5fa9fe51a792", func := "pyx/pyxlaw08.DerDeep", spec := "derDeep", inPlace := ["internal/bytealg.MakeNoZero", "internal/reflectlite.ValueOf", "(internal/reflectlite.Value).Type", "(internal/reflectlite.Value).IsNil", "internal/reflectlite.TypeOf", "(internal/reflectlite.Value).Elem", "(internal/reflectlite.Value).Set"], unfollowed := true, recurses := true, named := ["errors.errorType"], apart := false, laid := [("errors.errorType", laid_errors_errorType)] }
def DerDeepSaid : Prop := derDeepRow.holds Tryd.pinned (OpenSpec.ofChange derDeepSpec)

/-- ITS FALSE NEIGHBOUR: 'it returns false'. Refute it at one input. -/
def derDeepWrong : ChangeSpec := { name := "derDeep", fn := fun _ => fun
  | [d] => { results := [.lit (.bool false)], args := [d] }
  | _ => none }
def DerDeepWrongFalsely : Prop := derDeepRow.holds Tryd.pinned (OpenSpec.ofChange derDeepWrong)

/- THE SECOND FORM. 'bulk': how many values and letters a reading holds, each counted each time it is reached (what is shared counts as often as it is met; a slice's spare places count too). A statement '..UptoSaid' is the law's where the arguments, and the package variables that the reading takes, are together of bulk at most 1048576: NARROWER than '..Said'. Prove '..Said' where nothing that the law and all that it calls make is longer than what came in: it says more and counts as full. Else prove '..UptoSaid'. A law counts once. -/
mutual
def uptoBulk {H : Type} : DataW H → Nat
  | .lit (.string bytes) => bytes.length + 1
  | .lit _ => 1
  | .nil => 1
  | .ptr d => uptoBulk d + 1
  | .slice elems spare => uptoBulkAll elems + uptoBulkAll spare + 1
  | .agg parts => uptoBulkAll parts + 1
  | .iface _ d => uptoBulk d + 1
  | .map entries => uptoBulkEntries entries + 1
  | .held _ => 1
def uptoBulkAll {H : Type} : List (DataW H) → Nat
  | [] => 0
  | d :: r => uptoBulk d + uptoBulkAll r
def uptoBulkEntries {H : Type} : List (Lit × DataW H) → Nat
  | [] => 0
  | x :: r => uptoBulkEntry x + uptoBulkEntries r
def uptoBulkEntry {H : Type} : Lit × DataW H → Nat
  | (.string bytes, d) => bytes.length + uptoBulk d + 1
  | (_, d) => uptoBulk d + 1
 end
def uptoSmall : (H : Type) → List (DataW H) → Bool := fun _ ds => decide (uptoBulkAll ds ≤ 1048576)
def OpenSpec.upto (s : _root_.Go.ChangeSpec) : _root_.Go.OpenSpec := { _root_.Go.OpenSpec.ofChange s with cond := some uptoSmall }

/-- 'pyxlaw08.DerMatchesReference', WHERE WHAT IT READS IS OF BULK AT MOST 1048576: true; the input reads as it did. -/
def derMatchesReferenceUptoRow : OpenClaim := { program := "ytdpnfojpeafdhaadoor", sum := "e999a9d78fa54e0591aa252d9b4c1a54b8e8fba3ff094c9485be5fa9fe51a792", func := "pyx/pyxlaw08.DerMatchesReference", spec := "derMatchesReference", inPlace := ["internal/bytealg.MakeNoZero", "internal/reflectlite.ValueOf", "(internal/reflectlite.Value).Type", "(internal/reflectlite.Value).IsNil", "internal/reflectlite.TypeOf", "(internal/reflectlite.Value).Elem", "(internal/reflectlite.Value).Set"], unfollowed := true, recurses := true, named := ["errors.errorType"], apart := false, laid := [("errors.errorType", laid_errors_errorType)], narrowed := true }
def DerMatchesReferenceUptoSaid : Prop := derMatchesReferenceUptoRow.holds Tryd.pinned (OpenSpec.upto derMatchesReferenceSpec)

/-- 'pyxlaw08.DerSame', WHERE WHAT IT READS IS OF BULK AT MOST 1048576: true; the input reads as it did. -/
def derSameUptoRow : OpenClaim := { program := "ytdpnfojpeafdhaadoor", sum := "e999a9d78fa54e0591aa252d9b4c1a54b8e8fba3ff094c9485be5fa9fe51a792", func := "pyx/pyxlaw08.DerSame", spec := "derSame", inPlace := ["internal/bytealg.MakeNoZero", "internal/reflectlite.ValueOf", "(internal/reflectlite.Value).Type", "(internal/reflectlite.Value).IsNil", "internal/reflectlite.TypeOf", "(internal/reflectlite.Value).Elem", "(internal/reflectlite.Value).Set"], unfollowed := true, recurses := true, named := ["errors.errorType"], loops := true, apart := false, laid := [("errors.errorType", laid_errors_errorType)], narrowed := true }
def DerSameUptoSaid : Prop := derSameUptoRow.holds Tryd.pinned (OpenSpec.upto derSameSpec)

/-- 'pyxlaw08.DerLimits', WHERE WHAT IT READS IS OF BULK AT MOST 1048576: true; the input reads as it did. -/
def derLimitsUptoRow : OpenClaim := { program := "ytdpnfojpeafdhaadoor", sum := "e999a9d78fa54e0591aa252d9b4c1a54b8e8fba3ff094c9485be5fa9fe51a792", func := "pyx/pyxlaw08.DerLimits", spec := "derLimits", inPlace := ["internal/bytealg.MakeNoZero", "internal/reflectlite.ValueOf", "(internal/reflectlite.Value).Type", "(internal/reflectlite.Value).IsNil", "internal/reflectlite.TypeOf", "(internal/reflectlite.Value).Elem", "(internal/reflectlite.Value).Set"], unfollowed := true, recurses := true, named := ["errors.errorType"], apart := false, laid := [("errors.errorType", laid_errors_errorType)], narrowed := true }
def DerLimitsUptoSaid : Prop := derLimitsUptoRow.holds Tryd.pinned (OpenSpec.upto derLimitsSpec)

/-- 'pyxlaw08.DerDeep', WHERE WHAT IT READS IS OF BULK AT MOST 1048576: true; the input reads as it did. -/
def derDeepUptoRow : OpenClaim := { program := "ytdpnfojpeafdhaadoor", sum := "e999a9d78fa54e0591aa252d9b4c1a54b8e8fba3ff094c9485be5fa9fe51a792", func := "pyx/pyxlaw08.DerDeep", spec := "derDeep", inPlace := ["internal/bytealg.MakeNoZero", "internal/reflectlite.ValueOf", "(internal/reflectlite.Value).Type", "(internal/reflectlite.Value).IsNil", "internal/reflectlite.TypeOf", "(internal/reflectlite.Value).Elem", "(internal/reflectlite.Value).Set"], unfollowed := true, recurses := true, named := ["errors.errorType"], apart := false, laid := [("errors.errorType", laid_errors_errorType)], narrowed := true }
def DerDeepUptoSaid : Prop := derDeepUptoRow.holds Tryd.pinned (OpenSpec.upto derDeepSpec)

end Rows
end Go.Proofs.YtdpnfojpeafdhaaDoor
