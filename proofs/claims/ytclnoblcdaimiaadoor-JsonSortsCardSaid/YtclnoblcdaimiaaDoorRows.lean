/-
  NARROWER THAN 'FOR EVERY INPUT', by the rows' own cells (each row's printed sentence says how): JsonMatchesReference: laid · JsonEncodes: laid · JsonSorts: laid · JsonParts: laid.
  DERIVED. THE GIVEN ROWS OF THIS SEAT. 4 by the template 'for every input the law returns true; each argument reads behind the call as it read before'; 0 by the template 'total and deterministic' (their statements: YtclnoblcdaimiaaDoorTotals.lean).
  GIVEN WITH THE SEED: the statements are not yours to turn. If you find one false, say at which input.
  Laid BY PROGRAM, IN A SANDBOX (cutbox-rows.mjs): the forced cells as the released guide's own fill.sh prints them over the translation d116f3ee49ca8fff… (all of the seat's roots in one cut). By AI agents, Wed Nov 11 2026. No macro, syntax, notation, axiom, sorry.
-/
import Derived.Test.YtclnoblcdaimiaaDoorChecked
import GoSem.PinnedTables
import GoSem.Claim
import GoSem.ClaimJoined
import GoSem.ClaimMapViews
import Derived.JoinedTies
import Derived.KernelRfl
namespace Go.Proofs.YtclnoblcdaimiaaDoor
/- THE CELL 'sum', in the pinned program and in every row, IS THE sha256 OF THE DUMP (.gsa) THAT YtclnoblcdaimiaaDoorProg.lean LOADS. Nothing in Lean hashes anything: it is a label: what it is worth is what the hold of that sum in a sandbox is worth. -/
noncomputable def Tryd.pinned : Pinned := { name := "ytclnoblcdaimiaadoor", sum := "d116f3ee49ca8fff7766447e188d0581c2c978f44d6940bcbb75e2f7b099084b", checked := Tryd.checked }
namespace Rows
def none {H : Type} : Left H := { results := [], args := [] }

/- WHAT THE LISTED PACKAGE-LEVEL VARIABLES READ AS WHEN THE CALL BEGINS. Each datum BY PROGRAM (the guide's laid-datum.mjs) off the statement by which the dump's own 'gosem.cut.vars' lays the variable. In a bare row this is a premise. The card (YtclnoblcdaimiaaDoorCards.lean) ties it to the program's text. -/
def laid_unicode_utf8_acceptRanges {H : Type} : DataW H := .agg [.agg [.lit (.int .u8 128), .lit (.int .u8 191)], .agg [.lit (.int .u8 160), .lit (.int .u8 191)], .agg [.lit (.int .u8 128), .lit (.int .u8 159)], .agg [.lit (.int .u8 144), .lit (.int .u8 191)], .agg [.lit (.int .u8 128), .lit (.int .u8 143)], .agg [.lit (.int .u8 0), .lit (.int .u8 0)], .agg [.lit (.int .u8 0), .lit (.int .u8 0)], .agg [.lit (.int .u8 0), .lit (.int .u8 0)], .agg [.lit (.int .u8 0), .lit (.int .u8 0)], .agg [.lit (.int .u8 0), .lit (.int .u8 0)], .agg [.lit (.int .u8 0), .lit (.int .u8 0)], .agg [.lit (.int .u8 0), .lit (.int .u8 0)], .agg [.lit (.int .u8 0), .lit (.int .u8 0)], .agg [.lit (.int .u8 0), .lit (.int .u8 0)], .agg [.lit (.int .u8 0), .lit (.int .u8 0)], .agg [.lit (.int .u8 0), .lit (.int .u8 0)]]
def laid_errors_errorType {H : Type} : DataW H := .iface "internal/reflectlite.rtype" (.agg [.ptr (.lit (.string [101, 114, 114, 111, 114]))])
def laid_pyx_json_rest {H : Type} : DataW H := .agg [.lit (.int .i64 2), .lit (.int .i64 1), .lit (.int .i64 7), .lit (.int .i64 6), .lit (.int .i64 5), .lit (.int .i64 4), .lit (.int .i64 3), .lit (.int .i64 2), .lit (.int .i64 1), .lit (.int .i64 0)]
/-- One of Go's own tables, pinned by name: the form's constant. -/
def laid_unicode_utf8_first : DataW Unit := Go.Pinned.utf8First

/-- 'pyxlaw11.JsonMatchesReference': WHATEVER THE INPUT: true; the input reads as it did. -/
def jsonMatchesReferenceSpec : ChangeSpec := { name := "jsonMatchesReference", fn := fun _ => fun
  | [d] => { results := [.lit (.bool true)], args := [d] }
  | _ => none }
def jsonMatchesReferenceRow : OpenClaim := { program := "ytclnoblcdaimiaadoor", sum := "d116f3ee49ca8fff7766447e188d0581c2c978f44d6940bcbb75e2f7b099084b", func := "pyx/pyxlaw11.JsonMatchesReference", spec := "jsonMatchesReference", inPlace := ["internal/bytealg.IndexByteString", "internal/bytealg.IndexString", "internal/bytealg.CountString", "internal/reflectlite.ValueOf", "(internal/reflectlite.Value).Type", "(internal/reflectlite.Value).IsNil", "internal/reflectlite.TypeOf", "(internal/reflectlite.Value).Elem", "(internal/reflectlite.Value).Set"], unfollowed := true, recurses := true, named := ["pyx/json.rest", "internal/bytealg.MaxLen", "unicode/utf8.first", "unicode/utf8.acceptRanges", "errors.errorType"], apart := false, laid := [("unicode/utf8.acceptRanges", laid_unicode_utf8_acceptRanges), ("errors.errorType", laid_errors_errorType), ("pyx/json.rest", laid_pyx_json_rest), ("unicode/utf8.first", laid_unicode_utf8_first)] }
def JsonMatchesReferenceSaid : Prop := jsonMatchesReferenceRow.holds Tryd.pinned (OpenSpec.ofChange jsonMatchesReferenceSpec)

/-- ITS FALSE NEIGHBOUR: 'it returns false'. Refute it at one input. -/
def jsonMatchesReferenceWrong : ChangeSpec := { name := "jsonMatchesReference", fn := fun _ => fun
  | [d] => { results := [.lit (.bool false)], args := [d] }
  | _ => none }
def JsonMatchesReferenceWrongFalsely : Prop := jsonMatchesReferenceRow.holds Tryd.pinned (OpenSpec.ofChange jsonMatchesReferenceWrong)

/-- 'pyxlaw11.JsonEncodes': WHATEVER THE INPUT: true; the input reads as it did. -/
def jsonEncodesSpec : ChangeSpec := { name := "jsonEncodes", fn := fun _ => fun
  | [d] => { results := [.lit (.bool true)], args := [d] }
  | _ => none }
def jsonEncodesRow : OpenClaim := { program := "ytclnoblcdaimiaadoor", sum := "d116f3ee49ca8fff7766447e188d0581c2c978f44d6940bcbb75e2f7b099084b", func := "pyx/pyxlaw11.JsonEncodes", spec := "jsonEncodes", inPlace := ["internal/bytealg.IndexByteString", "internal/bytealg.IndexString", "internal/bytealg.CountString", "internal/reflectlite.ValueOf", "(internal/reflectlite.Value).Type", "(internal/reflectlite.Value).IsNil", "internal/reflectlite.TypeOf", "(internal/reflectlite.Value).Elem", "(internal/reflectlite.Value).Set"], unfollowed := true, recurses := true, named := ["pyx/json.rest", "internal/bytealg.MaxLen", "unicode/utf8.first", "unicode/utf8.acceptRanges", "errors.errorType"], apart := false, laid := [("unicode/utf8.acceptRanges", laid_unicode_utf8_acceptRanges), ("errors.errorType", laid_errors_errorType), ("pyx/json.rest", laid_pyx_json_rest), ("unicode/utf8.first", laid_unicode_utf8_first)] }
def JsonEncodesSaid : Prop := jsonEncodesRow.holds Tryd.pinned (OpenSpec.ofChange jsonEncodesSpec)

/-- ITS FALSE NEIGHBOUR: 'it returns false'. Refute it at one input. -/
def jsonEncodesWrong : ChangeSpec := { name := "jsonEncodes", fn := fun _ => fun
  | [d] => { results := [.lit (.bool false)], args := [d] }
  | _ => none }
def JsonEncodesWrongFalsely : Prop := jsonEncodesRow.holds Tryd.pinned (OpenSpec.ofChange jsonEncodesWrong)

/-- 'pyxlaw11.JsonSorts': WHATEVER THE INPUT: true; the input reads as it did. -/
def jsonSortsSpec : ChangeSpec := { name := "jsonSorts", fn := fun _ => fun
  | [d1, d2] => { results := [.lit (.bool true)], args := [d1, d2] }
  | _ => none }
def jsonSortsRow : OpenClaim := { program := "ytclnoblcdaimiaadoor", sum := "d116f3ee49ca8fff7766447e188d0581c2c978f44d6940bcbb75e2f7b099084b", func := "pyx/pyxlaw11.JsonSorts", spec := "jsonSorts", inPlace := ["internal/bytealg.IndexByteString", "internal/bytealg.IndexString", "internal/bytealg.CountString", "internal/reflectlite.ValueOf", "(internal/reflectlite.Value).Type", "(internal/reflectlite.Value).IsNil", "internal/reflectlite.TypeOf", "(internal/reflectlite.Value).Elem", "(internal/reflectlite.Value).Set"], unfollowed := true, recurses := true, named := ["pyx/json.rest", "internal/bytealg.MaxLen", "unicode/utf8.first", "unicode/utf8.acceptRanges", "errors.errorType"], apart := false, laid := [("unicode/utf8.acceptRanges", laid_unicode_utf8_acceptRanges), ("errors.errorType", laid_errors_errorType), ("pyx/json.rest", laid_pyx_json_rest), ("unicode/utf8.first", laid_unicode_utf8_first)] }
def JsonSortsSaid : Prop := jsonSortsRow.holds Tryd.pinned (OpenSpec.ofChange jsonSortsSpec)

/-- ITS FALSE NEIGHBOUR: 'it returns false'. Refute it at one input. -/
def jsonSortsWrong : ChangeSpec := { name := "jsonSorts", fn := fun _ => fun
  | [d1, d2] => { results := [.lit (.bool false)], args := [d1, d2] }
  | _ => none }
def JsonSortsWrongFalsely : Prop := jsonSortsRow.holds Tryd.pinned (OpenSpec.ofChange jsonSortsWrong)

/-- 'pyxlaw11.JsonParts': WHATEVER THE INPUT: true; the input reads as it did. -/
def jsonPartsSpec : ChangeSpec := { name := "jsonParts", fn := fun _ => fun
  | [d1, d2, d3] => { results := [.lit (.bool true)], args := [d1, d2, d3] }
  | _ => none }
def jsonPartsRow : OpenClaim := { program := "ytclnoblcdaimiaadoor", sum := "d116f3ee49ca8fff7766447e188d0581c2c978f44d6940bcbb75e2f7b099084b", func := "pyx/pyxlaw11.JsonParts", spec := "jsonParts", inPlace := ["internal/bytealg.IndexByteString", "internal/bytealg.IndexString", "internal/bytealg.CountString", "internal/reflectlite.ValueOf", "(internal/reflectlite.Value).Type", "(internal/reflectlite.Value).IsNil", "internal/reflectlite.TypeOf", "(internal/reflectlite.Value).Elem", "(internal/reflectlite.Value).Set"], unfollowed := true, recurses := true, named := ["pyx/json.rest", "internal/bytealg.MaxLen", "unicode/utf8.first", "unicode/utf8.acceptRanges", "errors.errorType"], apart := false, laid := [("unicode/utf8.acceptRanges", laid_unicode_utf8_acceptRanges), ("errors.errorType", laid_errors_errorType), ("pyx/json.rest", laid_pyx_json_rest), ("unicode/utf8.first", laid_unicode_utf8_first)] }
def JsonPartsSaid : Prop := jsonPartsRow.holds Tryd.pinned (OpenSpec.ofChange jsonPartsSpec)

/-- ITS FALSE NEIGHBOUR: 'it returns false'. Refute it at one input. -/
def jsonPartsWrong : ChangeSpec := { name := "jsonParts", fn := fun _ => fun
  | [d1, d2, d3] => { results := [.lit (.bool false)], args := [d1, d2, d3] }
  | _ => none }
def JsonPartsWrongFalsely : Prop := jsonPartsRow.holds Tryd.pinned (OpenSpec.ofChange jsonPartsWrong)

/- THE SECOND FORM. 'bulk': how many values and letters a reading holds, each counted each time it is reached (what is shared counts as often as it is met; a slice's spare places count too). A statement '..UptoSaid' is the law's where the arguments, and the package variables that the reading takes, are together of bulk at most 1048576: NARROWER than '..Said'. Prove '..Said' where nothing that the law and all that it calls make is longer than what came in: it says more and counts as full. Else prove '..UptoSaid'. A law counts once. -/
mutual
def uptoBulk {H : Type} : DataW H → Nat
  | .lit (.string bytes) => bytes.length + 1
  | .lit _ => 1
  | .nil => 1
  | .ptr d => uptoBulk d + 1
  | .slice elems spare => uptoBulkAll elems + uptoBulkAll spare + 1
  | .agg parts => uptoBulkAll parts + 1
  | .iface _ d => uptoBulk d + 1
  | .map entries => uptoBulkEntries entries + 1
  | .held _ => 1
def uptoBulkAll {H : Type} : List (DataW H) → Nat
  | [] => 0
  | d :: r => uptoBulk d + uptoBulkAll r
def uptoBulkEntries {H : Type} : List (Lit × DataW H) → Nat
  | [] => 0
  | x :: r => uptoBulkEntry x + uptoBulkEntries r
def uptoBulkEntry {H : Type} : Lit × DataW H → Nat
  | (.string bytes, d) => bytes.length + uptoBulk d + 1
  | (_, d) => uptoBulk d + 1
 end
def uptoSmall : (H : Type) → List (DataW H) → Bool := fun _ ds => decide (uptoBulkAll ds ≤ 1048576)
def OpenSpec.upto (s : _root_.Go.ChangeSpec) : _root_.Go.OpenSpec := { _root_.Go.OpenSpec.ofChange s with cond := some uptoSmall }

/-- 'pyxlaw11.JsonMatchesReference', WHERE WHAT IT READS IS OF BULK AT MOST 1048576: true; the input reads as it did. -/
def jsonMatchesReferenceUptoRow : OpenClaim := { program := "ytclnoblcdaimiaadoor", sum := "d116f3ee49ca8fff7766447e188d0581c2c978f44d6940bcbb75e2f7b099084b", func := "pyx/pyxlaw11.JsonMatchesReference", spec := "jsonMatchesReference", inPlace := ["internal/bytealg.IndexByteString", "internal/bytealg.IndexString", "internal/bytealg.CountString", "internal/reflectlite.ValueOf", "(internal/reflectlite.Value).Type", "(internal/reflectlite.Value).IsNil", "internal/reflectlite.TypeOf", "(internal/reflectlite.Value).Elem", "(internal/reflectlite.Value).Set"], unfollowed := true, recurses := true, named := ["pyx/json.rest", "internal/bytealg.MaxLen", "unicode/utf8.first", "unicode/utf8.acceptRanges", "errors.errorType"], apart := false, laid := [("unicode/utf8.acceptRanges", laid_unicode_utf8_acceptRanges), ("errors.errorType", laid_errors_errorType), ("pyx/json.rest", laid_pyx_json_rest), ("unicode/utf8.first", laid_unicode_utf8_first)], narrowed := true }
def JsonMatchesReferenceUptoSaid : Prop := jsonMatchesReferenceUptoRow.holds Tryd.pinned (OpenSpec.upto jsonMatchesReferenceSpec)

/-- 'pyxlaw11.JsonEncodes', WHERE WHAT IT READS IS OF BULK AT MOST 1048576: true; the input reads as it did. -/
def jsonEncodesUptoRow : OpenClaim := { program := "ytclnoblcdaimiaadoor", sum := "d116f3ee49ca8fff7766447e188d0581c2c978f44d6940bcbb75e2f7b099084b", func := "pyx/pyxlaw11.JsonEncodes", spec := "jsonEncodes", inPlace := ["internal/bytealg.IndexByteString", "internal/bytealg.IndexString", "internal/bytealg.CountString", "internal/reflectlite.ValueOf", "(internal/reflectlite.Value).Type", "(internal/reflectlite.Value).IsNil", "internal/reflectlite.TypeOf", "(internal/reflectlite.Value).Elem", "(internal/reflectlite.Value).Set"], unfollowed := true, recurses := true, named := ["pyx/json.rest", "internal/bytealg.MaxLen", "unicode/utf8.first", "unicode/utf8.acceptRanges", "errors.errorType"], apart := false, laid := [("unicode/utf8.acceptRanges", laid_unicode_utf8_acceptRanges), ("errors.errorType", laid_errors_errorType), ("pyx/json.rest", laid_pyx_json_rest), ("unicode/utf8.first", laid_unicode_utf8_first)], narrowed := true }
def JsonEncodesUptoSaid : Prop := jsonEncodesUptoRow.holds Tryd.pinned (OpenSpec.upto jsonEncodesSpec)

/-- 'pyxlaw11.JsonSorts', WHERE WHAT IT READS IS OF BULK AT MOST 1048576: true; the input reads as it did. -/
def jsonSortsUptoRow : OpenClaim := { program := "ytclnoblcdaimiaadoor", sum := "d116f3ee49ca8fff7766447e188d0581c2c978f44d6940bcbb75e2f7b099084b", func := "pyx/pyxlaw11.JsonSorts", spec := "jsonSorts", inPlace := ["internal/bytealg.IndexByteString", "internal/bytealg.IndexString", "internal/bytealg.CountString", "internal/reflectlite.ValueOf", "(internal/reflectlite.Value).Type", "(internal/reflectlite.Value).IsNil", "internal/reflectlite.TypeOf", "(internal/reflectlite.Value).Elem", "(internal/reflectlite.Value).Set"], unfollowed := true, recurses := true, named := ["pyx/json.rest", "internal/bytealg.MaxLen", "unicode/utf8.first", "unicode/utf8.acceptRanges", "errors.errorType"], apart := false, laid := [("unicode/utf8.acceptRanges", laid_unicode_utf8_acceptRanges), ("errors.errorType", laid_errors_errorType), ("pyx/json.rest", laid_pyx_json_rest), ("unicode/utf8.first", laid_unicode_utf8_first)], narrowed := true }
def JsonSortsUptoSaid : Prop := jsonSortsUptoRow.holds Tryd.pinned (OpenSpec.upto jsonSortsSpec)

/-- 'pyxlaw11.JsonParts', WHERE WHAT IT READS IS OF BULK AT MOST 1048576: true; the input reads as it did. -/
def jsonPartsUptoRow : OpenClaim := { program := "ytclnoblcdaimiaadoor", sum := "d116f3ee49ca8fff7766447e188d0581c2c978f44d6940bcbb75e2f7b099084b", func := "pyx/pyxlaw11.JsonParts", spec := "jsonParts", inPlace := ["internal/bytealg.IndexByteString", "internal/bytealg.IndexString", "internal/bytealg.CountString", "internal/reflectlite.ValueOf", "(internal/reflectlite.Value).Type", "(internal/reflectlite.Value).IsNil", "internal/reflectlite.TypeOf", "(internal/reflectlite.Value).Elem", "(internal/reflectlite.Value).Set"], unfollowed := true, recurses := true, named := ["pyx/json.rest", "internal/bytealg.MaxLen", "unicode/utf8.first", "unicode/utf8.acceptRanges", "errors.errorType"], apart := false, laid := [("unicode/utf8.acceptRanges", laid_unicode_utf8_acceptRanges), ("errors.errorType", laid_errors_errorType), ("pyx/json.rest", laid_pyx_json_rest), ("unicode/utf8.first", laid_unicode_utf8_first)], narrowed := true }
def JsonPartsUptoSaid : Prop := jsonPartsUptoRow.holds Tryd.pinned (OpenSpec.upto jsonPartsSpec)

end Rows
end Go.Proofs.YtclnoblcdaimiaaDoor
