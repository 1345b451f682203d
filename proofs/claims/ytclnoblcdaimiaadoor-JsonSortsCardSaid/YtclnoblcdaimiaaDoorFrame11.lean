/- What the cards of this seat share: the knob of the program, its layout, the variables as the rows list them, and how slices of bytes and of pairs that came in are read. -/
import Derived.Test.YtclnoblcdaimiaaDoorAwake11
import Derived.Test.YtclnoblcdaimiaaDoorShelf
import Derived.Test.YtclnoblcdaimiaaDoorCards
import Derived.Test.YtclnoblcdaimiaaDoorTie
import Derived.Deep.DeepHandedRow
import Derived.Deep.DeepWitnessRowRef
import Derived.ProofKit
import Derived.SizedLaws
import Derived.ShutString
import Derived.Lib.LaidIn
import Derived.Lib.LaidTab
import Derived.Lay
import Derived.LaidHandle
import Derived.LaidSub
import Derived.Stop.LaidErr
import Derived.OpenShut
import Derived.ChangeMaps5
import Derived.ChangeOld
import Derived.Below
import Derived.Deep.Matrix
namespace Go.Proofs.YtclnoblcdaimiaaDoor
open Go.RowKit Go.ChangeShapes Go.WideShapes Go.ChangeAt

theorem own : ownKnob Tryd.prog.godebug = none := by kernel_rfl
theorem laidOut : laidOutB Tryd.prog = true := by kernel_rfl

/-- What the rows list. -/
abbrev L11 : List (String × DataW Unit) := [("unicode/utf8.acceptRanges", Rows.laid_unicode_utf8_acceptRanges), ("errors.errorType", Rows.laid_errors_errorType), ("pyx/json.rest", Rows.laid_pyx_json_rest), ("unicode/utf8.first", Rows.laid_unicode_utf8_first)]
abbrev T11 : List (String × DataW Unit) := [("unicode/utf8.acceptRanges", Rows.laid_unicode_utf8_acceptRanges), ("pyx/json.rest", Rows.laid_pyx_json_rest), ("unicode/utf8.first", Rows.laid_unicode_utf8_first)]
theorem gErr : Tryd.prog.globalNamed "errors.errorType" = some 1 := by kernel_rfl
theorem rtRow : (Tryd.prog.cutTypes.find? (·.1 == "internal/reflectlite.rtype")).map (·.2) = some 121 := by kernel_rfl
theorem oneErr : ((List.range Tryd.prog.types.size).filter fun t => Tryd.prog.rowNamed t [101, 114, 114, 111, 114]) = [26] := by kernel_rfl
theorem hdlErr : typeHandle Tryd.prog 26 = hdl 26 := by kernel_rfl
theorem glob_of_laid {W : World} (h : handlesMet Tryd.prog [("errors.errorType", Rows.laid_errors_errorType)] W) : Glob W := by
  obtain ⟨name, u, ty, e1, e2, e3, e4, e5⟩ := h _ (List.mem_singleton.2 rfl)
  have en : name = [101, 114, 114, 111, 114] := (Option.some.inj e1).symm
  subst en
  obtain rfl := Option.some.inj (rtRow.symm.trans e2)
  have hm : ty ∈ (List.range Tryd.prog.types.size).filter fun t => Tryd.prog.rowNamed t [101, 114, 114, 111, 114] := List.mem_filter.2 ⟨List.mem_range.2 e3, e4⟩
  rw [oneErr] at hm
  obtain rfl := List.mem_singleton.1 hm
  rw [hdlErr] at e5
  exact World.var?_cell gErr e5 0

/-- The table of the least numbers of bytes. -/
abbrev tabRest : List Int := [2, 1, 7, 6, 5, 4, 3, 2, 1, 0]
theorem dataRest : (Rows.laid_pyx_json_rest : DataW Unit) = Lib.tabData .i64 tabRest := rfl
theorem flt1 : (L11.filter fun x => x.2.handleName?.isNone) = T11 := by kernel_rfl
theorem flt2 : (L11.filter fun x => x.2.handleName?.isSome) = [("errors.errorType", Rows.laid_errors_errorType)] := by kernel_rfl
theorem rest_tab : ∀ a : Fin 10, tabRest.getD a.1 0 = (restN a.1 : Int) := by decide
theorem glob_of_row {W : World} (h0 : laidMetH Tryd.prog L11 W) (hsh : W.ShapedOpen Tryd.prog) : Glob11 W := by
  obtain ⟨h1, h2⟩ := laidMetH_iff.1 h0
  rw [flt1] at h1
  rw [flt2] at h2
  have h3 : laidMet Tryd.prog (("pyx/json.rest", Lib.tabData .i64 tabRest) :: T11.drop 2) W := h1.tail
  have h4 : Lib.TabIs Tryd.prog W "pyx/json.rest" .i64 tabRest := Lib.tabIs_of_head (g := 0) (t := 75) (e := 3) (n := 10) (by kernel_rfl) (by kernel_rfl) (by kernel_rfl) (by kernel_rfl) (by kernel_rfl) (by kernel_rfl) h3
  have hg : Tryd.prog.globalNamed "pyx/json.rest" = some 0 := by kernel_rfl
  refine ⟨glob_of_laid h2, fun a ha => ?_, Tryd.laysM145.s1_3 W hsh⟩
  have := h4.cell hg a (by show a < 10; omega)
  rw [rest_tab ⟨a, by omega⟩] at this
  exact this

/-- A world that meets the rows' condition. -/
noncomputable def holdErr (os : Os) : World :=
  let w0 := World.holding Tryd.prog os ⟨#[], #[], []⟩
  { w0 with heap := w0.heap.modify 1 fun
    | .cells _ t frozen => .cells #[.iface 121 (.agg #[typeHandle Tryd.prog 26])] t frozen
    | o => o }
noncomputable def laidWorld (os : Os) : World := (holdErr os).layVars Tryd.prog T11
theorem laid_world (os : Os) (args : Array Value) : laidMetH Tryd.prog L11 ((laidWorld os).forCall (fun _ _ => 0) ⟨#[], args, []⟩).memory := by
  have e1 : (T11.filter fun x => (T11.map (·.1)).contains x.1) = T11 := List.filter_eq_self.2 fun x hx => List.contains_iff_mem.2 (List.mem_map.2 ⟨x, hx, rfl⟩)
  have e2 : (T11.filter fun x => !(T11.map (·.1)).contains x.1) = [] := List.filter_eq_nil_iff.2 fun x hx => by rw [List.contains_iff_mem.2 (List.mem_map.2 ⟨x, hx, rfl⟩)]; simp
  have h : laidMet Tryd.prog T11 (laidWorld os) := laidMet_layVars (w0 := holdErr os) (T11.map (·.1)) [] (by rw [e1]; rfl) (by rw [e1]; kernel_rfl) (by rw [e1]; kernel_rfl) (by rw [e2]; exact LaidIn.none)
  refine laidMetH_of_parts ?_ (by rw [flt2]; kernel_rfl)
  rw [flt1]
  exact h.of_heap (by simp [World.memory, World.forCall, Input.heap])

/-- A slice of integers that came in: nil, or a row of cap cells with the numbers zs, of which the first len are its elements. -/
def IsRow (k : IntKind) (w : World) (a : Option Addr) (len cap : Nat) (zs : List Int) : Prop :=
  (a = none ∧ len = 0 ∧ cap = 0 ∧ zs = []) ∨
  ∃ x, a = some x ∧ len ≤ cap ∧ cap ≤ maxLen ∧ zs.length = cap ∧ (∀ i, i < zs.length → w.cell? (x.add i) = some (.int k (zs.getD i 0))) ∧ ∀ n ∈ zs, (Lit.int k n).wf = true

theorem Sl.of_row {w : World} {a : Option Addr} {len cap : Nat} {zs : List Int} (h : IsRow .u8 w a len cap zs) : Sl w a len cap (zs.take len) := by
  rcases h with ⟨rfl, rfl, rfl, rfl⟩ | ⟨x, rfl, hl, hm, hz, hc, hw⟩
  · exact Sl.nil w
  · refine ⟨by simp; omega, hl, hm, fun hn => ?_, fun y hy => ?_, fun e => by cases e⟩
    · obtain ⟨b, o, s⟩ := x
      obtain rfl : s = none := by simpa [Addr.add] using World.cell?_spot (hc 0 (by omega))
      refine ⟨b, o, rfl, fun i hi => ?_⟩
      have h := hc i (by omega)
      rw [add_none] at h
      rw [h]
      simp [List.getD, hi]
    · have h := bounds_u8 (hw y (List.mem_of_mem_take hy))
      omega

theorem row_of {H : Type} {enc : TypeId × Value → H} {W : World} {a0 : Option Addr} {len0 cap0 : Nat} {d0 : DataW H} {p0 : List MemPlace}
    (h0 : DataW.Trod enc Tryd.prog W 0 (fun _ => true) true 22 (.slice a0 len0 cap0) d0 p0) : ∃ zs, IsRow .u8 W a0 len0 cap0 zs := by
  obtain ⟨fuel, hf⟩ := h0
  rcases open_ints Tryd.underlying22 Tryd.underlying5 (by kernel_rfl) hf with ⟨hcs, _⟩ | ⟨x, l, c, zs, hcs, _, hl, hm, hz, _, hcell, hwz⟩
  · simp [Value.cells] at hcs
    obtain ⟨rfl, rfl, rfl⟩ := hcs
    exact ⟨[], .inl ⟨rfl, rfl, rfl, rfl⟩⟩
  · simp [Value.cells] at hcs
    obtain ⟨rfl, rfl, rfl⟩ := hcs
    exact ⟨zs, .inr ⟨_, rfl, hl, hm, by simpa using hz, hcell, hwz⟩⟩

theorem k_pair : (Tryd.prog.info? 48).map (fun i => (i.size)) = some 2 := by kernel_rfl

end Go.Proofs.YtclnoblcdaimiaaDoor
