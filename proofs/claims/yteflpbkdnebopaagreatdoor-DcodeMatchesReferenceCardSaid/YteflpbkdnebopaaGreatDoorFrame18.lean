/- What the rows of this seat share: the knob of the program, its layout, and how a slice of bytes or numbers that came in is read. -/
import Derived.Test.YteflpbkdnebopaaGreatDoorSg18
import Derived.Test.YteflpbkdnebopaaGreatDoorShelf
import Derived.Test.YteflpbkdnebopaaGreatDoorCards
import Derived.Test.YteflpbkdnebopaaGreatDoorTie
import Derived.Deep.DeepHandedRow
import Derived.Deep.DeepWitnessRowRef
import Derived.SizedLaws
import Derived.Lib.LaidIn
import Derived.Lib.LaidTab
import Derived.Stop.LaidErr
import Derived.Lay
import Derived.LaidHandle
import Derived.LaidSub
import Derived.Deep.Matrix
import Derived.ProofKit
import Derived.OpenShut
import Derived.ShutString
import Derived.ChangeMaps5
import Derived.ChangeOld
import Derived.Below
namespace Go.Proofs.YteflpbkdnebopaaGreatDoor
open Go.RowKit Go.ChangeShapes Go.WideShapes Go.ChangeAt

theorem own : ownKnob Tryz.prog.godebug = none := by kernel_rfl
theorem laidOut : laidOutB Tryz.prog = true := by kernel_rfl

/-- What the rows list. -/
abbrev L15 : List (String × DataW Unit) := [("math/bits.deBruijn32tab", Rows.laid_math_bits_deBruijn32tab), ("math/bits.deBruijn64tab", Rows.laid_math_bits_deBruijn64tab), ("internal/strconv.uint64pow10", Rows.laid_internal_strconv_uint64pow10), ("unicode/utf8.acceptRanges", Rows.laid_unicode_utf8_acceptRanges), ("errors.errorType", Rows.laid_errors_errorType), ("strconv.ErrRange", Rows.laid_strconv_ErrRange), ("strconv.ErrSyntax", Rows.laid_strconv_ErrSyntax), ("pyx/params.sizesKEM", Rows.laid_pyx_params_sizesKEM), ("pyx/params.sizesDSA", Rows.laid_pyx_params_sizesDSA), ("pyx/params.sizesSLH", Rows.laid_pyx_params_sizesSLH), ("pyx/params.sizesXMSS", Rows.laid_pyx_params_sizesXMSS), ("unicode/utf8.first", Rows.laid_unicode_utf8_first)]
abbrev T15 : List (String × DataW Unit) := [("math/bits.deBruijn32tab", Rows.laid_math_bits_deBruijn32tab), ("math/bits.deBruijn64tab", Rows.laid_math_bits_deBruijn64tab), ("internal/strconv.uint64pow10", Rows.laid_internal_strconv_uint64pow10), ("unicode/utf8.acceptRanges", Rows.laid_unicode_utf8_acceptRanges), ("strconv.ErrRange", Rows.laid_strconv_ErrRange), ("strconv.ErrSyntax", Rows.laid_strconv_ErrSyntax), ("pyx/params.sizesKEM", Rows.laid_pyx_params_sizesKEM), ("pyx/params.sizesDSA", Rows.laid_pyx_params_sizesDSA), ("pyx/params.sizesSLH", Rows.laid_pyx_params_sizesSLH), ("pyx/params.sizesXMSS", Rows.laid_pyx_params_sizesXMSS), ("unicode/utf8.first", Rows.laid_unicode_utf8_first)]
theorem gErr : Tryz.prog.globalNamed "errors.errorType" = some 0 := by kernel_rfl
theorem rtRow : (Tryz.prog.cutTypes.find? (·.1 == "internal/reflectlite.rtype")).map (·.2) = some 146 := by kernel_rfl
theorem oneErr : ((List.range Tryz.prog.types.size).filter fun t => Tryz.prog.rowNamed t [101, 114, 114, 111, 114]) = [34] := by kernel_rfl
theorem hdlErr : typeHandle Tryz.prog 34 = hdl 34 := by kernel_rfl
theorem glob_of_laid {W : World} (h : handlesMet Tryz.prog [("errors.errorType", Rows.laid_errors_errorType)] W) : GlobE W := by
  obtain ⟨name, u, ty, e1, e2, e3, e4, e5⟩ := h _ (List.mem_singleton.2 rfl)
  have en : name = [101, 114, 114, 111, 114] := (Option.some.inj e1).symm
  subst en
  obtain rfl := Option.some.inj (rtRow.symm.trans e2)
  have hm : ty ∈ (List.range Tryz.prog.types.size).filter fun t => Tryz.prog.rowNamed t [101, 114, 114, 111, 114] := List.mem_filter.2 ⟨List.mem_range.2 e3, e4⟩
  rw [oneErr] at hm
  obtain rfl := List.mem_singleton.1 hm
  rw [hdlErr] at e5
  exact World.var?_cell gErr e5 0

theorem flt1 : (L15.filter fun x => x.2.handleName?.isNone) = T15 := by kernel_rfl
theorem flt2 : (L15.filter fun x => x.2.handleName?.isSome) = [("errors.errorType", Rows.laid_errors_errorType)] := by kernel_rfl
theorem starS : "*" ++ "errors.errorString" = "*errors.errorString" := by decide
theorem rowS (u : TypeId) (h : Tryz.prog.typeName? 3 u = some "*errors.errorString") : u = 206 :=
  typeName_ptr_named (nm := "errors.errorString") (by rw [starS]; kernel_rfl) (by kernel_rfl) (by decide) u (by rw [starS]; exact h)
theorem tab_data : (Rows.laid_internal_strconv_uint64pow10 : DataW Unit) = Lib.tabData .u64 Lib.pow10Tab := rfl
/-- One row of a table of sizes, as it is listed and as it lies. -/
def szD {H : Type} (x : List UInt8 × Int × Int × Int × Int) : DataW H := .agg [.lit (.string x.1), .lit (.int .i64 x.2.1), .lit (.int .i64 x.2.2.1), .lit (.int .i64 x.2.2.2.1), .lit (.int .i64 x.2.2.2.2)]
def szV (x : List UInt8 × Int × Int × Int × Int) : List Value := [.string ⟨x.1.toArray⟩, .int .i64 x.2.1, .int .i64 x.2.2.1, .int .i64 x.2.2.2.1, .int .i64 x.2.2.2.2]
theorem sz_of_trod {H : Type} {enc : TypeId × Value → H} {P : Program} {w : World} {base : Nat} {sp : Nat → Bool} {held : Bool} {t tS tI : TypeId} {fs : Array Field} (ht : P.underlying t = some (.struct fs))
    (hfs : fs.toList.map (fun f => (f.type, f.offset)) = [(tS, 0), (tI, 1), (tI, 2), (tI, 3), (tI, 4)]) (hS : P.underlying tS = some .string) (hI : P.underlying tI = some (.int .i64)) (cS : P.cellsOf tS = 1) (cI : P.cellsOf tI = 1) (ct : P.cellsOf t = 5)
    {fuel : Nat} {cs : List Value} {x : List UInt8 × Int × Int × Int × Int} {p : List MemPlace} (h : DataW.trod enc P w base sp held fuel t cs = some (szD x, p)) : cs = szV x := by
  cases fuel with
  | zero => simp [DataW.trod] at h
  | succ fuel =>
    simp only [DataW.trod, ht, ct] at h
    split at h
    · rename_i hl
      obtain ⟨xs, hm, hx⟩ := Option.map_eq_some_iff.1 h
      have hxs : xs.map (·.1) = [.lit (.string x.1), .lit (.int .i64 x.2.1), .lit (.int .i64 x.2.2.1), .lit (.int .i64 x.2.2.2.1), .lit (.int .i64 x.2.2.2.2)] := by
        have := congrArg Prod.fst hx
        simpa [szD] using this
      have fld : ∀ (i : Nat) (q : TypeId × Nat), [(tS, 0), (tI, 1), (tI, 2), (tI, 3), (tI, 4)][i]? = some q → ∃ f : Field, fs.toList[i]? = some f ∧ f.type = q.1 ∧ f.offset = q.2 := by
        intro i q hq
        rw [← hfs, List.getElem?_map] at hq
        obtain ⟨f, hf, he⟩ := Option.map_eq_some_iff.1 hq
        exact ⟨f, hf, by rw [← he], by rw [← he]⟩
      have one : ∀ (i : Nat) (v : Value), (cs.drop i).take 1 = [v] → cs[i]? = some v := by
        intro i v hv
        have := congrArg (·[0]?) hv
        simpa [List.getElem?_take, List.getElem?_drop] using this
      have iat : ∀ (i : Nat) (z : Int), [(tS, 0), (tI, 1), (tI, 2), (tI, 3), (tI, 4)][i]? = some (tI, i) → (xs.map (·.1))[i]? = some (DataW.lit (.int .i64 z) : DataW H) → cs[i]? = some (.int .i64 z) := by
        intro i z hq hz
        obtain ⟨f, hf, h1, h2⟩ := fld i _ hq
        obtain ⟨b, hb, hd⟩ := Lib.mapM_at hm i f hf
        rw [h1, h2, cI] at hd
        obtain ⟨z', hc, rfl, _⟩ := DataW.trod_int hI hd
        have h3 := one i _ hc
        rw [List.getElem?_map, hb] at hz
        simp only [Option.map_some, Option.some.injEq, DataW.lit.injEq, Lit.int.injEq, true_and] at hz
        rw [h3, hz]
      have h0 : cs[0]? = some (.string ⟨x.1.toArray⟩) := by
        obtain ⟨f, hf, h1, h2⟩ := fld 0 _ rfl
        obtain ⟨b, hb, hd⟩ := Lib.mapM_at hm 0 f hf
        rw [h1, h2, cS] at hd
        obtain ⟨z', hc, rfl, _⟩ := DataW.trod_string hS hd
        have h3 := one 0 _ hc
        have hz : (xs.map (·.1))[0]? = some (DataW.lit (.string x.1) : DataW H) := by rw [hxs]; rfl
        rw [List.getElem?_map, hb] at hz
        simp only [Option.map_some, Option.some.injEq, DataW.lit.injEq, Lit.string.injEq] at hz
        rw [h3, ← hz]
      have h1 := iat 1 x.2.1 rfl (by rw [hxs]; rfl)
      have h2 := iat 2 x.2.2.1 rfl (by rw [hxs]; rfl)
      have h3 := iat 3 x.2.2.2.1 rfl (by rw [hxs]; rfl)
      have h4 := iat 4 x.2.2.2.2 rfl (by rw [hxs]; rfl)
      apply List.ext_getElem?
      intro i
      rcases i with _ | _ | _ | _ | _ | i
      · rw [h0]; rfl
      · rw [h1]; rfl
      · rw [h2]; rfl
      · rw [h3]; rfl
      · rw [h4]; rfl
      · rw [List.getElem?_eq_none (by omega), List.getElem?_eq_none (by simp [szV])]
    · cases h
theorem flat5 : ∀ (l : List (List UInt8 × Int × Int × Int × Int)) (i : Nat) x, l[i]? = some x → ∀ j, j < 5 → (l.flatMap szV)[i * 5 + j]? = (szV x)[j]?
  | [], i, x, h, _, _ => by simp at h
  | y :: t, 0, x, h, j, hj => by
    simp at h
    subst h
    rw [List.flatMap_cons, List.getElem?_append_left (by simp [szV]; omega)]
    simp
  | y :: t, i + 1, x, h, j, hj => by
    simp at h
    rw [List.flatMap_cons, List.getElem?_append_right (by simp [szV]; omega)]
    have : (i + 1) * 5 + j - (szV y).length = i * 5 + j := by simp [szV]; omega
    rw [this]
    exact flat5 t i x h j hj
theorem flat5_len : ∀ (l : List (List UInt8 × Int × Int × Int × Int)), (l.flatMap szV).length = l.length * 5
  | [] => rfl
  | y :: t => by
    rw [List.flatMap_cons, List.length_append, flat5_len t, List.length_cons]
    simp [szV]
    omega
theorem laid_sizes {P : Program} {W : World} {name : String} {rows : List (List UInt8 × Int × Int × Int × Int)} {rest : List (String × DataW Unit)} {g n : Nat} {t e tS tI : TypeId} {fs : Array Field}
    (hg : P.globalNamed name = some g) (hty : (P.globals[g]?).map (·.type) = some t) (ht : P.underlying t = some (.array n e)) (hct : P.cellsOf t = n * 5) (hn : rows.length = n) (hs : P.underlying e = some (.struct fs))
    (hfs : fs.toList.map (fun f => (f.type, f.offset)) = [(tS, 0), (tI, 1), (tI, 2), (tI, 3), (tI, 4)]) (hS : P.underlying tS = some .string) (hI : P.underlying tI = some (.int .i64)) (cS : P.cellsOf tS = 1) (cI : P.cellsOf tI = 1) (ce : P.cellsOf e = 5)
    (h : laidMet P ((name, .agg (rows.map szD)) :: rest) W) : W.var? P name = some (rows.flatMap szV).toArray := by
  obtain ⟨ps, ⟨g', t', cs, fuel, p, q, hg', ht', hvar, hd, _, _⟩, _⟩ := h
  obtain rfl := Option.some.inj (hg.symm.trans hg')
  obtain rfl := Option.some.inj (hty.symm.trans ht')
  rw [hvar]
  congr 1
  suffices hcs : cs.toList = rows.flatMap szV by rw [← hcs]
  obtain ⟨cl, hcl⟩ : ∃ cl, cs.toList = cl := ⟨_, rfl⟩
  rw [hcl] at hd ⊢
  cases fuel with
  | zero => simp [DataW.trod] at hd
  | succ fuel =>
    simp only [DataW.trod, ht, hct, ce] at hd
    split at hd
    · rename_i hl
      obtain ⟨xs, hm, hx⟩ := Option.map_eq_some_iff.1 hd
      have hxs : xs.map (·.1) = rows.map szD := by
        have := congrArg Prod.fst hx
        simpa using this
      apply List.ext_getElem?
      intro k
      by_cases hk : k < n * 5
      · have hi : k / 5 < n := by omega
        obtain ⟨b, hb, hf⟩ := Lib.mapM_at hm (k / 5) (k / 5) (by simp [hi])
        obtain ⟨x, hxr⟩ : ∃ x, rows[k / 5]? = some x := ⟨rows[k / 5]'(by omega), List.getElem?_eq_getElem (by omega)⟩
        have hb1 : b.1 = szD x := by
          have h2 : (xs.map (·.1))[k / 5]? = some (szD x : DataW Unit) := by rw [hxs, List.getElem?_map, hxr]; rfl
          rw [List.getElem?_map, hb] at h2
          simpa using h2
        obtain ⟨b1, b2⟩ := b
        simp only at hb1
        subst hb1
        have hc := sz_of_trod hs hfs hS hI cS cI ce hf
        have h3 := congrArg (·[k % 5]?) hc
        simp only [List.getElem?_take, List.getElem?_drop] at h3
        rw [if_pos (by omega), show k / 5 * 5 + k % 5 = k by omega] at h3
        rw [h3, ← flat5 rows (k / 5) x hxr (k % 5) (by omega), show k / 5 * 5 + k % 5 = k by omega]
      · rw [List.getElem?_eq_none (by omega), List.getElem?_eq_none (by rw [flat5_len]; omega)]
    · cases hd
def listKEM : List (List UInt8 × Int × Int × Int × Int) := [([53, 49, 50], 800, 1632, 64, 0), ([55, 54, 56], 1184, 2400, 64, 0), ([49, 48, 50, 52], 1568, 3168, 64, 0)]
def listDSA : List (List UInt8 × Int × Int × Int × Int) := [([52, 52], 1312, 2560, 32, 2420), ([54, 53], 1952, 4032, 32, 3309), ([56, 55], 2592, 4896, 32, 4627)]
def listSLH : List (List UInt8 × Int × Int × Int × Int) := [([49, 50, 56, 115], 32, 64, 0, 7856), ([49, 50, 56, 102], 32, 64, 0, 17088), ([49, 57, 50, 115], 48, 96, 0, 16224), ([49, 57, 50, 102], 48, 96, 0, 35664), ([50, 53, 54, 115], 64, 128, 0, 29792), ([50, 53, 54, 102], 64, 128, 0, 49856)]
def listXMSS : List (List UInt8 × Int × Int × Int × Int) := [([49, 48, 95, 50, 53, 54], 68, 0, 0, 2500), ([49, 54, 95, 50, 53, 54], 68, 0, 0, 2692), ([50, 48, 95, 50, 53, 54], 68, 0, 0, 2820), ([49, 48, 95, 53, 49, 50], 132, 0, 0, 9092), ([49, 54, 95, 53, 49, 50], 132, 0, 0, 9476), ([50, 48, 95, 53, 49, 50], 132, 0, 0, 9732)]
theorem dataKEM : (Rows.laid_pyx_params_sizesKEM : DataW Unit) = .agg (listKEM.map szD) := rfl
theorem dataDSA : (Rows.laid_pyx_params_sizesDSA : DataW Unit) = .agg (listDSA.map szD) := rfl
theorem dataSLH : (Rows.laid_pyx_params_sizesSLH : DataW Unit) = .agg (listSLH.map szD) := rfl
theorem dataXMSS : (Rows.laid_pyx_params_sizesXMSS : DataW Unit) = .agg (listXMSS.map szD) := rfl
theorem glob_of_row {W : World} (h0 : laidMetH Tryz.prog L15 W) (hsh : W.ShapedOpen Tryz.prog) : Glob15 W := by
  obtain ⟨h, hh⟩ := laidMetH_iff.1 h0
  rw [flt1] at h
  rw [flt2] at hh
  refine ⟨?_, glob_of_laid hh⟩
  have h2 : laidMet Tryz.prog (("internal/strconv.uint64pow10", Lib.tabData .u64 Lib.pow10Tab) :: T15.drop 3) W := h.tail.tail
  have h4 := h.tail.tail.tail.tail
  have h5 := h4.tail
  have h6 := h5.tail
  have h7 := h6.tail
  have h8 := h7.tail
  have h9 := h8.tail
  refine ⟨?_, (laid_sizes (rows := listKEM) (g := 4) (t := 163) (e := 159) (tS := 9) (tI := 3) (by kernel_rfl) (by kernel_rfl) Tryz.underlying163 (by kernel_rfl) (by kernel_rfl) Tryz.underlying159 (by kernel_rfl) Tryz.underlying9 Tryz.underlying3 (by kernel_rfl) (by kernel_rfl) (by kernel_rfl) h6).trans (congrArg some (by kernel_rfl)), (laid_sizes (rows := listDSA) (g := 3) (t := 163) (e := 159) (tS := 9) (tI := 3) (by kernel_rfl) (by kernel_rfl) Tryz.underlying163 (by kernel_rfl) (by kernel_rfl) Tryz.underlying159 (by kernel_rfl) Tryz.underlying9 Tryz.underlying3 (by kernel_rfl) (by kernel_rfl) (by kernel_rfl) h7).trans (congrArg some (by kernel_rfl)), (laid_sizes (rows := listSLH) (g := 2) (t := 160) (e := 159) (tS := 9) (tI := 3) (by kernel_rfl) (by kernel_rfl) Tryz.underlying160 (by kernel_rfl) (by kernel_rfl) Tryz.underlying159 (by kernel_rfl) Tryz.underlying9 Tryz.underlying3 (by kernel_rfl) (by kernel_rfl) (by kernel_rfl) h8).trans (congrArg some (by kernel_rfl)), (laid_sizes (rows := listXMSS) (g := 1) (t := 160) (e := 159) (tS := 9) (tI := 3) (by kernel_rfl) (by kernel_rfl) Tryz.underlying160 (by kernel_rfl) (by kernel_rfl) Tryz.underlying159 (by kernel_rfl) Tryz.underlying9 Tryz.underlying3 (by kernel_rfl) (by kernel_rfl) (by kernel_rfl) h9).trans (congrArg some (by kernel_rfl))⟩
  refine ⟨Lib.tabIs_of_head (g := 8) (t := 210) (e := 66) (n := 20) (by kernel_rfl) (by kernel_rfl) (by kernel_rfl) (by kernel_rfl) (by kernel_rfl) (by kernel_rfl) h2, ?_, ?_, Tryz.laysM147.s1_3 W hsh⟩
  · obtain ⟨a, s, hv, _⟩ := laid_sentinel (g := 5) (ti := 34) (tp := 206) (te := 208) (ts := 9) h5 (by kernel_rfl) (by kernel_rfl) Tryz.underlying34 rowS Tryz.underlying206 Tryz.underlying208 rfl rfl Tryz.underlying9 (by kernel_rfl) (by kernel_rfl)
    exact ⟨_, _, hv⟩
  · obtain ⟨a, s, hv, _⟩ := laid_sentinel (g := 6) (ti := 34) (tp := 206) (te := 208) (ts := 9) h4 (by kernel_rfl) (by kernel_rfl) Tryz.underlying34 rowS Tryz.underlying206 Tryz.underlying208 rfl rfl Tryz.underlying9 (by kernel_rfl) (by kernel_rfl)
    exact ⟨_, _, hv⟩

/-- A world that meets the rows' condition. -/
noncomputable def holdErr (os : Os) : World :=
  let w0 := World.holding Tryz.prog os ⟨#[], #[], []⟩
  { w0 with heap := w0.heap.modify 0 fun
    | .cells _ t frozen => .cells #[.iface 146 (.agg #[typeHandle Tryz.prog 34])] t frozen
    | o => o }
noncomputable def laidWorld (os : Os) : World := (holdErr os).layVars Tryz.prog T15
theorem laid_world (os : Os) (args : Array Value) : laidMetH Tryz.prog L15 ((laidWorld os).forCall (fun _ _ => 0) ⟨#[], args, []⟩).memory := by
  have e1 : (T15.filter fun x => (T15.map (·.1)).contains x.1) = T15 := List.filter_eq_self.2 fun x hx => List.contains_iff_mem.2 (List.mem_map.2 ⟨x, hx, rfl⟩)
  have e2 : (T15.filter fun x => !(T15.map (·.1)).contains x.1) = [] := List.filter_eq_nil_iff.2 fun x hx => by rw [List.contains_iff_mem.2 (List.mem_map.2 ⟨x, hx, rfl⟩)]; simp
  have h : laidMet Tryz.prog T15 (laidWorld os) := laidMet_layVars (w0 := holdErr os) (T15.map (·.1)) [] (by rw [e1]; rfl) (by rw [e1]; kernel_rfl) (by rw [e1]; kernel_rfl) (by rw [e2]; exact LaidIn.none)
  refine laidMetH_of_parts ?_ (by rw [flt2]; kernel_rfl)
  rw [flt1]
  exact h.of_heap (by simp [World.memory, World.forCall, Input.heap])

/-- A slice of integers that came in: nil, or a row of cap cells with the numbers zs, of which the first len are its elements. -/
def IsRow (k : IntKind) (w : World) (a : Option Addr) (len cap : Nat) (zs : List Int) : Prop :=
  (a = none ∧ len = 0 ∧ cap = 0 ∧ zs = []) ∨
  ∃ x, a = some x ∧ len ≤ cap ∧ cap ≤ maxLen ∧ zs.length = cap ∧ (∀ i, i < zs.length → w.cell? (x.add i) = some (.int k (zs.getD i 0))) ∧ ∀ n ∈ zs, (Lit.int k n).wf = true

theorem Sl.of_row {w : World} {a : Option Addr} {len cap : Nat} {zs : List Int} (h : IsRow .u8 w a len cap zs) : Sl w a len cap (zs.take len) := by
  rcases h with ⟨rfl, rfl, rfl, rfl⟩ | ⟨x, rfl, hl, hm, hz, hc, hw⟩
  · exact Sl.nil w
  · refine ⟨by simp; omega, hl, hm, fun hn => ?_, fun y hy => ?_, fun e => by cases e⟩
    · obtain ⟨b, o, s⟩ := x
      obtain rfl : s = none := by simpa [Addr.add] using World.cell?_spot (hc 0 (by omega))
      refine ⟨b, o, rfl, fun i hi => ?_⟩
      have h := hc i (by omega)
      rw [add_none] at h
      rw [h]
      simp [List.getD, hi]
    · have h := bounds_u8 (hw y (List.mem_of_mem_take hy))
      omega

theorem row_of {H : Type} {enc : TypeId × Value → H} {W : World} {a0 : Option Addr} {len0 cap0 : Nat} {d0 : DataW H} {p0 : List MemPlace}
    (h0 : DataW.Trod enc Tryz.prog W 0 (fun _ => true) true 25 (.slice a0 len0 cap0) d0 p0) : ∃ zs, IsRow .u8 W a0 len0 cap0 zs := by
  obtain ⟨fuel, hf⟩ := h0
  rcases open_ints Tryz.underlying25 Tryz.underlying5 (by kernel_rfl) hf with ⟨hcs, _⟩ | ⟨x, l, c, zs, hcs, _, hl, hm, hz, _, hcell, hwz⟩
  · simp [Value.cells] at hcs
    obtain ⟨rfl, rfl, rfl⟩ := hcs
    exact ⟨[], .inl ⟨rfl, rfl, rfl, rfl⟩⟩
  · simp [Value.cells] at hcs
    obtain ⟨rfl, rfl, rfl⟩ := hcs
    exact ⟨zs, .inr ⟨_, rfl, hl, hm, by simpa using hz, hcell, hwz⟩⟩

end Go.Proofs.YteflpbkdnebopaaGreatDoor
