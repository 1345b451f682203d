/- What the row says of the variables that the law reads: two are listed, of the third one only its type is known. -/
import Derived.Test.YtjaklopkammmdaaDoorOpen
namespace Go.Proofs.YtjaklopkammmdaaDoor
open Go.RowKit Go.ChangeShapes Go.WideShapes Go.Deep

theorem zero20 : ((begin Tryd.prog (fun _ _ => 0) default).world.heap[2]?).bind Obj.row? = some (Array.replicate 20 (.int .u64 0), 120) := by kernel_rfl
theorem build20 : Tryd.prog.buildable 120 = true := by kernel_rfl
theorem types20 : Tryd.prog.cellTypes Tryd.prog.depth 120 = some (List.replicate 20 112) := by kernel_rfl

theorem cell_u64 {P : Program} {w : World} {r : Reach} {b : Nat} {u : TypeId} {v : Value} (hu : P.underlying u = some (.int .u64)) (h : Cell.ok P w r b u v) : ∃ z : Int, v = .int .u64 z ∧ 0 ≤ z ∧ z ≤ 18446744073709551615 := by
  unfold Cell.ok at h
  rw [hu] at h
  cases v <;> simp at h
  case int k n =>
    obtain ⟨rfl, h0, h1⟩ := h
    simp [IntKind.min, IntKind.max, IntKind.signed, IntKind.bits] at h0 h1
    exact ⟨n, rfl, by omega, by omega⟩

set_option maxRecDepth 100000 in
theorem tab_of_shape {w : World} (h : w.ShapedOpen Tryd.prog) : ∃ T, Tab T w := by
  obtain ⟨cs, hh, hs, hr⟩ := h.1 2 _ _ (of_decide_eq_true (by kernel_rfl)) zero20
  obtain ⟨ts, hts, _, hall⟩ := hr build20
  rw [types20] at hts
  cases hts
  have hs' : cs.size = 20 := by simpa using hs
  have each : ∀ i, i < 20 → ∃ z : Int, w.cell? ⟨2, i, none⟩ = some (.int .u64 z) ∧ 0 ≤ z ∧ z ≤ 18446744073709551615 := by
    intro i hi
    have hi' : i < cs.size := by omega
    have hcell : w.cell? ⟨2, i, none⟩ = some cs[i] := by
      rw [cell_of_row w _ i cs _ _ hh]
      exact Array.getElem?_eq_getElem hi'
    obtain ⟨u, hu', hok⟩ := hall i cs[i] (Array.getElem?_eq_getElem hi')
    have hm : i % (List.replicate 20 112).length = i := by
      rw [List.length_replicate]
      omega
    rw [hm, List.getElem?_replicate, if_pos hi] at hu'
    have : u = 112 := (Option.some.inj hu').symm
    subst this
    obtain ⟨z, hz, h0, h1⟩ := cell_u64 Tryd.underlying112 hok
    exact ⟨z, by rw [hcell, hz], h0, h1⟩
  obtain ⟨q, hq⟩ := choose_lt each
  exact ⟨q, hq⟩

theorem gErr : Tryd.prog.globalNamed "errors.errorType" = some 0 := by kernel_rfl
theorem gNames : Tryd.prog.globalNamed "pyx/fault.names" = some 1 := by kernel_rfl
theorem tNames : (Tryd.prog.globals[1]?).map (·.type) = some 79 := by kernel_rfl
theorem rtRow : (Tryd.prog.cutTypes.find? (·.1 == "internal/reflectlite.rtype")).map (·.2) = some 81 := by kernel_rfl
theorem oneErr : ((List.range Tryd.prog.types.size).filter fun t => Tryd.prog.rowNamed t [101, 114, 114, 111, 114]) = [28] := by kernel_rfl
theorem hdlErr : typeHandle Tryd.prog 28 = hdl 28 := by kernel_rfl

theorem glob_of_laid {W : World} (h : handlesMet Tryd.prog [("errors.errorType", Rows.laid_errors_errorType)] W) : Glob W := by
  obtain ⟨name, u, ty, e1, e2, e3, e4, e5⟩ := h _ (List.mem_singleton.2 rfl)
  have en : name = [101, 114, 114, 111, 114] := (Option.some.inj e1).symm
  subst en
  obtain rfl := Option.some.inj (rtRow.symm.trans e2)
  have hm : ty ∈ (List.range Tryd.prog.types.size).filter fun t => Tryd.prog.rowNamed t [101, 114, 114, 111, 114] := List.mem_filter.2 ⟨List.mem_range.2 e3, e4⟩
  rw [oneErr] at hm
  obtain rfl := List.mem_singleton.1 hm
  rw [hdlErr] at e5
  exact World.var?_cell gErr e5 0

/-- An array of strings that reads as a list of texts holds them. -/
theorem strs_of_array {H : Type} {enc : TypeId × Value → H} {P : Program} {w : World} {base : Nat} {sp : Nat → Bool} {hd : Bool} {fuel : Nat} {t e : TypeId} {n : Nat} {cs : List Value} {ls : List (List UInt8)} {p : List MemPlace}
    (ht : P.underlying t = some (.array n e)) (he : P.underlying e = some .string) (hce : P.cellsOf e = 1) (hct : P.cellsOf t = n)
    (h : DataW.trod enc P w base sp hd fuel t cs = some (.agg (ls.map fun l => .lit (.string l)), p)) (i : Nat) (hi : i < n) : ∃ l, ls[i]? = some l ∧ cs[i]? = some (.string ⟨l.toArray⟩) := by
  obtain ⟨xs, m, _, hx, hl, hxl, hg⟩ := DataW.trod_array ht h
  rw [hct] at hl
  have g := hg i hi
  rw [hce, Nat.mul_one] at g
  have hc : (cs.drop i).take 1 = [cs[i]'(by omega)] := by
    rw [List.drop_eq_getElem_cons (by omega)]
    rfl
  rw [hc, List.getElem?_eq_getElem (by omega)] at g
  obtain ⟨s, e0, e1, _⟩ := DataW.trod_string he g
  have h1 := congrArg Prod.fst hx
  simp only [DataW.agg.injEq] at h1
  have h2 := congrArg (·[i]?) h1
  simp only [List.getElem?_map, List.getElem?_eq_getElem (show i < xs.length by omega), Option.map_some] at h2
  cases hls : ls[i]? with
  | none => rw [hls] at h2; simp at h2
  | some l =>
    rw [hls] at h2
    simp only [Option.map_some, Option.some.injEq] at h2
    rw [e1] at h2
    simp only [DataW.lit.injEq, Lit.string.injEq] at h2
    refine ⟨l, rfl, ?_⟩
    rw [List.getElem?_eq_getElem (by omega)]
    have : cs[i]'(by omega) = .string s := by simpa using e0
    rw [this, h2]

theorem names_of_laid {W : World} (h : laidMet Tryd.prog [("pyx/fault.names", Rows.laid_pyx_fault_names)] W) : Names W := by
  obtain ⟨ps, ⟨g', t', cs, fuel, p, q, hg', ht', hvar, hd, _, _⟩, _⟩ := h
  obtain rfl := Option.some.inj (gNames.symm.trans hg')
  obtain rfl := Option.some.inj (tNames.symm.trans ht')
  obtain ⟨l, hl, hc⟩ := strs_of_array (ls := [[], [116, 111, 111, 32, 108, 111, 110, 103], [116, 111, 111, 32, 100, 101, 101, 112], [116, 114, 117, 110, 99, 97, 116, 101, 100], [116, 114, 97, 105, 108, 105, 110, 103], [115, 121, 110, 116, 97, 120], [108, 101, 110, 103, 116, 104], [111, 114, 100, 101, 114], [117, 110, 107, 110, 111, 119, 110], [114, 97, 110, 103, 101], [104, 105, 110, 116], [105, 110, 99, 111, 110, 115, 105, 115, 116, 101, 110, 116], [98, 97, 100, 32, 111, 98, 106, 101, 99, 116], [98, 117, 100, 103, 101, 116]]) Tryd.underlying79 Tryd.underlying9 kStr (by kernel_rfl) hd 6 (by omega)
  simp at hl
  subst hl
  unfold Names
  rw [World.var?_cell gNames hvar 6]
  simpa using hc

theorem vars_of_row {W : World} (h : laidMetH Tryd.prog Rows.faultWrapsRow.laid W) (hs : W.ShapedOpen Tryd.prog) : ∃ T, Vars T W := by
  have h' : laidMet Tryd.prog [("pyx/fault.names", Rows.laid_pyx_fault_names)] W ∧ handlesMet Tryd.prog [("errors.errorType", Rows.laid_errors_errorType)] W := h
  obtain ⟨T, hT⟩ := tab_of_shape hs
  exact ⟨T, glob_of_laid h'.2, hT, names_of_laid h'.1⟩

end Go.Proofs.YtjaklopkammmdaaDoor
