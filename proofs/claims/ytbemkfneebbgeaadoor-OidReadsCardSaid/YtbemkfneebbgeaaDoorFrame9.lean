/- What the rows of this seat share: the knob of the program, its layout, and how a slice of bytes or numbers that came in is read. -/
import Derived.Test.YtbemkfneebbgeaaDoorAwake9
import Derived.Test.YtbemkfneebbgeaaDoorShelf
import Derived.Test.YtbemkfneebbgeaaDoorCards
import Derived.Test.YtbemkfneebbgeaaDoorTie
import Derived.Deep.DeepHandedRow
import Derived.Deep.DeepWitnessRowRef
import Derived.SizedLaws
import Derived.Lib.LaidIn
import Derived.Lib.LaidTab
import Derived.Stop.LaidErr
import Derived.Lay
import Derived.LaidHandle
import Derived.Deep.Matrix
import Derived.ProofKit
import Derived.OpenShut
import Derived.ShutString
import Derived.ChangeMaps5
import Derived.ChangeOld
import Derived.Below
namespace Go.Proofs.YtbemkfneebbgeaaDoor
open Go.RowKit Go.ChangeShapes Go.WideShapes Go.ChangeAt

theorem own : ownKnob Tryd.prog.godebug = none := by kernel_rfl
theorem laidOut : laidOutB Tryd.prog = true := by kernel_rfl

/-- What the rows list. -/
abbrev L9 : List (String × DataW Unit) := [("math/bits.deBruijn32tab", Rows.laid_math_bits_deBruijn32tab), ("math/bits.deBruijn64tab", Rows.laid_math_bits_deBruijn64tab), ("internal/strconv.uint64pow10", Rows.laid_internal_strconv_uint64pow10), ("unicode/utf8.acceptRanges", Rows.laid_unicode_utf8_acceptRanges), ("strconv.ErrRange", Rows.laid_strconv_ErrRange), ("strconv.ErrSyntax", Rows.laid_strconv_ErrSyntax), ("unicode/utf8.first", Rows.laid_unicode_utf8_first)]
theorem starS : "*" ++ "errors.errorString" = "*errors.errorString" := by decide
theorem rowS (u : TypeId) (h : Tryd.prog.typeName? 3 u = some "*errors.errorString") : u = 90 :=
  typeName_ptr_named (nm := "errors.errorString") (by rw [starS]; kernel_rfl) (by kernel_rfl) (by decide) u (by rw [starS]; exact h)
theorem tab_data : (Rows.laid_internal_strconv_uint64pow10 : DataW Unit) = Lib.tabData .u64 Lib.pow10Tab := rfl
theorem laid_plain (W : World) (h : laidMetH Tryd.prog L9 W) : laidMet Tryd.prog L9 W := by
  have e : (L9.filter fun x => x.2.handleName?.isSome) = [] := by kernel_rfl
  unfold laidMetH at h
  rw [e] at h
  exact h
theorem glob_of_row {W : World} (h0 : laidMetH Tryd.prog L9 W) (hsh : W.ShapedOpen Tryd.prog) : Glob W := by
  have h := laid_plain W h0
  have h2 : laidMet Tryd.prog (("internal/strconv.uint64pow10", Lib.tabData .u64 Lib.pow10Tab) :: L9.drop 3) W := h.tail.tail
  have h4 := h.tail.tail.tail.tail
  have h5 := h4.tail
  refine ⟨Lib.tabIs_of_head (g := 0) (t := 76) (e := 38) (n := 20) (by kernel_rfl) (by kernel_rfl) (by kernel_rfl) (by kernel_rfl) (by kernel_rfl) (by kernel_rfl) h2, ?_, ?_, Tryd.laysM147.s1_3 W hsh⟩
  · obtain ⟨a, s, hv, _⟩ := laid_sentinel (g := 1) (ti := 46) (tp := 90) (te := 92) (ts := 9) h5 (by kernel_rfl) (by kernel_rfl) Tryd.underlying46 rowS Tryd.underlying90 Tryd.underlying92 rfl rfl Tryd.underlying9 (by kernel_rfl) (by kernel_rfl)
    exact ⟨_, _, hv⟩
  · obtain ⟨a, s, hv, _⟩ := laid_sentinel (g := 2) (ti := 46) (tp := 90) (te := 92) (ts := 9) h4 (by kernel_rfl) (by kernel_rfl) Tryd.underlying46 rowS Tryd.underlying90 Tryd.underlying92 rfl rfl Tryd.underlying9 (by kernel_rfl) (by kernel_rfl)
    exact ⟨_, _, hv⟩

/-- A world that meets the rows' condition. -/
noncomputable def laidWorld (os : Os) : World := World.laidAll Tryd.prog os L9
theorem laid_world (os : Os) (args : Array Value) : laidMetH Tryd.prog L9 ((laidWorld os).forCall (fun _ _ => 0) ⟨#[], args, []⟩).memory := by
  have e : (L9.filter fun x => x.2.handleName?.isSome) = [] := by kernel_rfl
  unfold laidMetH
  rw [e]
  exact laidMet_laidAll _ (by kernel_rfl) (by kernel_rfl)

/-- A slice of integers that came in: nil, or a row of cap cells with the numbers zs, of which the first len are its elements. -/
def IsRow (k : IntKind) (w : World) (a : Option Addr) (len cap : Nat) (zs : List Int) : Prop :=
  (a = none ∧ len = 0 ∧ cap = 0 ∧ zs = []) ∨
  ∃ x, a = some x ∧ len ≤ cap ∧ cap ≤ maxLen ∧ zs.length = cap ∧ (∀ i, i < zs.length → w.cell? (x.add i) = some (.int k (zs.getD i 0))) ∧ ∀ n ∈ zs, (Lit.int k n).wf = true

theorem Sl.of_row {w : World} {a : Option Addr} {len cap : Nat} {zs : List Int} (h : IsRow .u8 w a len cap zs) : Sl w a len cap (zs.take len) := by
  rcases h with ⟨rfl, rfl, rfl, rfl⟩ | ⟨x, rfl, hl, hm, hz, hc, hw⟩
  · exact Sl.nil w
  · refine ⟨by simp; omega, hl, hm, fun hn => ?_, fun y hy => ?_, fun e => by cases e⟩
    · obtain ⟨b, o, s⟩ := x
      obtain rfl : s = none := by simpa [Addr.add] using World.cell?_spot (hc 0 (by omega))
      refine ⟨b, o, rfl, fun i hi => ?_⟩
      have h := hc i (by omega)
      rw [add_none] at h
      rw [h]
      simp [List.getD, hi]
    · have h := bounds_u8 (hw y (List.mem_of_mem_take hy))
      omega

theorem SlK.of_row {w : World} {a : Option Addr} {len cap : Nat} {zs : List Int} (h : IsRow .u32 w a len cap zs) : SlK .u32 w a len cap (zs.take len) ∧ Rng (zs.take len) := by
  rcases h with ⟨rfl, rfl, rfl, rfl⟩ | ⟨x, rfl, hl, hm, hz, hc, hw⟩
  · exact ⟨SlK.nil .u32 w, fun x hx => by simp at hx⟩
  · refine ⟨⟨by simp; omega, hl, hm, fun hn => ?_, fun e => by cases e⟩, fun y hy => ?_⟩
    · obtain ⟨b, o, s⟩ := x
      obtain rfl : s = none := by simpa [Addr.add] using World.cell?_spot (hc 0 (by omega))
      refine ⟨b, o, rfl, fun i hi => ?_⟩
      have h := hc i (by omega)
      rw [add_none] at h
      rw [h]
      simp [List.getD, hi]
    · have h := bounds_u32 (hw y (List.mem_of_mem_take hy))
      omega

theorem beq_str (T : ByteArray) : (T.toList == T.toList) = true := by simp
theorem bne_str (T : ByteArray) : (T.toList != T.toList) = false := by simp
theorem okL_len {l : List Int} (h : okL l = true) : l.length ≤ 20 := (okL_true h).2.1
theorem textS_size {l : List Int} (hr : Rng l) : (textS l).size ≤ 220 := by
  unfold textS
  split
  · rename_i hk
    have h1 := tS_size hr (l.length - 1)
    have h2 := okL_len hk
    have h3 := (okL_true hk).1
    omega
  · show 0 ≤ 220
    omega
theorem contL_size {l : List Int} (hr : Rng l) : (contL l).length ≤ 100 := by
  unfold contL
  split
  · rename_i hk
    have h1 := cS_len hr (okL_true hk).2.2.1 (l.length - 2)
    have h2 := okL_len hk
    have h3 := (okL_true hk).1
    omega
  · show 0 ≤ 100
    omega

end Go.Proofs.YtbemkfneebbgeaaDoor
