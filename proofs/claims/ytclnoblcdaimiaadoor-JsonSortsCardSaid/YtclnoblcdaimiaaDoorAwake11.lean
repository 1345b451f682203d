/- The chapter's examples hold of the program's package json. -/
import Derived.Test.YtclnoblcdaimiaaDoorGiv11
import Derived.Test.YtclnoblcdaimiaaDoorPg11K
import Derived.Test.YtclnoblcdaimiaaDoorPg11G
import Derived.Test.YtclnoblcdaimiaaDoorErrM2
import Derived.Lib.SlBytesConst
namespace Go.Proofs.YtclnoblcdaimiaaDoor
open Go.RowKit
set_option linter.unusedVariables false

/-- Bytes of a literal string that has been converted: its block bears a mark behind its last cell. -/
theorem Sl.litm (w : World) (xs : List Int) (cs : Array Value) (n : Nat) (fr : Nat × Nat) (hcs : cs.toList = xs.map (Value.int .u8)) (hn : xs.length = n) (hm : n ≤ maxLen) (hr : ∀ x ∈ xs, 0 ≤ x ∧ x < 256) : Sl (w.alloc (.cells cs 5 fr)) (some ⟨w.heap.size, 0, none⟩) n n xs := by
  refine ⟨hn, Nat.le_refl _, hm, fun _ => ⟨w.heap.size, 0, rfl, fun i hi => ?_⟩, hr, fun e => by cases e⟩
  have h : (w.alloc (.cells cs 5 fr)).heap[w.heap.size]? = some (.cells cs 5 fr) := heap_alloc_new w _
  rw [cell_of_row _ _ _ cs 5 fr h, Nat.zero_add, ← Array.getElem?_toList, hcs, List.getElem?_map, List.getElem?_eq_getElem (by omega), List.getD_eq_getElem?_getD, List.getElem?_eq_getElem (by omega)]
  rfl
/-- The chapter's pair. -/
def exP : P2 := (⟨#[97]⟩, ⟨#[120]⟩)
theorem ex_text : textI [exP] = [123, 34, 97, 34, 58, 34, 120, 34, 125] := by kernel_rfl
theorem ex_vld : vldP [exP] = true := by kernel_rfl
theorem ex_read : readS (textI [exP]) 0 0 = (9, 9) := by kernel_rfl
theorem ex_chk : chk [exP] = none := by kernel_rfl
theorem ex_bad : readS [123, 34, 97, 34, 58, 34, 120, 34] 0 0 = (8, 8) := by kernel_rfl
theorem ex_txt : txt (textI [exP]) = ⟨#[123, 34, 97, 34, 58, 34, 120, 34, 125]⟩ := by kernel_rfl
theorem ex_get : getV [exP] ⟨#[97]⟩ = .tuple #[.string ⟨#[120]⟩, .bool true] := by kernel_rfl
theorem ex_len : lenL [exP] = 9 := by kernel_rfl
theorem ex_loose : Loose [exP] := by
  intro p hp
  rw [List.mem_singleton.1 hp]
  refine ⟨by decide, ?_, ?_⟩
  · have e : ints exP.1 = [97] := by kernel_rfl
    rw [e]
    decide
  · have e : ints exP.2 = [120] := by kernel_rfl
    rw [e]
    decide

set_option maxHeartbeats 8000000 in
set_option maxRecDepth 100000 in
theorem awake11 (w : World) (hG : Glob11 w) : Calls Tryd.prog 7 #[] w fun e w' => e = .returned (.bool true) ∧ Past w w' := by
  have HG := Lib.hid hG
  have HTo := Lib.hid (fun w hG => ltold_flt 3 8 w hG (by omega))
  simp only [valFlt] at HTo
  have hcv := fun (w : World) (C : Array Value) (n c : Nat) => Lib.run_convert_bytes_const (P := Tryd.prog) w 22 5 C n c Tryd.underlying22 Tryd.underlying5
  clear hG
  go_enter Tryd.func7, Tryd.ntmps7
  go_wp2_with fail
  have hps : Ps (w.alloc (.cells #[.string ⟨#[97]⟩, .string ⟨#[120]⟩] 54)) (some ⟨w.heap.size, 0, none⟩) 1 1 [exP] := by
    have hr := Row.new w 54 #[.string ⟨#[97]⟩, .string ⟨#[120]⟩]
    refine ⟨rfl, Nat.le_refl _, by unfold maxLen; omega, fun _ => ⟨w.heap.size, 0, rfl, fun i hi => ?_⟩, fun e => by cases e⟩
    obtain rfl : i = 0 := by omega
    exact ⟨hr.cell 0, hr.cell 1⟩
  refine (encode11_any _ 1 1 [exP] _ hps (by rw [ex_len]; omega)).mono ?_
  rintro e w2 ⟨he, _, hp⟩
  obtain ⟨A, c, rfl, hS⟩ := he ex_vld
  have hl9 : (textI [exP]).length = 9 := by rw [ex_text]; rfl
  rw [hl9] at hS ⊢
  have hpw : Past w w2 := (past_alloc8 _ _).trans' hp
  have H2 := Lib.hid (And.intro hpw hS)
  clear he hS hp hps hl9 hpw
  obtain ⟨w3, hw3⟩ : ∃ w3, w3 = w2.alloc (.cells #[.int .u8 123, .int .u8 34, .int .u8 97, .int .u8 34, .int .u8 58, .int .u8 34, .int .u8 120, .int .u8 34, .int .u8 125] 5 (9, 10)) := ⟨_, rfl⟩
  have hp3 : Past w2 w3 := by rw [hw3]; exact past_alloc8 _ _
  have HL := Sl.litm w2 [123, 34, 97, 34, 58, 34, 120, 34, 125] #[.int .u8 123, .int .u8 34, .int .u8 97, .int .u8 34, .int .u8 58, .int .u8 34, .int .u8 120, .int .u8 34, .int .u8 125] 9 (9, 10) rfl rfl (by unfold maxLen; omega) (by decide)
  rw [← hw3, ← ex_text] at HL
  have H3 : Hid (Past w w3 ∧ Sl w3 A 9 c (textI [exP])) := Lib.hid ⟨H2.out.1.trans' hp3, H2.out.2.past hp3⟩
  have HPP := Lib.hid (parse_acc _ 9 9 [exP] w3 HL (HG.out.past H3.out.1) (by omega) ex_loose ex_read)
  have HW3 := Lib.hid hw3
  clear hp3 hw3 HL H2
  go_wp2_with fail
  rw [← HW3.out]
  refine HPP.out.mono ?_
  rintro e w4 ⟨_, he, hp⟩
  obtain ⟨A1, c1, rfl, hq⟩ := he ex_chk
  have hl1 : [exP].length = 1 := rfl
  rw [hl1] at hq ⊢
  have H4 : Hid (Past w w4 ∧ Sl w4 A 9 c (textI [exP]) ∧ Ps w4 A1 1 c1 [exP]) := Lib.hid ⟨H3.out.1.trans' hp, H3.out.2.past hp, hq⟩
  clear hp he hq HPP HW3 H3 hl1
  obtain ⟨w5, hw5⟩ : ∃ w5, w5 = w4.alloc (.cells #[.int .u8 123, .int .u8 34, .int .u8 97, .int .u8 34, .int .u8 58, .int .u8 34, .int .u8 120, .int .u8 34] 5 (8, 9)) := ⟨_, rfl⟩
  have hp5 : Past w4 w5 := by rw [hw5]; exact past_alloc8 _ _
  have HL := Sl.litm w4 [123, 34, 97, 34, 58, 34, 120, 34] #[.int .u8 123, .int .u8 34, .int .u8 97, .int .u8 34, .int .u8 58, .int .u8 34, .int .u8 120, .int .u8 34] 8 (8, 9) rfl rfl (by unfold maxLen; omega) (by decide)
  rw [← hw5] at HL
  have H5 : Hid (Past w w5 ∧ Sl w5 A 9 c (textI [exP]) ∧ Ps w5 A1 1 c1 [exP]) := Lib.hid ⟨H4.out.1.trans' hp5, H4.out.2.1.past hp5, H4.out.2.2.past hp5⟩
  have HPB := parse_bad _ 8 8 _ w5 HL (HG.out.past H5.out.1) (by omega) 8 8 ex_bad (.inr (by decide))
  rw [show badC 8 8 8 = 3 from rfl] at HPB
  have HPP := Lib.hid HPB
  simp only [valFlt] at HPP
  have HW5 := Lib.hid hw5
  clear hp5 hw5 HL H4 HPB
  go_wp2_with fail
  rw [← HW5.out]
  refine HPP.out.mono ?_
  rintro e w6 ⟨rfl, hp⟩
  have H6 : Hid (Past w w6 ∧ Sl w6 A 9 c (textI [exP]) ∧ Ps w6 A1 1 c1 [exP]) := Lib.hid ⟨H5.out.1.trans' hp, H5.out.2.1.past hp, H5.out.2.2.past hp⟩
  clear hp HPP HW5 H5
  have HGe := get11_any A1 1 c1 [exP] ⟨#[97]⟩ w6 H6.out.2.2
  rw [ex_get] at HGe
  have HGE := Lib.hid HGe
  clear HGe
  go_wp2_with fail
  refine HGE.out.mono ?_
  rintro e w7 ⟨rfl, hp⟩
  have H7 : Hid (Past w w7 ∧ Sl w7 A 9 c (textI [exP]) ∧ Ps w7 A1 1 c1 [exP]) := Lib.hid ⟨H6.out.1.trans' hp, H6.out.2.1.past hp, H6.out.2.2.past hp⟩
  clear hp HGE H6
  have hco := conv_sl (P := Tryd.prog) (src := 22) (dst := 9) (e := 5) Tryd.underlying22 Tryd.underlying5 Tryd.underlying9 H7.out.2.1
  rw [ex_txt] at hco
  go_wp2_with fail
  refine (HTo.out _ (HG.out.err.past H7.out.1)).mono ?_
  rintro e w8 ⟨rfl, hp⟩
  have H8 : Hid (Past w w8 ∧ Ps w8 A1 1 c1 [exP]) := Lib.hid ⟨H7.out.1.trans' hp, H7.out.2.2.past hp⟩
  clear hp hco H7
  have HV := valid11_any A1 1 c1 [exP] w8 H8.out.2 (by rw [ex_len]; omega)
  rw [ex_vld] at HV
  have HVV := Lib.hid HV
  clear HV
  go_wp2_with fail
  refine HVV.out.mono ?_
  rintro e w9 ⟨rfl, hp⟩
  have H9 : Hid (Past w w9 ∧ Ps w9 A1 1 c1 [exP]) := Lib.hid ⟨H8.out.1.trans' hp, H8.out.2.past hp⟩
  clear hp HVV H8
  go_wp2_with fail
  refine (sorted1_any A1 c1 [exP] w9 H9.out.2).mono ?_
  rintro e wa ⟨A', c', rfl, hp⟩
  have Ha := Lib.hid (H9.out.1.trans' hp)
  clear hp H9
  go_wp2_with fail
  go_ret
  exact ⟨rfl, Ha.out⟩

end Go.Proofs.YtclnoblcdaimiaaDoor
