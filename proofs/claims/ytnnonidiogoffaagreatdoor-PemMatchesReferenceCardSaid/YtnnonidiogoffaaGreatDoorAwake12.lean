/- The chapter's examples hold of the program's package pem. -/
import Derived.Test.YtnnonidiogoffaaGreatDoorPm12Q
import Derived.Test.YtnnonidiogoffaaGreatDoorSame
import Derived.Test.YtnnonidiogoffaaGreatDoorErrM2
import Derived.Lib.SlBytesConst
namespace Go.Proofs.YtnnonidiogoffaaGreatDoor
open Go.RowKit
set_option linter.unusedVariables false

/-- Bytes of a literal string that has been converted: its block bears a mark behind its last cell. -/
theorem Sl.litm (w : World) (xs : List Int) (cs : Array Value) (n : Nat) (fr : Nat × Nat) (hcs : cs.toList = xs.map (Value.int .u8)) (hn : xs.length = n) (hm : n ≤ maxLen) (hr : ∀ x ∈ xs, 0 ≤ x ∧ x < 256) : Sl (w.alloc (.cells cs 5 fr)) (some ⟨w.heap.size, 0, none⟩) n n xs := by
  refine ⟨hn, Nat.le_refl _, hm, fun _ => ⟨w.heap.size, 0, rfl, fun i hi => ?_⟩, hr, fun e => by cases e⟩
  have h : (w.alloc (.cells cs 5 fr)).heap[w.heap.size]? = some (.cells cs 5 fr) := heap_alloc_new w _
  rw [cell_of_row _ _ _ cs 5 fr h, Nat.zero_add, ← Array.getElem?_toList, hcs, List.getElem?_map, List.getElem?_eq_getElem (by omega), List.getD_eq_getElem?_getD, List.getElem?_eq_getElem (by omega)]
  rfl
abbrev exA : List Int := [45, 45, 45, 45, 45, 66, 69, 71, 73, 78, 32, 88, 45, 45, 45, 45, 45, 10, 47, 119, 61, 61, 10, 45, 45, 45, 45, 45, 69, 78, 68, 32, 88, 45, 45, 45, 45, 45, 10]
abbrev exB : List Int := [45, 45, 45, 45, 45, 66, 69, 71, 73, 78, 32, 88, 45, 45, 45, 45, 45, 10, 47, 119, 61, 61, 10, 45, 45, 45, 45, 45, 69, 78, 68, 32, 89, 45, 45, 45, 45, 45, 10]
theorem ex_x : ints ⟨#[88]⟩ = [88] := by kernel_rfl
theorem ex_arm : armL [88] [255] = exA := by kernel_rfl
theorem ex_lab : labB [88] = true := by kernel_rfl
theorem ex_parA : parP exA = .ok [88] [255] := by rw [← ex_arm]; exact par_arm ex_lab (by simp) (by intro x hx; rw [List.mem_singleton.1 hx]; omega)
theorem ex_parB : parP exB = .err 5 := by kernel_rfl
theorem ex_size : sizeN (ints ⟨#[88]⟩) 1 = 39 := by kernel_rfl
theorem ex_low : sizeN (ints ⟨#[120]⟩) 1 = 0 := by kernel_rfl
theorem ex_lines : nln exA = 3 := by kernel_rfl
theorem ex_pk : labB (ints ⟨#[80, 85, 66, 76, 73, 67, 32, 75, 69, 89]⟩) = true := by kernel_rfl
theorem ex_sx : labB (ints ⟨#[32, 88]⟩) = false := by kernel_rfl
theorem ex_txt : txt exA = ⟨#[45, 45, 45, 45, 45, 66, 69, 71, 73, 78, 32, 88, 45, 45, 45, 45, 45, 10, 47, 119, 61, 61, 10, 45, 45, 45, 45, 45, 69, 78, 68, 32, 88, 45, 45, 45, 45, 45, 10]⟩ := by kernel_rfl
theorem ex_lx : txt [88] = ⟨#[88]⟩ := by kernel_rfl

set_option maxHeartbeats 8000000 in
set_option maxRecDepth 100000 in
theorem awake12 (w : World) (hG : Glob w) : Calls Tryz.prog 8 #[] w fun e w' => e = .returned (.bool true) ∧ Past w w' := by
  have HG := Lib.hid hG
  have HC5 := Lib.hid (fun w hG => lcode_code 5 w hG)
  have HC12 := Lib.hid (fun w hG => lcode_code 12 w hG)
  simp only [valCode] at HC5 HC12
  have hcv := fun (w : World) (C : Array Value) (n c : Nat) => Lib.run_convert_bytes_const (P := Tryz.prog) w 22 5 C n c Tryz.underlying22 Tryz.underlying5
  have HE1 := Lib.hid (fun A c w (h : Sl w A 1 c [255]) => encode_any ⟨#[88]⟩ A 1 c [255] w h (by decide) (by decide))
  have HE2 := Lib.hid (fun A c w (h : Sl w A 1 c [255]) => encode_any ⟨#[120]⟩ A 1 c [255] w h (by decide) (by decide))
  have HPA := Lib.hid (fun A c w (h : Sl w A 39 c exA) => parse_any A 39 c exA w h (by omega))
  have HPB := Lib.hid (fun A c w (h : Sl w A 39 c exB) => parse_any A 39 c exB w h (by omega))
  clear hG
  go_enter Tryz.func8, Tryz.ntmps8
  go_wp2_with fail
  refine (HE1.out _ _ _ (Sl.litm w [255] #[.int .u8 255] 1 (0, 0) rfl rfl (by unfold maxLen; omega) (by decide))).mono ?_
  rintro e w2 ⟨he, hp⟩
  rw [if_neg (by rw [ex_size]; omega)] at he
  obtain ⟨P, m, cc, rfl, hS⟩ := he
  rw [ex_x, ex_arm] at hS
  have hm : m = 39 := hS.len.symm
  subst hm
  have H2 : Hid (Past w w2 ∧ Sl w2 P 39 cc exA) := Lib.hid ⟨(past_alloc8 _ _).trans' hp, hS⟩
  clear hp hS
  obtain ⟨w3, hw3⟩ : ∃ w3, w3 = w2.alloc (.cells #[.int .u8 45, .int .u8 45, .int .u8 45, .int .u8 45, .int .u8 45, .int .u8 66, .int .u8 69, .int .u8 71, .int .u8 73, .int .u8 78, .int .u8 32, .int .u8 88, .int .u8 45, .int .u8 45, .int .u8 45, .int .u8 45, .int .u8 45, .int .u8 10, .int .u8 47, .int .u8 119, .int .u8 61, .int .u8 61, .int .u8 10, .int .u8 45, .int .u8 45, .int .u8 45, .int .u8 45, .int .u8 45, .int .u8 69, .int .u8 78, .int .u8 68, .int .u8 32, .int .u8 88, .int .u8 45, .int .u8 45, .int .u8 45, .int .u8 45, .int .u8 45, .int .u8 10] 5 (39, 40)) := ⟨_, rfl⟩
  have hp3 : Past w2 w3 := by rw [hw3]; exact past_alloc8 _ _
  have HL := Sl.litm w2 exA #[.int .u8 45, .int .u8 45, .int .u8 45, .int .u8 45, .int .u8 45, .int .u8 66, .int .u8 69, .int .u8 71, .int .u8 73, .int .u8 78, .int .u8 32, .int .u8 88, .int .u8 45, .int .u8 45, .int .u8 45, .int .u8 45, .int .u8 45, .int .u8 10, .int .u8 47, .int .u8 119, .int .u8 61, .int .u8 61, .int .u8 10, .int .u8 45, .int .u8 45, .int .u8 45, .int .u8 45, .int .u8 45, .int .u8 69, .int .u8 78, .int .u8 68, .int .u8 32, .int .u8 88, .int .u8 45, .int .u8 45, .int .u8 45, .int .u8 45, .int .u8 45, .int .u8 10] 39 (39, 40) rfl rfl (by unfold maxLen; omega) (by decide)
  rw [← hw3] at HL
  have H3 : Hid (Past w w3 ∧ Sl w3 P 39 cc exA) := Lib.hid ⟨H2.out.1.trans' hp3, H2.out.2.past hp3⟩
  have HPP := Lib.hid (HPA.out _ _ w3 HL)
  have HW3 := Lib.hid hw3
  clear hp3 hw3 HL H2
  go_wp2_with fail
  rw [← HW3.out]
  refine HPP.out.mono ?_
  rintro e w4 ⟨he, hp⟩
  rw [ex_parA] at he
  obtain ⟨A4, m4, c4, rfl, hS4⟩ := he
  rw [ex_lx]
  have hm4 : m4 = 1 := hS4.len.symm
  subst hm4
  have H4 : Hid (Past w w4 ∧ Sl w4 P 39 cc exA ∧ Sl w4 A4 1 c4 [255]) := Lib.hid ⟨H3.out.1.trans' hp, H3.out.2.past hp, hS4⟩
  clear hp hS4 HPP HW3 H3
  obtain ⟨w5, hw5⟩ : ∃ w5, w5 = w4.alloc (.cells #[.int .u8 45, .int .u8 45, .int .u8 45, .int .u8 45, .int .u8 45, .int .u8 66, .int .u8 69, .int .u8 71, .int .u8 73, .int .u8 78, .int .u8 32, .int .u8 88, .int .u8 45, .int .u8 45, .int .u8 45, .int .u8 45, .int .u8 45, .int .u8 10, .int .u8 47, .int .u8 119, .int .u8 61, .int .u8 61, .int .u8 10, .int .u8 45, .int .u8 45, .int .u8 45, .int .u8 45, .int .u8 45, .int .u8 69, .int .u8 78, .int .u8 68, .int .u8 32, .int .u8 89, .int .u8 45, .int .u8 45, .int .u8 45, .int .u8 45, .int .u8 45, .int .u8 10] 5 (39, 40)) := ⟨_, rfl⟩
  have hp5 : Past w4 w5 := by rw [hw5]; exact past_alloc8 _ _
  have HL := Sl.litm w4 exB #[.int .u8 45, .int .u8 45, .int .u8 45, .int .u8 45, .int .u8 45, .int .u8 66, .int .u8 69, .int .u8 71, .int .u8 73, .int .u8 78, .int .u8 32, .int .u8 88, .int .u8 45, .int .u8 45, .int .u8 45, .int .u8 45, .int .u8 45, .int .u8 10, .int .u8 47, .int .u8 119, .int .u8 61, .int .u8 61, .int .u8 10, .int .u8 45, .int .u8 45, .int .u8 45, .int .u8 45, .int .u8 45, .int .u8 69, .int .u8 78, .int .u8 68, .int .u8 32, .int .u8 89, .int .u8 45, .int .u8 45, .int .u8 45, .int .u8 45, .int .u8 45, .int .u8 10] 39 (39, 40) rfl rfl (by unfold maxLen; omega) (by decide)
  rw [← hw5] at HL
  have H5 : Hid (Past w w5 ∧ Sl w5 P 39 cc exA ∧ Sl w5 A4 1 c4 [255]) := Lib.hid ⟨H4.out.1.trans' hp5, H4.out.2.1.past hp5, H4.out.2.2.past hp5⟩
  have HPP := Lib.hid (HPB.out _ _ w5 HL)
  have HW5 := Lib.hid hw5
  clear hp5 hw5 HL H4
  go_wp2_with fail
  rw [← HW5.out]
  refine HPP.out.mono ?_
  rintro e w6 ⟨he, hp⟩
  rw [ex_parB] at he
  obtain rfl := he
  have H6 : Hid (Past w w6 ∧ Sl w6 P 39 cc exA ∧ Sl w6 A4 1 c4 [255]) := Lib.hid ⟨H5.out.1.trans' hp, H5.out.2.1.past hp, H5.out.2.2.past hp⟩
  clear hp HPP HW5 H5
  have hl6 := Sl.litm w6 [255] #[.int .u8 255] 1 (0, 0) rfl rfl (by unfold maxLen; omega) (by decide)
  have HEE := Lib.hid (HE2.out _ _ _ hl6)
  clear hl6
  unfold cdV
  go_wp2_with fail
  refine HEE.out.mono ?_
  rintro e w7 ⟨he, hp⟩
  rw [if_pos (Or.inl ex_low)] at he
  obtain rfl := he
  have H7 : Hid (Past w w7 ∧ Sl w7 P 39 cc exA ∧ Sl w7 A4 1 c4 [255]) := Lib.hid ⟨(H6.out.1.trans' (past_alloc8 _ _)).trans' hp, (H6.out.2.1.past (past_alloc8 _ _)).past hp, (H6.out.2.2.past (past_alloc8 _ _)).past hp⟩
  clear hp HEE H6
  have hco := conv_sl (P := Tryz.prog) (src := 22) (dst := 9) (e := 5) Tryz.underlying22 Tryz.underlying5 Tryz.underlying9 H7.out.2.1
  rw [ex_txt] at hco
  have hsm := rsame_self A4 (some ⟨w7.heap.size, 0, none⟩) 1 c4 1 [255] _ (H7.out.2.2.past (past_alloc8 w7 (.cells #[.int .u8 255] 5))) (Sl.litm w7 [255] #[.int .u8 255] 1 (0, 0) rfl rfl (by unfold maxLen; omega) (by decide))
  have HSM := Lib.hid hsm
  clear hsm
  unfold cdV
  go_wp2_with fail
  refine HSM.out.mono ?_
  rintro e w8 ⟨rfl, m8, hw8⟩
  have hp8 : Past w7 w8 := by rw [hw8]; exact Past.drewN (past_alloc8 _ _) m8
  have H8 : Hid (Past w w8 ∧ Sl w8 P 39 cc exA) := Lib.hid ⟨H7.out.1.trans' hp8, H7.out.2.1.past hp8⟩
  clear hw8 hp8 hco HSM H7
  go_wp2_with fail
  refine (HC5.out _ (HG.out.past H8.out.1)).mono ?_
  rintro e w9 ⟨rfl, hp⟩
  have H9 : Hid (Past w w9 ∧ Sl w9 P 39 cc exA) := Lib.hid ⟨H8.out.1.trans' hp, H8.out.2.past hp⟩
  clear hp H8
  go_wp2_with fail
  refine (HC12.out _ (HG.out.past H9.out.1)).mono ?_
  rintro e wa ⟨rfl, hp⟩
  have Ha : Hid (Past w wa ∧ Sl wa P 39 cc exA) := Lib.hid ⟨H9.out.1.trans' hp, H9.out.2.past hp⟩
  clear hp H9
  go_wp2_with fail
  refine (label_any _ wa (by decide)).mono ?_
  rw [ex_pk]
  rintro e wb ⟨rfl, hp⟩
  have Hb : Hid (Past w wb ∧ Sl wb P 39 cc exA) := Lib.hid ⟨Ha.out.1.trans' hp, Ha.out.2.past hp⟩
  clear hp Ha
  go_wp2_with fail
  refine (label_any _ wb (by decide)).mono ?_
  rw [ex_sx]
  rintro e wc ⟨rfl, hp⟩
  have Hc : Hid (Past w wc ∧ Sl wc P 39 cc exA) := Lib.hid ⟨Hb.out.1.trans' hp, Hb.out.2.past hp⟩
  clear hp Hb
  go_wp2_with fail
  refine (size_any ⟨#[88]⟩ 1 wc (by decide) (by decide)).mono ?_
  rw [ex_size]
  rintro e wd ⟨rfl, hp⟩
  have Hd : Hid (Past w wd ∧ Sl wd P 39 cc exA) := Lib.hid ⟨Hc.out.1.trans' hp, Hc.out.2.past hp⟩
  clear hp Hc
  go_wp2_with fail
  refine (linesN_any P 39 cc exA wd Hd.out.2 (by omega)).mono ?_
  rw [ex_lines]
  rintro e we ⟨rfl, hp⟩
  have He := Lib.hid (Hd.out.1.trans' hp)
  clear hp Hd
  go_wp2_with fail
  go_ret
  exact ⟨rfl, He.out⟩
end Go.Proofs.YtnnonidiogoffaaGreatDoor
