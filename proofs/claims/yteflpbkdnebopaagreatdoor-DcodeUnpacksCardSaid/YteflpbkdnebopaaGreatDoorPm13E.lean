/- The program's function row, algorithm by algorithm (E). -/
import Derived.Test.YteflpbkdnebopaaGreatDoorPm13C
import Derived.Deep.Cut
namespace Go.Proofs.YteflpbkdnebopaaGreatDoor
open Go.RowKit
set_option linter.unusedVariables false

set_option maxHeartbeats 4000000 in
set_option maxRecDepth 100000 in
theorem row_13 (w : World) (hG : Glob13 w) : Calls Tryz.prog 70 #[.int .i64 13] w (RowP 13 w) := by
  have HG := Lib.hid hG
  obtain ⟨w1, hw1⟩ : ∃ w1, w1 = w.alloc (.cells zeroC 81) := ⟨_, rfl⟩
  obtain ⟨g, hg⟩ : ∃ g, w.heap.size = g := ⟨_, rfl⟩
  have hp1 : Past w w1 := by rw [hw1]; exact past_alloc13 _ _
  have hr1 : Row w1 g 81 zeroC := by rw [hw1, ← hg]; exact Row.new _ _ _
  have H1 : Hid (Past w w1 ∧ Row w1 g 81 zeroC ∧ w.heap.size ≤ g) := Lib.hid ⟨hp1, hr1, by omega⟩
  have k0 := (hG.past hp1).slhAt 0
  have k1 := (hG.past hp1).slhAt 1
  have k2 := (hG.past hp1).slhAt 2
  have k3 := (hG.past hp1).slhAt 3
  have k4 := (hG.past hp1).slhAt 4
  change w1.cell? ⟨2, 0, none⟩ = some (.string ⟨#[49, 50, 56, 115]⟩) at k0
  change w1.cell? ⟨2, 1, none⟩ = some (.int .i64 32) at k1
  change w1.cell? ⟨2, 2, none⟩ = some (.int .i64 64) at k2
  change w1.cell? ⟨2, 3, none⟩ = some (.int .i64 0) at k3
  change w1.cell? ⟨2, 4, none⟩ = some (.int .i64 7856) at k4
  have HW1 := Lib.hid hw1
  have HGS := Lib.hid hg
  have HNM := Lib.hid (named_any 13 3 ⟨#[83, 76, 72, 45, 68, 83, 65, 45, 83, 72, 65, 75, 69, 45]⟩ ⟨#[49, 50, 56, 115]⟩ 32 64 0 7856 w1 (by decide))
  have hnm : (⟨#[83, 76, 72, 45, 68, 83, 65, 45, 83, 72, 65, 75, 69, 45]⟩ : ByteArray) ++ ⟨#[49, 50, 56, 115]⟩ = ⟨#[83, 76, 72, 45, 68, 83, 65, 45, 83, 72, 65, 75, 69, 45, 49, 50, 56, 115]⟩ := by kernel_rfl
  rw [hnm] at HNM
  clear hG hw1 hg hp1 hr1 hnm
  go_enter Tryz.func70, Tryz.ntmps70
  go_upto_region 1 with (fail)
  rw [← HW1.out]
  try rw [HGS.out]
  clear HW1 HGS
  go_wp2_with fail
  refine (HNM.out).mono ?_
  rintro e w2 ⟨rfl, hp⟩
  have H2 : Hid (Past w w2 ∧ Row w2 g 81 zeroC ∧ w.heap.size ≤ g) := Lib.hid ⟨H1.out.1.trans' hp, H1.out.2.1.past hp, H1.out.2.2⟩
  clear hp H1 HNM k0 k1 k2 k3 k4
  go_upto_region 15 with (refine wpList_store_row rfl 81 _ _ rfl _ _ rfl rfl _ _ H2.out.2.1 (resS _ (by rfl)) rfl (by simp [Value.oneCell']) ?_)
  obtain ⟨w3, hw3⟩ : ∃ w3, w2.setRow g #[.int .i64 13, .int .i64 3, .string ⟨#[83, 76, 72, 45, 68, 83, 65, 45, 83, 72, 65, 75, 69, 45, 49, 50, 56, 115]⟩, .int .i64 32, .int .i64 64, .int .i64 0, .int .i64 7856, .slice none 0 0, .int .i64 0, .int .u32 0] = w3 := ⟨_, rfl⟩
  have H3 : Hid (Past w w3 ∧ Row w3 g 81 #[.int .i64 13, .int .i64 3, .string ⟨#[83, 76, 72, 45, 68, 83, 65, 45, 83, 72, 65, 75, 69, 45, 49, 50, 56, 115]⟩, .int .i64 32, .int .i64 64, .int .i64 0, .int .i64 7856, .slice none 0 0, .int .i64 0, .int .u32 0] ∧ w.heap.size ≤ g) := Lib.hid ⟨by rw [← hw3]; exact past_row13 H2.out.1 H2.out.2.2 _, by rw [← hw3]; exact setRow_heap _ _ _ _ _ _ H2.out.2.1, H2.out.2.2⟩
  rw [hw3]
  clear hw3 H2
  have HAF := Lib.hid (afterDSA_any 9 (by omega) w3)
  have hte : befDSA ++ itoB (17 + 9) = ⟨#[50, 46, 49, 54, 46, 56, 52, 48, 46, 49, 46, 49, 48, 49, 46, 51, 46, 52, 46, 51, 46, 50, 54]⟩ := by decide +kernel
  rw [hte] at HAF
  clear hte
  go_wp2_with fail
  refine (HAF.out).mono ?_
  rintro e w4 ⟨rfl, hw4⟩
  rw [hw4]
  clear hw4
  have c8 := H3.out.2.1.cell 8
  have f8 := H3.out.2.1.fr 8
  go_upto_region 20 with (fail)
  obtain ⟨w5, hw5⟩ : ∃ w5, w3.setCell ⟨g, 8, none⟩ (.int .i64 (-57)) = w5 := ⟨_, rfl⟩
  have H5 : Hid (Past w w5 ∧ Row w5 g 81 #[.int .i64 13, .int .i64 3, .string ⟨#[83, 76, 72, 45, 68, 83, 65, 45, 83, 72, 65, 75, 69, 45, 49, 50, 56, 115]⟩, .int .i64 32, .int .i64 64, .int .i64 0, .int .i64 7856, .slice none 0 0, .int .i64 (-57), .int .u32 0] ∧ w.heap.size ≤ g) := Lib.hid ⟨by rw [← hw5]; exact H3.out.1.setCell (by show w.heap.size ≤ g; exact H3.out.2.2) _, by rw [← hw5]; exact H3.out.2.1.set 8 _, H3.out.2.2⟩
  rw [hw5]
  clear hw5 H3 c8 f8
  have hrow := H5.out.2.1
  go_wp2_with (first
    | (refine wpList_load_row rfl 81 _ rfl g rfl _ _ _ _ hrow Tryz.underlying81 rfl (resS _ (by rfl)) ?_)
    | (refine wpList_store_row rfl 81 _ _ rfl g _ rfl rfl _ _ hrow (resS _ (by rfl)) rfl (by simp [Value.oneCell']) ?_))
  refine bodyPost_ret (results_cr rfl _ _ ⟨g, 0, none⟩ _ rfl (load_set _ g _ (setRow_heap _ g _ _ _ _ hrow) (by rfl))) (by rfl) ?_
  exact ⟨by kernel_rfl, past_row13 H5.out.1 H5.out.2.2 _⟩
set_option maxHeartbeats 4000000 in
set_option maxRecDepth 100000 in
theorem row_14 (w : World) (hG : Glob13 w) : Calls Tryz.prog 70 #[.int .i64 14] w (RowP 14 w) := by
  have HG := Lib.hid hG
  obtain ⟨w1, hw1⟩ : ∃ w1, w1 = w.alloc (.cells zeroC 81) := ⟨_, rfl⟩
  obtain ⟨g, hg⟩ : ∃ g, w.heap.size = g := ⟨_, rfl⟩
  have hp1 : Past w w1 := by rw [hw1]; exact past_alloc13 _ _
  have hr1 : Row w1 g 81 zeroC := by rw [hw1, ← hg]; exact Row.new _ _ _
  have H1 : Hid (Past w w1 ∧ Row w1 g 81 zeroC ∧ w.heap.size ≤ g) := Lib.hid ⟨hp1, hr1, by omega⟩
  have k0 := (hG.past hp1).slhAt 5
  have k1 := (hG.past hp1).slhAt 6
  have k2 := (hG.past hp1).slhAt 7
  have k3 := (hG.past hp1).slhAt 8
  have k4 := (hG.past hp1).slhAt 9
  change w1.cell? ⟨2, 5, none⟩ = some (.string ⟨#[49, 50, 56, 102]⟩) at k0
  change w1.cell? ⟨2, 6, none⟩ = some (.int .i64 32) at k1
  change w1.cell? ⟨2, 7, none⟩ = some (.int .i64 64) at k2
  change w1.cell? ⟨2, 8, none⟩ = some (.int .i64 0) at k3
  change w1.cell? ⟨2, 9, none⟩ = some (.int .i64 17088) at k4
  have HW1 := Lib.hid hw1
  have HGS := Lib.hid hg
  have HNM := Lib.hid (named_any 14 3 ⟨#[83, 76, 72, 45, 68, 83, 65, 45, 83, 72, 65, 75, 69, 45]⟩ ⟨#[49, 50, 56, 102]⟩ 32 64 0 17088 w1 (by decide))
  have hnm : (⟨#[83, 76, 72, 45, 68, 83, 65, 45, 83, 72, 65, 75, 69, 45]⟩ : ByteArray) ++ ⟨#[49, 50, 56, 102]⟩ = ⟨#[83, 76, 72, 45, 68, 83, 65, 45, 83, 72, 65, 75, 69, 45, 49, 50, 56, 102]⟩ := by kernel_rfl
  rw [hnm] at HNM
  clear hG hw1 hg hp1 hr1 hnm
  go_enter Tryz.func70, Tryz.ntmps70
  go_upto_region 1 with (fail)
  rw [← HW1.out]
  try rw [HGS.out]
  clear HW1 HGS
  go_wp2_with fail
  refine (HNM.out).mono ?_
  rintro e w2 ⟨rfl, hp⟩
  have H2 : Hid (Past w w2 ∧ Row w2 g 81 zeroC ∧ w.heap.size ≤ g) := Lib.hid ⟨H1.out.1.trans' hp, H1.out.2.1.past hp, H1.out.2.2⟩
  clear hp H1 HNM k0 k1 k2 k3 k4
  go_upto_region 15 with (refine wpList_store_row rfl 81 _ _ rfl _ _ rfl rfl _ _ H2.out.2.1 (resS _ (by rfl)) rfl (by simp [Value.oneCell']) ?_)
  obtain ⟨w3, hw3⟩ : ∃ w3, w2.setRow g #[.int .i64 14, .int .i64 3, .string ⟨#[83, 76, 72, 45, 68, 83, 65, 45, 83, 72, 65, 75, 69, 45, 49, 50, 56, 102]⟩, .int .i64 32, .int .i64 64, .int .i64 0, .int .i64 17088, .slice none 0 0, .int .i64 0, .int .u32 0] = w3 := ⟨_, rfl⟩
  have H3 : Hid (Past w w3 ∧ Row w3 g 81 #[.int .i64 14, .int .i64 3, .string ⟨#[83, 76, 72, 45, 68, 83, 65, 45, 83, 72, 65, 75, 69, 45, 49, 50, 56, 102]⟩, .int .i64 32, .int .i64 64, .int .i64 0, .int .i64 17088, .slice none 0 0, .int .i64 0, .int .u32 0] ∧ w.heap.size ≤ g) := Lib.hid ⟨by rw [← hw3]; exact past_row13 H2.out.1 H2.out.2.2 _, by rw [← hw3]; exact setRow_heap _ _ _ _ _ _ H2.out.2.1, H2.out.2.2⟩
  rw [hw3]
  clear hw3 H2
  have HAF := Lib.hid (afterDSA_any 10 (by omega) w3)
  have hte : befDSA ++ itoB (17 + 10) = ⟨#[50, 46, 49, 54, 46, 56, 52, 48, 46, 49, 46, 49, 48, 49, 46, 51, 46, 52, 46, 51, 46, 50, 55]⟩ := by decide +kernel
  rw [hte] at HAF
  clear hte
  go_wp2_with fail
  refine (HAF.out).mono ?_
  rintro e w4 ⟨rfl, hw4⟩
  rw [hw4]
  clear hw4
  have c8 := H3.out.2.1.cell 8
  have f8 := H3.out.2.1.fr 8
  go_upto_region 20 with (fail)
  obtain ⟨w5, hw5⟩ : ∃ w5, w3.setCell ⟨g, 8, none⟩ (.int .i64 (-58)) = w5 := ⟨_, rfl⟩
  have H5 : Hid (Past w w5 ∧ Row w5 g 81 #[.int .i64 14, .int .i64 3, .string ⟨#[83, 76, 72, 45, 68, 83, 65, 45, 83, 72, 65, 75, 69, 45, 49, 50, 56, 102]⟩, .int .i64 32, .int .i64 64, .int .i64 0, .int .i64 17088, .slice none 0 0, .int .i64 (-58), .int .u32 0] ∧ w.heap.size ≤ g) := Lib.hid ⟨by rw [← hw5]; exact H3.out.1.setCell (by show w.heap.size ≤ g; exact H3.out.2.2) _, by rw [← hw5]; exact H3.out.2.1.set 8 _, H3.out.2.2⟩
  rw [hw5]
  clear hw5 H3 c8 f8
  have hrow := H5.out.2.1
  go_wp2_with (first
    | (refine wpList_load_row rfl 81 _ rfl g rfl _ _ _ _ hrow Tryz.underlying81 rfl (resS _ (by rfl)) ?_)
    | (refine wpList_store_row rfl 81 _ _ rfl g _ rfl rfl _ _ hrow (resS _ (by rfl)) rfl (by simp [Value.oneCell']) ?_))
  refine bodyPost_ret (results_cr rfl _ _ ⟨g, 0, none⟩ _ rfl (load_set _ g _ (setRow_heap _ g _ _ _ _ hrow) (by rfl))) (by rfl) ?_
  exact ⟨by kernel_rfl, past_row13 H5.out.1 H5.out.2.2 _⟩
set_option maxHeartbeats 4000000 in
set_option maxRecDepth 100000 in
theorem row_15 (w : World) (hG : Glob13 w) : Calls Tryz.prog 70 #[.int .i64 15] w (RowP 15 w) := by
  have HG := Lib.hid hG
  obtain ⟨w1, hw1⟩ : ∃ w1, w1 = w.alloc (.cells zeroC 81) := ⟨_, rfl⟩
  obtain ⟨g, hg⟩ : ∃ g, w.heap.size = g := ⟨_, rfl⟩
  have hp1 : Past w w1 := by rw [hw1]; exact past_alloc13 _ _
  have hr1 : Row w1 g 81 zeroC := by rw [hw1, ← hg]; exact Row.new _ _ _
  have H1 : Hid (Past w w1 ∧ Row w1 g 81 zeroC ∧ w.heap.size ≤ g) := Lib.hid ⟨hp1, hr1, by omega⟩
  have k0 := (hG.past hp1).slhAt 10
  have k1 := (hG.past hp1).slhAt 11
  have k2 := (hG.past hp1).slhAt 12
  have k3 := (hG.past hp1).slhAt 13
  have k4 := (hG.past hp1).slhAt 14
  change w1.cell? ⟨2, 10, none⟩ = some (.string ⟨#[49, 57, 50, 115]⟩) at k0
  change w1.cell? ⟨2, 11, none⟩ = some (.int .i64 48) at k1
  change w1.cell? ⟨2, 12, none⟩ = some (.int .i64 96) at k2
  change w1.cell? ⟨2, 13, none⟩ = some (.int .i64 0) at k3
  change w1.cell? ⟨2, 14, none⟩ = some (.int .i64 16224) at k4
  have HW1 := Lib.hid hw1
  have HGS := Lib.hid hg
  have HNM := Lib.hid (named_any 15 3 ⟨#[83, 76, 72, 45, 68, 83, 65, 45, 83, 72, 65, 75, 69, 45]⟩ ⟨#[49, 57, 50, 115]⟩ 48 96 0 16224 w1 (by decide))
  have hnm : (⟨#[83, 76, 72, 45, 68, 83, 65, 45, 83, 72, 65, 75, 69, 45]⟩ : ByteArray) ++ ⟨#[49, 57, 50, 115]⟩ = ⟨#[83, 76, 72, 45, 68, 83, 65, 45, 83, 72, 65, 75, 69, 45, 49, 57, 50, 115]⟩ := by kernel_rfl
  rw [hnm] at HNM
  clear hG hw1 hg hp1 hr1 hnm
  go_enter Tryz.func70, Tryz.ntmps70
  go_upto_region 1 with (fail)
  rw [← HW1.out]
  try rw [HGS.out]
  clear HW1 HGS
  go_wp2_with fail
  refine (HNM.out).mono ?_
  rintro e w2 ⟨rfl, hp⟩
  have H2 : Hid (Past w w2 ∧ Row w2 g 81 zeroC ∧ w.heap.size ≤ g) := Lib.hid ⟨H1.out.1.trans' hp, H1.out.2.1.past hp, H1.out.2.2⟩
  clear hp H1 HNM k0 k1 k2 k3 k4
  go_upto_region 15 with (refine wpList_store_row rfl 81 _ _ rfl _ _ rfl rfl _ _ H2.out.2.1 (resS _ (by rfl)) rfl (by simp [Value.oneCell']) ?_)
  obtain ⟨w3, hw3⟩ : ∃ w3, w2.setRow g #[.int .i64 15, .int .i64 3, .string ⟨#[83, 76, 72, 45, 68, 83, 65, 45, 83, 72, 65, 75, 69, 45, 49, 57, 50, 115]⟩, .int .i64 48, .int .i64 96, .int .i64 0, .int .i64 16224, .slice none 0 0, .int .i64 0, .int .u32 0] = w3 := ⟨_, rfl⟩
  have H3 : Hid (Past w w3 ∧ Row w3 g 81 #[.int .i64 15, .int .i64 3, .string ⟨#[83, 76, 72, 45, 68, 83, 65, 45, 83, 72, 65, 75, 69, 45, 49, 57, 50, 115]⟩, .int .i64 48, .int .i64 96, .int .i64 0, .int .i64 16224, .slice none 0 0, .int .i64 0, .int .u32 0] ∧ w.heap.size ≤ g) := Lib.hid ⟨by rw [← hw3]; exact past_row13 H2.out.1 H2.out.2.2 _, by rw [← hw3]; exact setRow_heap _ _ _ _ _ _ H2.out.2.1, H2.out.2.2⟩
  rw [hw3]
  clear hw3 H2
  have HAF := Lib.hid (afterDSA_any 11 (by omega) w3)
  have hte : befDSA ++ itoB (17 + 11) = ⟨#[50, 46, 49, 54, 46, 56, 52, 48, 46, 49, 46, 49, 48, 49, 46, 51, 46, 52, 46, 51, 46, 50, 56]⟩ := by decide +kernel
  rw [hte] at HAF
  clear hte
  go_wp2_with fail
  refine (HAF.out).mono ?_
  rintro e w4 ⟨rfl, hw4⟩
  rw [hw4]
  clear hw4
  have c8 := H3.out.2.1.cell 8
  have f8 := H3.out.2.1.fr 8
  go_upto_region 20 with (fail)
  obtain ⟨w5, hw5⟩ : ∃ w5, w3.setCell ⟨g, 8, none⟩ (.int .i64 (-59)) = w5 := ⟨_, rfl⟩
  have H5 : Hid (Past w w5 ∧ Row w5 g 81 #[.int .i64 15, .int .i64 3, .string ⟨#[83, 76, 72, 45, 68, 83, 65, 45, 83, 72, 65, 75, 69, 45, 49, 57, 50, 115]⟩, .int .i64 48, .int .i64 96, .int .i64 0, .int .i64 16224, .slice none 0 0, .int .i64 (-59), .int .u32 0] ∧ w.heap.size ≤ g) := Lib.hid ⟨by rw [← hw5]; exact H3.out.1.setCell (by show w.heap.size ≤ g; exact H3.out.2.2) _, by rw [← hw5]; exact H3.out.2.1.set 8 _, H3.out.2.2⟩
  rw [hw5]
  clear hw5 H3 c8 f8
  have hrow := H5.out.2.1
  go_wp2_with (first
    | (refine wpList_load_row rfl 81 _ rfl g rfl _ _ _ _ hrow Tryz.underlying81 rfl (resS _ (by rfl)) ?_)
    | (refine wpList_store_row rfl 81 _ _ rfl g _ rfl rfl _ _ hrow (resS _ (by rfl)) rfl (by simp [Value.oneCell']) ?_))
  refine bodyPost_ret (results_cr rfl _ _ ⟨g, 0, none⟩ _ rfl (load_set _ g _ (setRow_heap _ g _ _ _ _ hrow) (by rfl))) (by rfl) ?_
  exact ⟨by kernel_rfl, past_row13 H5.out.1 H5.out.2.2 _⟩
set_option maxHeartbeats 4000000 in
set_option maxRecDepth 100000 in
theorem row_16 (w : World) (hG : Glob13 w) : Calls Tryz.prog 70 #[.int .i64 16] w (RowP 16 w) := by
  have HG := Lib.hid hG
  obtain ⟨w1, hw1⟩ : ∃ w1, w1 = w.alloc (.cells zeroC 81) := ⟨_, rfl⟩
  obtain ⟨g, hg⟩ : ∃ g, w.heap.size = g := ⟨_, rfl⟩
  have hp1 : Past w w1 := by rw [hw1]; exact past_alloc13 _ _
  have hr1 : Row w1 g 81 zeroC := by rw [hw1, ← hg]; exact Row.new _ _ _
  have H1 : Hid (Past w w1 ∧ Row w1 g 81 zeroC ∧ w.heap.size ≤ g) := Lib.hid ⟨hp1, hr1, by omega⟩
  have k0 := (hG.past hp1).slhAt 15
  have k1 := (hG.past hp1).slhAt 16
  have k2 := (hG.past hp1).slhAt 17
  have k3 := (hG.past hp1).slhAt 18
  have k4 := (hG.past hp1).slhAt 19
  change w1.cell? ⟨2, 15, none⟩ = some (.string ⟨#[49, 57, 50, 102]⟩) at k0
  change w1.cell? ⟨2, 16, none⟩ = some (.int .i64 48) at k1
  change w1.cell? ⟨2, 17, none⟩ = some (.int .i64 96) at k2
  change w1.cell? ⟨2, 18, none⟩ = some (.int .i64 0) at k3
  change w1.cell? ⟨2, 19, none⟩ = some (.int .i64 35664) at k4
  have HW1 := Lib.hid hw1
  have HGS := Lib.hid hg
  have HNM := Lib.hid (named_any 16 3 ⟨#[83, 76, 72, 45, 68, 83, 65, 45, 83, 72, 65, 75, 69, 45]⟩ ⟨#[49, 57, 50, 102]⟩ 48 96 0 35664 w1 (by decide))
  have hnm : (⟨#[83, 76, 72, 45, 68, 83, 65, 45, 83, 72, 65, 75, 69, 45]⟩ : ByteArray) ++ ⟨#[49, 57, 50, 102]⟩ = ⟨#[83, 76, 72, 45, 68, 83, 65, 45, 83, 72, 65, 75, 69, 45, 49, 57, 50, 102]⟩ := by kernel_rfl
  rw [hnm] at HNM
  clear hG hw1 hg hp1 hr1 hnm
  go_enter Tryz.func70, Tryz.ntmps70
  go_upto_region 1 with (fail)
  rw [← HW1.out]
  try rw [HGS.out]
  clear HW1 HGS
  go_wp2_with fail
  refine (HNM.out).mono ?_
  rintro e w2 ⟨rfl, hp⟩
  have H2 : Hid (Past w w2 ∧ Row w2 g 81 zeroC ∧ w.heap.size ≤ g) := Lib.hid ⟨H1.out.1.trans' hp, H1.out.2.1.past hp, H1.out.2.2⟩
  clear hp H1 HNM k0 k1 k2 k3 k4
  go_upto_region 15 with (refine wpList_store_row rfl 81 _ _ rfl _ _ rfl rfl _ _ H2.out.2.1 (resS _ (by rfl)) rfl (by simp [Value.oneCell']) ?_)
  obtain ⟨w3, hw3⟩ : ∃ w3, w2.setRow g #[.int .i64 16, .int .i64 3, .string ⟨#[83, 76, 72, 45, 68, 83, 65, 45, 83, 72, 65, 75, 69, 45, 49, 57, 50, 102]⟩, .int .i64 48, .int .i64 96, .int .i64 0, .int .i64 35664, .slice none 0 0, .int .i64 0, .int .u32 0] = w3 := ⟨_, rfl⟩
  have H3 : Hid (Past w w3 ∧ Row w3 g 81 #[.int .i64 16, .int .i64 3, .string ⟨#[83, 76, 72, 45, 68, 83, 65, 45, 83, 72, 65, 75, 69, 45, 49, 57, 50, 102]⟩, .int .i64 48, .int .i64 96, .int .i64 0, .int .i64 35664, .slice none 0 0, .int .i64 0, .int .u32 0] ∧ w.heap.size ≤ g) := Lib.hid ⟨by rw [← hw3]; exact past_row13 H2.out.1 H2.out.2.2 _, by rw [← hw3]; exact setRow_heap _ _ _ _ _ _ H2.out.2.1, H2.out.2.2⟩
  rw [hw3]
  clear hw3 H2
  have HAF := Lib.hid (afterDSA_any 12 (by omega) w3)
  have hte : befDSA ++ itoB (17 + 12) = ⟨#[50, 46, 49, 54, 46, 56, 52, 48, 46, 49, 46, 49, 48, 49, 46, 51, 46, 52, 46, 51, 46, 50, 57]⟩ := by decide +kernel
  rw [hte] at HAF
  clear hte
  go_wp2_with fail
  refine (HAF.out).mono ?_
  rintro e w4 ⟨rfl, hw4⟩
  rw [hw4]
  clear hw4
  have c8 := H3.out.2.1.cell 8
  have f8 := H3.out.2.1.fr 8
  go_upto_region 20 with (fail)
  obtain ⟨w5, hw5⟩ : ∃ w5, w3.setCell ⟨g, 8, none⟩ (.int .i64 (-60)) = w5 := ⟨_, rfl⟩
  have H5 : Hid (Past w w5 ∧ Row w5 g 81 #[.int .i64 16, .int .i64 3, .string ⟨#[83, 76, 72, 45, 68, 83, 65, 45, 83, 72, 65, 75, 69, 45, 49, 57, 50, 102]⟩, .int .i64 48, .int .i64 96, .int .i64 0, .int .i64 35664, .slice none 0 0, .int .i64 (-60), .int .u32 0] ∧ w.heap.size ≤ g) := Lib.hid ⟨by rw [← hw5]; exact H3.out.1.setCell (by show w.heap.size ≤ g; exact H3.out.2.2) _, by rw [← hw5]; exact H3.out.2.1.set 8 _, H3.out.2.2⟩
  rw [hw5]
  clear hw5 H3 c8 f8
  have hrow := H5.out.2.1
  go_wp2_with (first
    | (refine wpList_load_row rfl 81 _ rfl g rfl _ _ _ _ hrow Tryz.underlying81 rfl (resS _ (by rfl)) ?_)
    | (refine wpList_store_row rfl 81 _ _ rfl g _ rfl rfl _ _ hrow (resS _ (by rfl)) rfl (by simp [Value.oneCell']) ?_))
  refine bodyPost_ret (results_cr rfl _ _ ⟨g, 0, none⟩ _ rfl (load_set _ g _ (setRow_heap _ g _ _ _ _ hrow) (by rfl))) (by rfl) ?_
  exact ⟨by kernel_rfl, past_row13 H5.out.1 H5.out.2.2 _⟩
set_option maxHeartbeats 4000000 in
set_option maxRecDepth 100000 in
theorem row_17 (w : World) (hG : Glob13 w) : Calls Tryz.prog 70 #[.int .i64 17] w (RowP 17 w) := by
  have HG := Lib.hid hG
  obtain ⟨w1, hw1⟩ : ∃ w1, w1 = w.alloc (.cells zeroC 81) := ⟨_, rfl⟩
  obtain ⟨g, hg⟩ : ∃ g, w.heap.size = g := ⟨_, rfl⟩
  have hp1 : Past w w1 := by rw [hw1]; exact past_alloc13 _ _
  have hr1 : Row w1 g 81 zeroC := by rw [hw1, ← hg]; exact Row.new _ _ _
  have H1 : Hid (Past w w1 ∧ Row w1 g 81 zeroC ∧ w.heap.size ≤ g) := Lib.hid ⟨hp1, hr1, by omega⟩
  have k0 := (hG.past hp1).slhAt 20
  have k1 := (hG.past hp1).slhAt 21
  have k2 := (hG.past hp1).slhAt 22
  have k3 := (hG.past hp1).slhAt 23
  have k4 := (hG.past hp1).slhAt 24
  change w1.cell? ⟨2, 20, none⟩ = some (.string ⟨#[50, 53, 54, 115]⟩) at k0
  change w1.cell? ⟨2, 21, none⟩ = some (.int .i64 64) at k1
  change w1.cell? ⟨2, 22, none⟩ = some (.int .i64 128) at k2
  change w1.cell? ⟨2, 23, none⟩ = some (.int .i64 0) at k3
  change w1.cell? ⟨2, 24, none⟩ = some (.int .i64 29792) at k4
  have HW1 := Lib.hid hw1
  have HGS := Lib.hid hg
  have HNM := Lib.hid (named_any 17 3 ⟨#[83, 76, 72, 45, 68, 83, 65, 45, 83, 72, 65, 75, 69, 45]⟩ ⟨#[50, 53, 54, 115]⟩ 64 128 0 29792 w1 (by decide))
  have hnm : (⟨#[83, 76, 72, 45, 68, 83, 65, 45, 83, 72, 65, 75, 69, 45]⟩ : ByteArray) ++ ⟨#[50, 53, 54, 115]⟩ = ⟨#[83, 76, 72, 45, 68, 83, 65, 45, 83, 72, 65, 75, 69, 45, 50, 53, 54, 115]⟩ := by kernel_rfl
  rw [hnm] at HNM
  clear hG hw1 hg hp1 hr1 hnm
  go_enter Tryz.func70, Tryz.ntmps70
  go_upto_region 1 with (fail)
  rw [← HW1.out]
  try rw [HGS.out]
  clear HW1 HGS
  go_wp2_with fail
  refine (HNM.out).mono ?_
  rintro e w2 ⟨rfl, hp⟩
  have H2 : Hid (Past w w2 ∧ Row w2 g 81 zeroC ∧ w.heap.size ≤ g) := Lib.hid ⟨H1.out.1.trans' hp, H1.out.2.1.past hp, H1.out.2.2⟩
  clear hp H1 HNM k0 k1 k2 k3 k4
  go_upto_region 15 with (refine wpList_store_row rfl 81 _ _ rfl _ _ rfl rfl _ _ H2.out.2.1 (resS _ (by rfl)) rfl (by simp [Value.oneCell']) ?_)
  obtain ⟨w3, hw3⟩ : ∃ w3, w2.setRow g #[.int .i64 17, .int .i64 3, .string ⟨#[83, 76, 72, 45, 68, 83, 65, 45, 83, 72, 65, 75, 69, 45, 50, 53, 54, 115]⟩, .int .i64 64, .int .i64 128, .int .i64 0, .int .i64 29792, .slice none 0 0, .int .i64 0, .int .u32 0] = w3 := ⟨_, rfl⟩
  have H3 : Hid (Past w w3 ∧ Row w3 g 81 #[.int .i64 17, .int .i64 3, .string ⟨#[83, 76, 72, 45, 68, 83, 65, 45, 83, 72, 65, 75, 69, 45, 50, 53, 54, 115]⟩, .int .i64 64, .int .i64 128, .int .i64 0, .int .i64 29792, .slice none 0 0, .int .i64 0, .int .u32 0] ∧ w.heap.size ≤ g) := Lib.hid ⟨by rw [← hw3]; exact past_row13 H2.out.1 H2.out.2.2 _, by rw [← hw3]; exact setRow_heap _ _ _ _ _ _ H2.out.2.1, H2.out.2.2⟩
  rw [hw3]
  clear hw3 H2
  have HAF := Lib.hid (afterDSA_any 13 (by omega) w3)
  have hte : befDSA ++ itoB (17 + 13) = ⟨#[50, 46, 49, 54, 46, 56, 52, 48, 46, 49, 46, 49, 48, 49, 46, 51, 46, 52, 46, 51, 46, 51, 48]⟩ := by decide +kernel
  rw [hte] at HAF
  clear hte
  go_wp2_with fail
  refine (HAF.out).mono ?_
  rintro e w4 ⟨rfl, hw4⟩
  rw [hw4]
  clear hw4
  have c8 := H3.out.2.1.cell 8
  have f8 := H3.out.2.1.fr 8
  go_upto_region 20 with (fail)
  obtain ⟨w5, hw5⟩ : ∃ w5, w3.setCell ⟨g, 8, none⟩ (.int .i64 (-61)) = w5 := ⟨_, rfl⟩
  have H5 : Hid (Past w w5 ∧ Row w5 g 81 #[.int .i64 17, .int .i64 3, .string ⟨#[83, 76, 72, 45, 68, 83, 65, 45, 83, 72, 65, 75, 69, 45, 50, 53, 54, 115]⟩, .int .i64 64, .int .i64 128, .int .i64 0, .int .i64 29792, .slice none 0 0, .int .i64 (-61), .int .u32 0] ∧ w.heap.size ≤ g) := Lib.hid ⟨by rw [← hw5]; exact H3.out.1.setCell (by show w.heap.size ≤ g; exact H3.out.2.2) _, by rw [← hw5]; exact H3.out.2.1.set 8 _, H3.out.2.2⟩
  rw [hw5]
  clear hw5 H3 c8 f8
  have hrow := H5.out.2.1
  go_wp2_with (first
    | (refine wpList_load_row rfl 81 _ rfl g rfl _ _ _ _ hrow Tryz.underlying81 rfl (resS _ (by rfl)) ?_)
    | (refine wpList_store_row rfl 81 _ _ rfl g _ rfl rfl _ _ hrow (resS _ (by rfl)) rfl (by simp [Value.oneCell']) ?_))
  refine bodyPost_ret (results_cr rfl _ _ ⟨g, 0, none⟩ _ rfl (load_set _ g _ (setRow_heap _ g _ _ _ _ hrow) (by rfl))) (by rfl) ?_
  exact ⟨by kernel_rfl, past_row13 H5.out.1 H5.out.2.2 _⟩
set_option maxHeartbeats 4000000 in
set_option maxRecDepth 100000 in
theorem row_18 (w : World) (hG : Glob13 w) : Calls Tryz.prog 70 #[.int .i64 18] w (RowP 18 w) := by
  have HG := Lib.hid hG
  obtain ⟨w1, hw1⟩ : ∃ w1, w1 = w.alloc (.cells zeroC 81) := ⟨_, rfl⟩
  obtain ⟨g, hg⟩ : ∃ g, w.heap.size = g := ⟨_, rfl⟩
  have hp1 : Past w w1 := by rw [hw1]; exact past_alloc13 _ _
  have hr1 : Row w1 g 81 zeroC := by rw [hw1, ← hg]; exact Row.new _ _ _
  have H1 : Hid (Past w w1 ∧ Row w1 g 81 zeroC ∧ w.heap.size ≤ g) := Lib.hid ⟨hp1, hr1, by omega⟩
  have k0 := (hG.past hp1).slhAt 25
  have k1 := (hG.past hp1).slhAt 26
  have k2 := (hG.past hp1).slhAt 27
  have k3 := (hG.past hp1).slhAt 28
  have k4 := (hG.past hp1).slhAt 29
  change w1.cell? ⟨2, 25, none⟩ = some (.string ⟨#[50, 53, 54, 102]⟩) at k0
  change w1.cell? ⟨2, 26, none⟩ = some (.int .i64 64) at k1
  change w1.cell? ⟨2, 27, none⟩ = some (.int .i64 128) at k2
  change w1.cell? ⟨2, 28, none⟩ = some (.int .i64 0) at k3
  change w1.cell? ⟨2, 29, none⟩ = some (.int .i64 49856) at k4
  have HW1 := Lib.hid hw1
  have HGS := Lib.hid hg
  have HNM := Lib.hid (named_any 18 3 ⟨#[83, 76, 72, 45, 68, 83, 65, 45, 83, 72, 65, 75, 69, 45]⟩ ⟨#[50, 53, 54, 102]⟩ 64 128 0 49856 w1 (by decide))
  have hnm : (⟨#[83, 76, 72, 45, 68, 83, 65, 45, 83, 72, 65, 75, 69, 45]⟩ : ByteArray) ++ ⟨#[50, 53, 54, 102]⟩ = ⟨#[83, 76, 72, 45, 68, 83, 65, 45, 83, 72, 65, 75, 69, 45, 50, 53, 54, 102]⟩ := by kernel_rfl
  rw [hnm] at HNM
  clear hG hw1 hg hp1 hr1 hnm
  go_enter Tryz.func70, Tryz.ntmps70
  go_upto_region 1 with (fail)
  rw [← HW1.out]
  try rw [HGS.out]
  clear HW1 HGS
  go_wp2_with fail
  refine (HNM.out).mono ?_
  rintro e w2 ⟨rfl, hp⟩
  have H2 : Hid (Past w w2 ∧ Row w2 g 81 zeroC ∧ w.heap.size ≤ g) := Lib.hid ⟨H1.out.1.trans' hp, H1.out.2.1.past hp, H1.out.2.2⟩
  clear hp H1 HNM k0 k1 k2 k3 k4
  go_upto_region 15 with (refine wpList_store_row rfl 81 _ _ rfl _ _ rfl rfl _ _ H2.out.2.1 (resS _ (by rfl)) rfl (by simp [Value.oneCell']) ?_)
  obtain ⟨w3, hw3⟩ : ∃ w3, w2.setRow g #[.int .i64 18, .int .i64 3, .string ⟨#[83, 76, 72, 45, 68, 83, 65, 45, 83, 72, 65, 75, 69, 45, 50, 53, 54, 102]⟩, .int .i64 64, .int .i64 128, .int .i64 0, .int .i64 49856, .slice none 0 0, .int .i64 0, .int .u32 0] = w3 := ⟨_, rfl⟩
  have H3 : Hid (Past w w3 ∧ Row w3 g 81 #[.int .i64 18, .int .i64 3, .string ⟨#[83, 76, 72, 45, 68, 83, 65, 45, 83, 72, 65, 75, 69, 45, 50, 53, 54, 102]⟩, .int .i64 64, .int .i64 128, .int .i64 0, .int .i64 49856, .slice none 0 0, .int .i64 0, .int .u32 0] ∧ w.heap.size ≤ g) := Lib.hid ⟨by rw [← hw3]; exact past_row13 H2.out.1 H2.out.2.2 _, by rw [← hw3]; exact setRow_heap _ _ _ _ _ _ H2.out.2.1, H2.out.2.2⟩
  rw [hw3]
  clear hw3 H2
  have HAF := Lib.hid (afterDSA_any 14 (by omega) w3)
  have hte : befDSA ++ itoB (17 + 14) = ⟨#[50, 46, 49, 54, 46, 56, 52, 48, 46, 49, 46, 49, 48, 49, 46, 51, 46, 52, 46, 51, 46, 51, 49]⟩ := by decide +kernel
  rw [hte] at HAF
  clear hte
  go_wp2_with fail
  refine (HAF.out).mono ?_
  rintro e w4 ⟨rfl, hw4⟩
  rw [hw4]
  clear hw4
  have c8 := H3.out.2.1.cell 8
  have f8 := H3.out.2.1.fr 8
  go_upto_region 20 with (fail)
  obtain ⟨w5, hw5⟩ : ∃ w5, w3.setCell ⟨g, 8, none⟩ (.int .i64 (-62)) = w5 := ⟨_, rfl⟩
  have H5 : Hid (Past w w5 ∧ Row w5 g 81 #[.int .i64 18, .int .i64 3, .string ⟨#[83, 76, 72, 45, 68, 83, 65, 45, 83, 72, 65, 75, 69, 45, 50, 53, 54, 102]⟩, .int .i64 64, .int .i64 128, .int .i64 0, .int .i64 49856, .slice none 0 0, .int .i64 (-62), .int .u32 0] ∧ w.heap.size ≤ g) := Lib.hid ⟨by rw [← hw5]; exact H3.out.1.setCell (by show w.heap.size ≤ g; exact H3.out.2.2) _, by rw [← hw5]; exact H3.out.2.1.set 8 _, H3.out.2.2⟩
  rw [hw5]
  clear hw5 H3 c8 f8
  have hrow := H5.out.2.1
  go_wp2_with (first
    | (refine wpList_load_row rfl 81 _ rfl g rfl _ _ _ _ hrow Tryz.underlying81 rfl (resS _ (by rfl)) ?_)
    | (refine wpList_store_row rfl 81 _ _ rfl g _ rfl rfl _ _ hrow (resS _ (by rfl)) rfl (by simp [Value.oneCell']) ?_))
  refine bodyPost_ret (results_cr rfl _ _ ⟨g, 0, none⟩ _ rfl (load_set _ g _ (setRow_heap _ g _ _ _ _ hrow) (by rfl))) (by rfl) ?_
  exact ⟨by kernel_rfl, past_row13 H5.out.1 H5.out.2.2 _⟩
end Go.Proofs.YteflpbkdnebopaaGreatDoor
