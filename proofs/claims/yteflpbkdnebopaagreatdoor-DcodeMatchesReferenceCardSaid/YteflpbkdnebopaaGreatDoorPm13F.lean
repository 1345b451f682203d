/- The program's function row, algorithm by algorithm (F). -/
import Derived.Test.YteflpbkdnebopaaGreatDoorPm13C
import Derived.Deep.Cut
namespace Go.Proofs.YteflpbkdnebopaaGreatDoor
open Go.RowKit
set_option linter.unusedVariables false

set_option maxHeartbeats 4000000 in
set_option maxRecDepth 100000 in
theorem row_20 (w : World) (hG : Glob13 w) : Calls Tryz.prog 70 #[.int .i64 20] w (RowP 20 w) := by
  have HG := Lib.hid hG
  obtain ⟨w1, hw1⟩ : ∃ w1, w1 = w.alloc (.cells zeroC 81) := ⟨_, rfl⟩
  obtain ⟨g, hg⟩ : ∃ g, w.heap.size = g := ⟨_, rfl⟩
  have hp1 : Past w w1 := by rw [hw1]; exact past_alloc13 _ _
  have hr1 : Row w1 g 81 zeroC := by rw [hw1, ← hg]; exact Row.new _ _ _
  have H1 : Hid (Past w w1 ∧ Row w1 g 81 zeroC ∧ w.heap.size ≤ g) := Lib.hid ⟨hp1, hr1, by omega⟩
  have k0 := (hG.past hp1).xmsAt 0
  have k1 := (hG.past hp1).xmsAt 1
  have k2 := (hG.past hp1).xmsAt 2
  have k3 := (hG.past hp1).xmsAt 3
  have k4 := (hG.past hp1).xmsAt 4
  change w1.cell? ⟨1, 0, none⟩ = some (.string ⟨#[49, 48, 95, 50, 53, 54]⟩) at k0
  change w1.cell? ⟨1, 1, none⟩ = some (.int .i64 68) at k1
  change w1.cell? ⟨1, 2, none⟩ = some (.int .i64 0) at k2
  change w1.cell? ⟨1, 3, none⟩ = some (.int .i64 0) at k3
  change w1.cell? ⟨1, 4, none⟩ = some (.int .i64 2500) at k4
  have HW1 := Lib.hid hw1
  have HGS := Lib.hid hg
  have HNM := Lib.hid (named_any 20 5 ⟨#[88, 77, 83, 83, 45, 83, 72, 65, 50, 95]⟩ ⟨#[49, 48, 95, 50, 53, 54]⟩ 68 0 0 2500 w1 (by decide))
  have hnm : (⟨#[88, 77, 83, 83, 45, 83, 72, 65, 50, 95]⟩ : ByteArray) ++ ⟨#[49, 48, 95, 50, 53, 54]⟩ = ⟨#[88, 77, 83, 83, 45, 83, 72, 65, 50, 95, 49, 48, 95, 50, 53, 54]⟩ := by kernel_rfl
  rw [hnm] at HNM
  clear hG hw1 hg hp1 hr1 hnm
  go_enter Tryz.func70, Tryz.ntmps70
  go_upto_region 1 with (fail)
  rw [← HW1.out]
  try rw [HGS.out]
  clear HW1 HGS
  go_wp2_with fail
  refine (HNM.out).mono ?_
  rintro e w2 ⟨rfl, hp⟩
  have H2 : Hid (Past w w2 ∧ Row w2 g 81 zeroC ∧ w.heap.size ≤ g) := Lib.hid ⟨H1.out.1.trans' hp, H1.out.2.1.past hp, H1.out.2.2⟩
  clear hp H1 HNM k0 k1 k2 k3 k4
  go_upto_region 10 with (refine wpList_store_row rfl 81 _ _ rfl _ _ rfl rfl _ _ H2.out.2.1 (resS _ (by rfl)) rfl (by simp [Value.oneCell']) ?_)
  obtain ⟨w3, hw3⟩ : ∃ w3, w2.setRow g #[.int .i64 20, .int .i64 5, .string ⟨#[88, 77, 83, 83, 45, 83, 72, 65, 50, 95, 49, 48, 95, 50, 53, 54]⟩, .int .i64 68, .int .i64 0, .int .i64 0, .int .i64 2500, .slice none 0 0, .int .i64 0, .int .u32 0] = w3 := ⟨_, rfl⟩
  have H3 : Hid (Past w w3 ∧ Row w3 g 81 #[.int .i64 20, .int .i64 5, .string ⟨#[88, 77, 83, 83, 45, 83, 72, 65, 50, 95, 49, 48, 95, 50, 53, 54]⟩, .int .i64 68, .int .i64 0, .int .i64 0, .int .i64 2500, .slice none 0 0, .int .i64 0, .int .u32 0] ∧ w.heap.size ≤ g) := Lib.hid ⟨by rw [← hw3]; exact past_row13 H2.out.1 H2.out.2.2 _, by rw [← hw3]; exact setRow_heap _ _ _ _ _ _ H2.out.2.1, H2.out.2.2⟩
  rw [hw3]
  clear hw3 H2
  have c8 := H3.out.2.1.cell 9
  have f8 := H3.out.2.1.fr 9
  go_upto_region 20 with (fail)
  obtain ⟨w5, hw5⟩ : ∃ w5, w3.setCell ⟨g, 9, none⟩ (.int .u32 1) = w5 := ⟨_, rfl⟩
  have H5 : Hid (Past w w5 ∧ Row w5 g 81 #[.int .i64 20, .int .i64 5, .string ⟨#[88, 77, 83, 83, 45, 83, 72, 65, 50, 95, 49, 48, 95, 50, 53, 54]⟩, .int .i64 68, .int .i64 0, .int .i64 0, .int .i64 2500, .slice none 0 0, .int .i64 0, .int .u32 1] ∧ w.heap.size ≤ g) := Lib.hid ⟨by rw [← hw5]; exact H3.out.1.setCell (by show w.heap.size ≤ g; exact H3.out.2.2) _, by rw [← hw5]; exact H3.out.2.1.set 9 _, H3.out.2.2⟩
  rw [hw5]
  clear hw5 H3 c8 f8
  have hrow := H5.out.2.1
  go_wp2_with (first
    | (refine wpList_load_row rfl 81 _ rfl g rfl _ _ _ _ hrow Tryz.underlying81 rfl (resS _ (by rfl)) ?_)
    | (refine wpList_store_row rfl 81 _ _ rfl g _ rfl rfl _ _ hrow (resS _ (by rfl)) rfl (by simp [Value.oneCell']) ?_))
  refine bodyPost_ret (results_cr rfl _ _ ⟨g, 0, none⟩ _ rfl (load_set _ g _ (setRow_heap _ g _ _ _ _ hrow) (by rfl))) (by rfl) ?_
  exact ⟨by kernel_rfl, past_row13 H5.out.1 H5.out.2.2 _⟩
set_option maxHeartbeats 4000000 in
set_option maxRecDepth 100000 in
theorem row_21 (w : World) (hG : Glob13 w) : Calls Tryz.prog 70 #[.int .i64 21] w (RowP 21 w) := by
  have HG := Lib.hid hG
  obtain ⟨w1, hw1⟩ : ∃ w1, w1 = w.alloc (.cells zeroC 81) := ⟨_, rfl⟩
  obtain ⟨g, hg⟩ : ∃ g, w.heap.size = g := ⟨_, rfl⟩
  have hp1 : Past w w1 := by rw [hw1]; exact past_alloc13 _ _
  have hr1 : Row w1 g 81 zeroC := by rw [hw1, ← hg]; exact Row.new _ _ _
  have H1 : Hid (Past w w1 ∧ Row w1 g 81 zeroC ∧ w.heap.size ≤ g) := Lib.hid ⟨hp1, hr1, by omega⟩
  have k0 := (hG.past hp1).xmsAt 5
  have k1 := (hG.past hp1).xmsAt 6
  have k2 := (hG.past hp1).xmsAt 7
  have k3 := (hG.past hp1).xmsAt 8
  have k4 := (hG.past hp1).xmsAt 9
  change w1.cell? ⟨1, 5, none⟩ = some (.string ⟨#[49, 54, 95, 50, 53, 54]⟩) at k0
  change w1.cell? ⟨1, 6, none⟩ = some (.int .i64 68) at k1
  change w1.cell? ⟨1, 7, none⟩ = some (.int .i64 0) at k2
  change w1.cell? ⟨1, 8, none⟩ = some (.int .i64 0) at k3
  change w1.cell? ⟨1, 9, none⟩ = some (.int .i64 2692) at k4
  have HW1 := Lib.hid hw1
  have HGS := Lib.hid hg
  have HNM := Lib.hid (named_any 21 5 ⟨#[88, 77, 83, 83, 45, 83, 72, 65, 50, 95]⟩ ⟨#[49, 54, 95, 50, 53, 54]⟩ 68 0 0 2692 w1 (by decide))
  have hnm : (⟨#[88, 77, 83, 83, 45, 83, 72, 65, 50, 95]⟩ : ByteArray) ++ ⟨#[49, 54, 95, 50, 53, 54]⟩ = ⟨#[88, 77, 83, 83, 45, 83, 72, 65, 50, 95, 49, 54, 95, 50, 53, 54]⟩ := by kernel_rfl
  rw [hnm] at HNM
  clear hG hw1 hg hp1 hr1 hnm
  go_enter Tryz.func70, Tryz.ntmps70
  go_upto_region 1 with (fail)
  rw [← HW1.out]
  try rw [HGS.out]
  clear HW1 HGS
  go_wp2_with fail
  refine (HNM.out).mono ?_
  rintro e w2 ⟨rfl, hp⟩
  have H2 : Hid (Past w w2 ∧ Row w2 g 81 zeroC ∧ w.heap.size ≤ g) := Lib.hid ⟨H1.out.1.trans' hp, H1.out.2.1.past hp, H1.out.2.2⟩
  clear hp H1 HNM k0 k1 k2 k3 k4
  go_upto_region 10 with (refine wpList_store_row rfl 81 _ _ rfl _ _ rfl rfl _ _ H2.out.2.1 (resS _ (by rfl)) rfl (by simp [Value.oneCell']) ?_)
  obtain ⟨w3, hw3⟩ : ∃ w3, w2.setRow g #[.int .i64 21, .int .i64 5, .string ⟨#[88, 77, 83, 83, 45, 83, 72, 65, 50, 95, 49, 54, 95, 50, 53, 54]⟩, .int .i64 68, .int .i64 0, .int .i64 0, .int .i64 2692, .slice none 0 0, .int .i64 0, .int .u32 0] = w3 := ⟨_, rfl⟩
  have H3 : Hid (Past w w3 ∧ Row w3 g 81 #[.int .i64 21, .int .i64 5, .string ⟨#[88, 77, 83, 83, 45, 83, 72, 65, 50, 95, 49, 54, 95, 50, 53, 54]⟩, .int .i64 68, .int .i64 0, .int .i64 0, .int .i64 2692, .slice none 0 0, .int .i64 0, .int .u32 0] ∧ w.heap.size ≤ g) := Lib.hid ⟨by rw [← hw3]; exact past_row13 H2.out.1 H2.out.2.2 _, by rw [← hw3]; exact setRow_heap _ _ _ _ _ _ H2.out.2.1, H2.out.2.2⟩
  rw [hw3]
  clear hw3 H2
  have c8 := H3.out.2.1.cell 9
  have f8 := H3.out.2.1.fr 9
  go_upto_region 20 with (fail)
  obtain ⟨w5, hw5⟩ : ∃ w5, w3.setCell ⟨g, 9, none⟩ (.int .u32 2) = w5 := ⟨_, rfl⟩
  have H5 : Hid (Past w w5 ∧ Row w5 g 81 #[.int .i64 21, .int .i64 5, .string ⟨#[88, 77, 83, 83, 45, 83, 72, 65, 50, 95, 49, 54, 95, 50, 53, 54]⟩, .int .i64 68, .int .i64 0, .int .i64 0, .int .i64 2692, .slice none 0 0, .int .i64 0, .int .u32 2] ∧ w.heap.size ≤ g) := Lib.hid ⟨by rw [← hw5]; exact H3.out.1.setCell (by show w.heap.size ≤ g; exact H3.out.2.2) _, by rw [← hw5]; exact H3.out.2.1.set 9 _, H3.out.2.2⟩
  rw [hw5]
  clear hw5 H3 c8 f8
  have hrow := H5.out.2.1
  go_wp2_with (first
    | (refine wpList_load_row rfl 81 _ rfl g rfl _ _ _ _ hrow Tryz.underlying81 rfl (resS _ (by rfl)) ?_)
    | (refine wpList_store_row rfl 81 _ _ rfl g _ rfl rfl _ _ hrow (resS _ (by rfl)) rfl (by simp [Value.oneCell']) ?_))
  refine bodyPost_ret (results_cr rfl _ _ ⟨g, 0, none⟩ _ rfl (load_set _ g _ (setRow_heap _ g _ _ _ _ hrow) (by rfl))) (by rfl) ?_
  exact ⟨by kernel_rfl, past_row13 H5.out.1 H5.out.2.2 _⟩
set_option maxHeartbeats 4000000 in
set_option maxRecDepth 100000 in
theorem row_22 (w : World) (hG : Glob13 w) : Calls Tryz.prog 70 #[.int .i64 22] w (RowP 22 w) := by
  have HG := Lib.hid hG
  obtain ⟨w1, hw1⟩ : ∃ w1, w1 = w.alloc (.cells zeroC 81) := ⟨_, rfl⟩
  obtain ⟨g, hg⟩ : ∃ g, w.heap.size = g := ⟨_, rfl⟩
  have hp1 : Past w w1 := by rw [hw1]; exact past_alloc13 _ _
  have hr1 : Row w1 g 81 zeroC := by rw [hw1, ← hg]; exact Row.new _ _ _
  have H1 : Hid (Past w w1 ∧ Row w1 g 81 zeroC ∧ w.heap.size ≤ g) := Lib.hid ⟨hp1, hr1, by omega⟩
  have k0 := (hG.past hp1).xmsAt 10
  have k1 := (hG.past hp1).xmsAt 11
  have k2 := (hG.past hp1).xmsAt 12
  have k3 := (hG.past hp1).xmsAt 13
  have k4 := (hG.past hp1).xmsAt 14
  change w1.cell? ⟨1, 10, none⟩ = some (.string ⟨#[50, 48, 95, 50, 53, 54]⟩) at k0
  change w1.cell? ⟨1, 11, none⟩ = some (.int .i64 68) at k1
  change w1.cell? ⟨1, 12, none⟩ = some (.int .i64 0) at k2
  change w1.cell? ⟨1, 13, none⟩ = some (.int .i64 0) at k3
  change w1.cell? ⟨1, 14, none⟩ = some (.int .i64 2820) at k4
  have HW1 := Lib.hid hw1
  have HGS := Lib.hid hg
  have HNM := Lib.hid (named_any 22 5 ⟨#[88, 77, 83, 83, 45, 83, 72, 65, 50, 95]⟩ ⟨#[50, 48, 95, 50, 53, 54]⟩ 68 0 0 2820 w1 (by decide))
  have hnm : (⟨#[88, 77, 83, 83, 45, 83, 72, 65, 50, 95]⟩ : ByteArray) ++ ⟨#[50, 48, 95, 50, 53, 54]⟩ = ⟨#[88, 77, 83, 83, 45, 83, 72, 65, 50, 95, 50, 48, 95, 50, 53, 54]⟩ := by kernel_rfl
  rw [hnm] at HNM
  clear hG hw1 hg hp1 hr1 hnm
  go_enter Tryz.func70, Tryz.ntmps70
  go_upto_region 1 with (fail)
  rw [← HW1.out]
  try rw [HGS.out]
  clear HW1 HGS
  go_wp2_with fail
  refine (HNM.out).mono ?_
  rintro e w2 ⟨rfl, hp⟩
  have H2 : Hid (Past w w2 ∧ Row w2 g 81 zeroC ∧ w.heap.size ≤ g) := Lib.hid ⟨H1.out.1.trans' hp, H1.out.2.1.past hp, H1.out.2.2⟩
  clear hp H1 HNM k0 k1 k2 k3 k4
  go_upto_region 10 with (refine wpList_store_row rfl 81 _ _ rfl _ _ rfl rfl _ _ H2.out.2.1 (resS _ (by rfl)) rfl (by simp [Value.oneCell']) ?_)
  obtain ⟨w3, hw3⟩ : ∃ w3, w2.setRow g #[.int .i64 22, .int .i64 5, .string ⟨#[88, 77, 83, 83, 45, 83, 72, 65, 50, 95, 50, 48, 95, 50, 53, 54]⟩, .int .i64 68, .int .i64 0, .int .i64 0, .int .i64 2820, .slice none 0 0, .int .i64 0, .int .u32 0] = w3 := ⟨_, rfl⟩
  have H3 : Hid (Past w w3 ∧ Row w3 g 81 #[.int .i64 22, .int .i64 5, .string ⟨#[88, 77, 83, 83, 45, 83, 72, 65, 50, 95, 50, 48, 95, 50, 53, 54]⟩, .int .i64 68, .int .i64 0, .int .i64 0, .int .i64 2820, .slice none 0 0, .int .i64 0, .int .u32 0] ∧ w.heap.size ≤ g) := Lib.hid ⟨by rw [← hw3]; exact past_row13 H2.out.1 H2.out.2.2 _, by rw [← hw3]; exact setRow_heap _ _ _ _ _ _ H2.out.2.1, H2.out.2.2⟩
  rw [hw3]
  clear hw3 H2
  have c8 := H3.out.2.1.cell 9
  have f8 := H3.out.2.1.fr 9
  go_upto_region 20 with (fail)
  obtain ⟨w5, hw5⟩ : ∃ w5, w3.setCell ⟨g, 9, none⟩ (.int .u32 3) = w5 := ⟨_, rfl⟩
  have H5 : Hid (Past w w5 ∧ Row w5 g 81 #[.int .i64 22, .int .i64 5, .string ⟨#[88, 77, 83, 83, 45, 83, 72, 65, 50, 95, 50, 48, 95, 50, 53, 54]⟩, .int .i64 68, .int .i64 0, .int .i64 0, .int .i64 2820, .slice none 0 0, .int .i64 0, .int .u32 3] ∧ w.heap.size ≤ g) := Lib.hid ⟨by rw [← hw5]; exact H3.out.1.setCell (by show w.heap.size ≤ g; exact H3.out.2.2) _, by rw [← hw5]; exact H3.out.2.1.set 9 _, H3.out.2.2⟩
  rw [hw5]
  clear hw5 H3 c8 f8
  have hrow := H5.out.2.1
  go_wp2_with (first
    | (refine wpList_load_row rfl 81 _ rfl g rfl _ _ _ _ hrow Tryz.underlying81 rfl (resS _ (by rfl)) ?_)
    | (refine wpList_store_row rfl 81 _ _ rfl g _ rfl rfl _ _ hrow (resS _ (by rfl)) rfl (by simp [Value.oneCell']) ?_))
  refine bodyPost_ret (results_cr rfl _ _ ⟨g, 0, none⟩ _ rfl (load_set _ g _ (setRow_heap _ g _ _ _ _ hrow) (by rfl))) (by rfl) ?_
  exact ⟨by kernel_rfl, past_row13 H5.out.1 H5.out.2.2 _⟩
set_option maxHeartbeats 4000000 in
set_option maxRecDepth 100000 in
theorem row_23 (w : World) (hG : Glob13 w) : Calls Tryz.prog 70 #[.int .i64 23] w (RowP 23 w) := by
  have HG := Lib.hid hG
  obtain ⟨w1, hw1⟩ : ∃ w1, w1 = w.alloc (.cells zeroC 81) := ⟨_, rfl⟩
  obtain ⟨g, hg⟩ : ∃ g, w.heap.size = g := ⟨_, rfl⟩
  have hp1 : Past w w1 := by rw [hw1]; exact past_alloc13 _ _
  have hr1 : Row w1 g 81 zeroC := by rw [hw1, ← hg]; exact Row.new _ _ _
  have H1 : Hid (Past w w1 ∧ Row w1 g 81 zeroC ∧ w.heap.size ≤ g) := Lib.hid ⟨hp1, hr1, by omega⟩
  have k0 := (hG.past hp1).xmsAt 15
  have k1 := (hG.past hp1).xmsAt 16
  have k2 := (hG.past hp1).xmsAt 17
  have k3 := (hG.past hp1).xmsAt 18
  have k4 := (hG.past hp1).xmsAt 19
  change w1.cell? ⟨1, 15, none⟩ = some (.string ⟨#[49, 48, 95, 53, 49, 50]⟩) at k0
  change w1.cell? ⟨1, 16, none⟩ = some (.int .i64 132) at k1
  change w1.cell? ⟨1, 17, none⟩ = some (.int .i64 0) at k2
  change w1.cell? ⟨1, 18, none⟩ = some (.int .i64 0) at k3
  change w1.cell? ⟨1, 19, none⟩ = some (.int .i64 9092) at k4
  have HW1 := Lib.hid hw1
  have HGS := Lib.hid hg
  have HNM := Lib.hid (named_any 23 5 ⟨#[88, 77, 83, 83, 45, 83, 72, 65, 50, 95]⟩ ⟨#[49, 48, 95, 53, 49, 50]⟩ 132 0 0 9092 w1 (by decide))
  have hnm : (⟨#[88, 77, 83, 83, 45, 83, 72, 65, 50, 95]⟩ : ByteArray) ++ ⟨#[49, 48, 95, 53, 49, 50]⟩ = ⟨#[88, 77, 83, 83, 45, 83, 72, 65, 50, 95, 49, 48, 95, 53, 49, 50]⟩ := by kernel_rfl
  rw [hnm] at HNM
  clear hG hw1 hg hp1 hr1 hnm
  go_enter Tryz.func70, Tryz.ntmps70
  go_upto_region 1 with (fail)
  rw [← HW1.out]
  try rw [HGS.out]
  clear HW1 HGS
  go_wp2_with fail
  refine (HNM.out).mono ?_
  rintro e w2 ⟨rfl, hp⟩
  have H2 : Hid (Past w w2 ∧ Row w2 g 81 zeroC ∧ w.heap.size ≤ g) := Lib.hid ⟨H1.out.1.trans' hp, H1.out.2.1.past hp, H1.out.2.2⟩
  clear hp H1 HNM k0 k1 k2 k3 k4
  go_upto_region 10 with (refine wpList_store_row rfl 81 _ _ rfl _ _ rfl rfl _ _ H2.out.2.1 (resS _ (by rfl)) rfl (by simp [Value.oneCell']) ?_)
  obtain ⟨w3, hw3⟩ : ∃ w3, w2.setRow g #[.int .i64 23, .int .i64 5, .string ⟨#[88, 77, 83, 83, 45, 83, 72, 65, 50, 95, 49, 48, 95, 53, 49, 50]⟩, .int .i64 132, .int .i64 0, .int .i64 0, .int .i64 9092, .slice none 0 0, .int .i64 0, .int .u32 0] = w3 := ⟨_, rfl⟩
  have H3 : Hid (Past w w3 ∧ Row w3 g 81 #[.int .i64 23, .int .i64 5, .string ⟨#[88, 77, 83, 83, 45, 83, 72, 65, 50, 95, 49, 48, 95, 53, 49, 50]⟩, .int .i64 132, .int .i64 0, .int .i64 0, .int .i64 9092, .slice none 0 0, .int .i64 0, .int .u32 0] ∧ w.heap.size ≤ g) := Lib.hid ⟨by rw [← hw3]; exact past_row13 H2.out.1 H2.out.2.2 _, by rw [← hw3]; exact setRow_heap _ _ _ _ _ _ H2.out.2.1, H2.out.2.2⟩
  rw [hw3]
  clear hw3 H2
  have c8 := H3.out.2.1.cell 9
  have f8 := H3.out.2.1.fr 9
  go_upto_region 20 with (fail)
  obtain ⟨w5, hw5⟩ : ∃ w5, w3.setCell ⟨g, 9, none⟩ (.int .u32 4) = w5 := ⟨_, rfl⟩
  have H5 : Hid (Past w w5 ∧ Row w5 g 81 #[.int .i64 23, .int .i64 5, .string ⟨#[88, 77, 83, 83, 45, 83, 72, 65, 50, 95, 49, 48, 95, 53, 49, 50]⟩, .int .i64 132, .int .i64 0, .int .i64 0, .int .i64 9092, .slice none 0 0, .int .i64 0, .int .u32 4] ∧ w.heap.size ≤ g) := Lib.hid ⟨by rw [← hw5]; exact H3.out.1.setCell (by show w.heap.size ≤ g; exact H3.out.2.2) _, by rw [← hw5]; exact H3.out.2.1.set 9 _, H3.out.2.2⟩
  rw [hw5]
  clear hw5 H3 c8 f8
  have hrow := H5.out.2.1
  go_wp2_with (first
    | (refine wpList_load_row rfl 81 _ rfl g rfl _ _ _ _ hrow Tryz.underlying81 rfl (resS _ (by rfl)) ?_)
    | (refine wpList_store_row rfl 81 _ _ rfl g _ rfl rfl _ _ hrow (resS _ (by rfl)) rfl (by simp [Value.oneCell']) ?_))
  refine bodyPost_ret (results_cr rfl _ _ ⟨g, 0, none⟩ _ rfl (load_set _ g _ (setRow_heap _ g _ _ _ _ hrow) (by rfl))) (by rfl) ?_
  exact ⟨by kernel_rfl, past_row13 H5.out.1 H5.out.2.2 _⟩
set_option maxHeartbeats 4000000 in
set_option maxRecDepth 100000 in
theorem row_24 (w : World) (hG : Glob13 w) : Calls Tryz.prog 70 #[.int .i64 24] w (RowP 24 w) := by
  have HG := Lib.hid hG
  obtain ⟨w1, hw1⟩ : ∃ w1, w1 = w.alloc (.cells zeroC 81) := ⟨_, rfl⟩
  obtain ⟨g, hg⟩ : ∃ g, w.heap.size = g := ⟨_, rfl⟩
  have hp1 : Past w w1 := by rw [hw1]; exact past_alloc13 _ _
  have hr1 : Row w1 g 81 zeroC := by rw [hw1, ← hg]; exact Row.new _ _ _
  have H1 : Hid (Past w w1 ∧ Row w1 g 81 zeroC ∧ w.heap.size ≤ g) := Lib.hid ⟨hp1, hr1, by omega⟩
  have k0 := (hG.past hp1).xmsAt 20
  have k1 := (hG.past hp1).xmsAt 21
  have k2 := (hG.past hp1).xmsAt 22
  have k3 := (hG.past hp1).xmsAt 23
  have k4 := (hG.past hp1).xmsAt 24
  change w1.cell? ⟨1, 20, none⟩ = some (.string ⟨#[49, 54, 95, 53, 49, 50]⟩) at k0
  change w1.cell? ⟨1, 21, none⟩ = some (.int .i64 132) at k1
  change w1.cell? ⟨1, 22, none⟩ = some (.int .i64 0) at k2
  change w1.cell? ⟨1, 23, none⟩ = some (.int .i64 0) at k3
  change w1.cell? ⟨1, 24, none⟩ = some (.int .i64 9476) at k4
  have HW1 := Lib.hid hw1
  have HGS := Lib.hid hg
  have HNM := Lib.hid (named_any 24 5 ⟨#[88, 77, 83, 83, 45, 83, 72, 65, 50, 95]⟩ ⟨#[49, 54, 95, 53, 49, 50]⟩ 132 0 0 9476 w1 (by decide))
  have hnm : (⟨#[88, 77, 83, 83, 45, 83, 72, 65, 50, 95]⟩ : ByteArray) ++ ⟨#[49, 54, 95, 53, 49, 50]⟩ = ⟨#[88, 77, 83, 83, 45, 83, 72, 65, 50, 95, 49, 54, 95, 53, 49, 50]⟩ := by kernel_rfl
  rw [hnm] at HNM
  clear hG hw1 hg hp1 hr1 hnm
  go_enter Tryz.func70, Tryz.ntmps70
  go_upto_region 1 with (fail)
  rw [← HW1.out]
  try rw [HGS.out]
  clear HW1 HGS
  go_wp2_with fail
  refine (HNM.out).mono ?_
  rintro e w2 ⟨rfl, hp⟩
  have H2 : Hid (Past w w2 ∧ Row w2 g 81 zeroC ∧ w.heap.size ≤ g) := Lib.hid ⟨H1.out.1.trans' hp, H1.out.2.1.past hp, H1.out.2.2⟩
  clear hp H1 HNM k0 k1 k2 k3 k4
  go_upto_region 10 with (refine wpList_store_row rfl 81 _ _ rfl _ _ rfl rfl _ _ H2.out.2.1 (resS _ (by rfl)) rfl (by simp [Value.oneCell']) ?_)
  obtain ⟨w3, hw3⟩ : ∃ w3, w2.setRow g #[.int .i64 24, .int .i64 5, .string ⟨#[88, 77, 83, 83, 45, 83, 72, 65, 50, 95, 49, 54, 95, 53, 49, 50]⟩, .int .i64 132, .int .i64 0, .int .i64 0, .int .i64 9476, .slice none 0 0, .int .i64 0, .int .u32 0] = w3 := ⟨_, rfl⟩
  have H3 : Hid (Past w w3 ∧ Row w3 g 81 #[.int .i64 24, .int .i64 5, .string ⟨#[88, 77, 83, 83, 45, 83, 72, 65, 50, 95, 49, 54, 95, 53, 49, 50]⟩, .int .i64 132, .int .i64 0, .int .i64 0, .int .i64 9476, .slice none 0 0, .int .i64 0, .int .u32 0] ∧ w.heap.size ≤ g) := Lib.hid ⟨by rw [← hw3]; exact past_row13 H2.out.1 H2.out.2.2 _, by rw [← hw3]; exact setRow_heap _ _ _ _ _ _ H2.out.2.1, H2.out.2.2⟩
  rw [hw3]
  clear hw3 H2
  have c8 := H3.out.2.1.cell 9
  have f8 := H3.out.2.1.fr 9
  go_upto_region 20 with (fail)
  obtain ⟨w5, hw5⟩ : ∃ w5, w3.setCell ⟨g, 9, none⟩ (.int .u32 5) = w5 := ⟨_, rfl⟩
  have H5 : Hid (Past w w5 ∧ Row w5 g 81 #[.int .i64 24, .int .i64 5, .string ⟨#[88, 77, 83, 83, 45, 83, 72, 65, 50, 95, 49, 54, 95, 53, 49, 50]⟩, .int .i64 132, .int .i64 0, .int .i64 0, .int .i64 9476, .slice none 0 0, .int .i64 0, .int .u32 5] ∧ w.heap.size ≤ g) := Lib.hid ⟨by rw [← hw5]; exact H3.out.1.setCell (by show w.heap.size ≤ g; exact H3.out.2.2) _, by rw [← hw5]; exact H3.out.2.1.set 9 _, H3.out.2.2⟩
  rw [hw5]
  clear hw5 H3 c8 f8
  have hrow := H5.out.2.1
  go_wp2_with (first
    | (refine wpList_load_row rfl 81 _ rfl g rfl _ _ _ _ hrow Tryz.underlying81 rfl (resS _ (by rfl)) ?_)
    | (refine wpList_store_row rfl 81 _ _ rfl g _ rfl rfl _ _ hrow (resS _ (by rfl)) rfl (by simp [Value.oneCell']) ?_))
  refine bodyPost_ret (results_cr rfl _ _ ⟨g, 0, none⟩ _ rfl (load_set _ g _ (setRow_heap _ g _ _ _ _ hrow) (by rfl))) (by rfl) ?_
  exact ⟨by kernel_rfl, past_row13 H5.out.1 H5.out.2.2 _⟩
set_option maxHeartbeats 4000000 in
set_option maxRecDepth 100000 in
theorem row_25 (w : World) (hG : Glob13 w) : Calls Tryz.prog 70 #[.int .i64 25] w (RowP 25 w) := by
  have HG := Lib.hid hG
  obtain ⟨w1, hw1⟩ : ∃ w1, w1 = w.alloc (.cells zeroC 81) := ⟨_, rfl⟩
  obtain ⟨g, hg⟩ : ∃ g, w.heap.size = g := ⟨_, rfl⟩
  have hp1 : Past w w1 := by rw [hw1]; exact past_alloc13 _ _
  have hr1 : Row w1 g 81 zeroC := by rw [hw1, ← hg]; exact Row.new _ _ _
  have H1 : Hid (Past w w1 ∧ Row w1 g 81 zeroC ∧ w.heap.size ≤ g) := Lib.hid ⟨hp1, hr1, by omega⟩
  have k0 := (hG.past hp1).xmsAt 25
  have k1 := (hG.past hp1).xmsAt 26
  have k2 := (hG.past hp1).xmsAt 27
  have k3 := (hG.past hp1).xmsAt 28
  have k4 := (hG.past hp1).xmsAt 29
  change w1.cell? ⟨1, 25, none⟩ = some (.string ⟨#[50, 48, 95, 53, 49, 50]⟩) at k0
  change w1.cell? ⟨1, 26, none⟩ = some (.int .i64 132) at k1
  change w1.cell? ⟨1, 27, none⟩ = some (.int .i64 0) at k2
  change w1.cell? ⟨1, 28, none⟩ = some (.int .i64 0) at k3
  change w1.cell? ⟨1, 29, none⟩ = some (.int .i64 9732) at k4
  have HW1 := Lib.hid hw1
  have HGS := Lib.hid hg
  have HNM := Lib.hid (named_any 25 5 ⟨#[88, 77, 83, 83, 45, 83, 72, 65, 50, 95]⟩ ⟨#[50, 48, 95, 53, 49, 50]⟩ 132 0 0 9732 w1 (by decide))
  have hnm : (⟨#[88, 77, 83, 83, 45, 83, 72, 65, 50, 95]⟩ : ByteArray) ++ ⟨#[50, 48, 95, 53, 49, 50]⟩ = ⟨#[88, 77, 83, 83, 45, 83, 72, 65, 50, 95, 50, 48, 95, 53, 49, 50]⟩ := by kernel_rfl
  rw [hnm] at HNM
  clear hG hw1 hg hp1 hr1 hnm
  go_enter Tryz.func70, Tryz.ntmps70
  go_upto_region 1 with (fail)
  rw [← HW1.out]
  try rw [HGS.out]
  clear HW1 HGS
  go_wp2_with fail
  refine (HNM.out).mono ?_
  rintro e w2 ⟨rfl, hp⟩
  have H2 : Hid (Past w w2 ∧ Row w2 g 81 zeroC ∧ w.heap.size ≤ g) := Lib.hid ⟨H1.out.1.trans' hp, H1.out.2.1.past hp, H1.out.2.2⟩
  clear hp H1 HNM k0 k1 k2 k3 k4
  go_upto_region 10 with (refine wpList_store_row rfl 81 _ _ rfl _ _ rfl rfl _ _ H2.out.2.1 (resS _ (by rfl)) rfl (by simp [Value.oneCell']) ?_)
  obtain ⟨w3, hw3⟩ : ∃ w3, w2.setRow g #[.int .i64 25, .int .i64 5, .string ⟨#[88, 77, 83, 83, 45, 83, 72, 65, 50, 95, 50, 48, 95, 53, 49, 50]⟩, .int .i64 132, .int .i64 0, .int .i64 0, .int .i64 9732, .slice none 0 0, .int .i64 0, .int .u32 0] = w3 := ⟨_, rfl⟩
  have H3 : Hid (Past w w3 ∧ Row w3 g 81 #[.int .i64 25, .int .i64 5, .string ⟨#[88, 77, 83, 83, 45, 83, 72, 65, 50, 95, 50, 48, 95, 53, 49, 50]⟩, .int .i64 132, .int .i64 0, .int .i64 0, .int .i64 9732, .slice none 0 0, .int .i64 0, .int .u32 0] ∧ w.heap.size ≤ g) := Lib.hid ⟨by rw [← hw3]; exact past_row13 H2.out.1 H2.out.2.2 _, by rw [← hw3]; exact setRow_heap _ _ _ _ _ _ H2.out.2.1, H2.out.2.2⟩
  rw [hw3]
  clear hw3 H2
  have c8 := H3.out.2.1.cell 9
  have f8 := H3.out.2.1.fr 9
  go_upto_region 20 with (fail)
  obtain ⟨w5, hw5⟩ : ∃ w5, w3.setCell ⟨g, 9, none⟩ (.int .u32 6) = w5 := ⟨_, rfl⟩
  have H5 : Hid (Past w w5 ∧ Row w5 g 81 #[.int .i64 25, .int .i64 5, .string ⟨#[88, 77, 83, 83, 45, 83, 72, 65, 50, 95, 50, 48, 95, 53, 49, 50]⟩, .int .i64 132, .int .i64 0, .int .i64 0, .int .i64 9732, .slice none 0 0, .int .i64 0, .int .u32 6] ∧ w.heap.size ≤ g) := Lib.hid ⟨by rw [← hw5]; exact H3.out.1.setCell (by show w.heap.size ≤ g; exact H3.out.2.2) _, by rw [← hw5]; exact H3.out.2.1.set 9 _, H3.out.2.2⟩
  rw [hw5]
  clear hw5 H3 c8 f8
  have hrow := H5.out.2.1
  go_wp2_with (first
    | (refine wpList_load_row rfl 81 _ rfl g rfl _ _ _ _ hrow Tryz.underlying81 rfl (resS _ (by rfl)) ?_)
    | (refine wpList_store_row rfl 81 _ _ rfl g _ rfl rfl _ _ hrow (resS _ (by rfl)) rfl (by simp [Value.oneCell']) ?_))
  refine bodyPost_ret (results_cr rfl _ _ ⟨g, 0, none⟩ _ rfl (load_set _ g _ (setRow_heap _ g _ _ _ _ hrow) (by rfl))) (by rfl) ?_
  exact ⟨by kernel_rfl, past_row13 H5.out.1 H5.out.2.2 _⟩
end Go.Proofs.YteflpbkdnebopaaGreatDoor
