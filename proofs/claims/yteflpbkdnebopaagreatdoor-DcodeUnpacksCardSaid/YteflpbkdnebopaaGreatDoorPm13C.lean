/- The program's function row, algorithm by algorithm (C). -/
import Derived.Test.YteflpbkdnebopaaGreatDoorPm13A
import Derived.Deep.Cut
namespace Go.Proofs.YteflpbkdnebopaaGreatDoor
open Go.RowKit
set_option linter.unusedVariables false

/-- What row answers. -/
def RowP (a : Int) (w : World) (e : Ending) (w' : World) : Prop := e = .returned (.tuple #[setV (row13 a) (.slice none 0 0), .string (row13 a).text]) ∧ Past w w'

set_option maxHeartbeats 4000000 in
set_option maxRecDepth 100000 in
theorem row_1 (w : World) (hG : Glob13 w) : Calls Tryz.prog 70 #[.int .i64 1] w (RowP 1 w) := by
  have HG := Lib.hid hG
  obtain ⟨w1, hw1⟩ : ∃ w1, w1 = w.alloc (.cells zeroC 81) := ⟨_, rfl⟩
  obtain ⟨g, hg⟩ : ∃ g, w.heap.size = g := ⟨_, rfl⟩
  have hp1 : Past w w1 := by rw [hw1]; exact past_alloc13 _ _
  have hr1 : Row w1 g 81 zeroC := by rw [hw1, ← hg]; exact Row.new _ _ _
  have H1 : Hid (Past w w1 ∧ Row w1 g 81 zeroC ∧ w.heap.size ≤ g) := Lib.hid ⟨hp1, hr1, by omega⟩
  have k0 := (hG.past hp1).kemAt 0
  have k1 := (hG.past hp1).kemAt 1
  have k2 := (hG.past hp1).kemAt 2
  have k3 := (hG.past hp1).kemAt 3
  have k4 := (hG.past hp1).kemAt 4
  change w1.cell? ⟨4, 0, none⟩ = some (.string ⟨#[53, 49, 50]⟩) at k0
  change w1.cell? ⟨4, 1, none⟩ = some (.int .i64 800) at k1
  change w1.cell? ⟨4, 2, none⟩ = some (.int .i64 1632) at k2
  change w1.cell? ⟨4, 3, none⟩ = some (.int .i64 64) at k3
  change w1.cell? ⟨4, 4, none⟩ = some (.int .i64 0) at k4
  have HW1 := Lib.hid hw1
  have HGS := Lib.hid hg
  have HNM := Lib.hid (named_any 1 1 ⟨#[77, 76, 45, 75, 69, 77, 45]⟩ ⟨#[53, 49, 50]⟩ 800 1632 64 0 w1 (by decide))
  have hnm : (⟨#[77, 76, 45, 75, 69, 77, 45]⟩ : ByteArray) ++ ⟨#[53, 49, 50]⟩ = ⟨#[77, 76, 45, 75, 69, 77, 45, 53, 49, 50]⟩ := by kernel_rfl
  rw [hnm] at HNM
  clear hG hw1 hg hp1 hr1 hnm
  go_enter Tryz.func70, Tryz.ntmps70
  go_upto_region 1 with (fail)
  rw [← HW1.out]
  try rw [HGS.out]
  clear HW1 HGS
  go_wp2_with fail
  refine (HNM.out).mono ?_
  rintro e w2 ⟨rfl, hp⟩
  have H2 : Hid (Past w w2 ∧ Row w2 g 81 zeroC ∧ w.heap.size ≤ g) := Lib.hid ⟨H1.out.1.trans' hp, H1.out.2.1.past hp, H1.out.2.2⟩
  clear hp H1 HNM k0 k1 k2 k3 k4
  go_upto_region 19 with (refine wpList_store_row rfl 81 _ _ rfl _ _ rfl rfl _ _ H2.out.2.1 (resS _ (by rfl)) rfl (by simp [Value.oneCell']) ?_)
  obtain ⟨w3, hw3⟩ : ∃ w3, w2.setRow g #[.int .i64 1, .int .i64 1, .string ⟨#[77, 76, 45, 75, 69, 77, 45, 53, 49, 50]⟩, .int .i64 800, .int .i64 1632, .int .i64 64, .int .i64 0, .slice none 0 0, .int .i64 0, .int .u32 0] = w3 := ⟨_, rfl⟩
  have H3 : Hid (Past w w3 ∧ Row w3 g 81 #[.int .i64 1, .int .i64 1, .string ⟨#[77, 76, 45, 75, 69, 77, 45, 53, 49, 50]⟩, .int .i64 800, .int .i64 1632, .int .i64 64, .int .i64 0, .slice none 0 0, .int .i64 0, .int .u32 0] ∧ w.heap.size ≤ g) := Lib.hid ⟨by rw [← hw3]; exact past_row13 H2.out.1 H2.out.2.2 _, by rw [← hw3]; exact setRow_heap _ _ _ _ _ _ H2.out.2.1, H2.out.2.2⟩
  rw [hw3]
  clear hw3 H2
  have HAF := Lib.hid (afterKEM_any 0 (by omega) w3)
  have hte : befKEM ++ itoB (1 + 0) = ⟨#[50, 46, 49, 54, 46, 56, 52, 48, 46, 49, 46, 49, 48, 49, 46, 51, 46, 52, 46, 52, 46, 49]⟩ := by decide +kernel
  rw [hte] at HAF
  clear hte
  go_wp2_with fail
  refine (HAF.out).mono ?_
  rintro e w4 ⟨rfl, hw4⟩
  rw [hw4]
  clear hw4
  have c8 := H3.out.2.1.cell 8
  have f8 := H3.out.2.1.fr 8
  go_upto_region 20 with (fail)
  obtain ⟨w5, hw5⟩ : ∃ w5, w3.setCell ⟨g, 8, none⟩ (.int .i64 (-111)) = w5 := ⟨_, rfl⟩
  have H5 : Hid (Past w w5 ∧ Row w5 g 81 #[.int .i64 1, .int .i64 1, .string ⟨#[77, 76, 45, 75, 69, 77, 45, 53, 49, 50]⟩, .int .i64 800, .int .i64 1632, .int .i64 64, .int .i64 0, .slice none 0 0, .int .i64 (-111), .int .u32 0] ∧ w.heap.size ≤ g) := Lib.hid ⟨by rw [← hw5]; exact H3.out.1.setCell (by show w.heap.size ≤ g; exact H3.out.2.2) _, by rw [← hw5]; exact H3.out.2.1.set 8 _, H3.out.2.2⟩
  rw [hw5]
  clear hw5 H3 c8 f8
  have hrow := H5.out.2.1
  go_wp2_with (first
    | (refine wpList_load_row rfl 81 _ rfl g rfl _ _ _ _ hrow Tryz.underlying81 rfl (resS _ (by rfl)) ?_)
    | (refine wpList_store_row rfl 81 _ _ rfl g _ rfl rfl _ _ hrow (resS _ (by rfl)) rfl (by simp [Value.oneCell']) ?_))
  refine bodyPost_ret (results_cr rfl _ _ ⟨g, 0, none⟩ _ rfl (load_set _ g _ (setRow_heap _ g _ _ _ _ hrow) (by rfl))) (by rfl) ?_
  exact ⟨by kernel_rfl, past_row13 H5.out.1 H5.out.2.2 _⟩
set_option maxHeartbeats 4000000 in
set_option maxRecDepth 100000 in
theorem row_2 (w : World) (hG : Glob13 w) : Calls Tryz.prog 70 #[.int .i64 2] w (RowP 2 w) := by
  have HG := Lib.hid hG
  obtain ⟨w1, hw1⟩ : ∃ w1, w1 = w.alloc (.cells zeroC 81) := ⟨_, rfl⟩
  obtain ⟨g, hg⟩ : ∃ g, w.heap.size = g := ⟨_, rfl⟩
  have hp1 : Past w w1 := by rw [hw1]; exact past_alloc13 _ _
  have hr1 : Row w1 g 81 zeroC := by rw [hw1, ← hg]; exact Row.new _ _ _
  have H1 : Hid (Past w w1 ∧ Row w1 g 81 zeroC ∧ w.heap.size ≤ g) := Lib.hid ⟨hp1, hr1, by omega⟩
  have k0 := (hG.past hp1).kemAt 5
  have k1 := (hG.past hp1).kemAt 6
  have k2 := (hG.past hp1).kemAt 7
  have k3 := (hG.past hp1).kemAt 8
  have k4 := (hG.past hp1).kemAt 9
  change w1.cell? ⟨4, 5, none⟩ = some (.string ⟨#[55, 54, 56]⟩) at k0
  change w1.cell? ⟨4, 6, none⟩ = some (.int .i64 1184) at k1
  change w1.cell? ⟨4, 7, none⟩ = some (.int .i64 2400) at k2
  change w1.cell? ⟨4, 8, none⟩ = some (.int .i64 64) at k3
  change w1.cell? ⟨4, 9, none⟩ = some (.int .i64 0) at k4
  have HW1 := Lib.hid hw1
  have HGS := Lib.hid hg
  have HNM := Lib.hid (named_any 2 1 ⟨#[77, 76, 45, 75, 69, 77, 45]⟩ ⟨#[55, 54, 56]⟩ 1184 2400 64 0 w1 (by decide))
  have hnm : (⟨#[77, 76, 45, 75, 69, 77, 45]⟩ : ByteArray) ++ ⟨#[55, 54, 56]⟩ = ⟨#[77, 76, 45, 75, 69, 77, 45, 55, 54, 56]⟩ := by kernel_rfl
  rw [hnm] at HNM
  clear hG hw1 hg hp1 hr1 hnm
  go_enter Tryz.func70, Tryz.ntmps70
  go_upto_region 1 with (fail)
  rw [← HW1.out]
  try rw [HGS.out]
  clear HW1 HGS
  go_wp2_with fail
  refine (HNM.out).mono ?_
  rintro e w2 ⟨rfl, hp⟩
  have H2 : Hid (Past w w2 ∧ Row w2 g 81 zeroC ∧ w.heap.size ≤ g) := Lib.hid ⟨H1.out.1.trans' hp, H1.out.2.1.past hp, H1.out.2.2⟩
  clear hp H1 HNM k0 k1 k2 k3 k4
  go_upto_region 19 with (refine wpList_store_row rfl 81 _ _ rfl _ _ rfl rfl _ _ H2.out.2.1 (resS _ (by rfl)) rfl (by simp [Value.oneCell']) ?_)
  obtain ⟨w3, hw3⟩ : ∃ w3, w2.setRow g #[.int .i64 2, .int .i64 1, .string ⟨#[77, 76, 45, 75, 69, 77, 45, 55, 54, 56]⟩, .int .i64 1184, .int .i64 2400, .int .i64 64, .int .i64 0, .slice none 0 0, .int .i64 0, .int .u32 0] = w3 := ⟨_, rfl⟩
  have H3 : Hid (Past w w3 ∧ Row w3 g 81 #[.int .i64 2, .int .i64 1, .string ⟨#[77, 76, 45, 75, 69, 77, 45, 55, 54, 56]⟩, .int .i64 1184, .int .i64 2400, .int .i64 64, .int .i64 0, .slice none 0 0, .int .i64 0, .int .u32 0] ∧ w.heap.size ≤ g) := Lib.hid ⟨by rw [← hw3]; exact past_row13 H2.out.1 H2.out.2.2 _, by rw [← hw3]; exact setRow_heap _ _ _ _ _ _ H2.out.2.1, H2.out.2.2⟩
  rw [hw3]
  clear hw3 H2
  have HAF := Lib.hid (afterKEM_any 1 (by omega) w3)
  have hte : befKEM ++ itoB (1 + 1) = ⟨#[50, 46, 49, 54, 46, 56, 52, 48, 46, 49, 46, 49, 48, 49, 46, 51, 46, 52, 46, 52, 46, 50]⟩ := by decide +kernel
  rw [hte] at HAF
  clear hte
  go_wp2_with fail
  refine (HAF.out).mono ?_
  rintro e w4 ⟨rfl, hw4⟩
  rw [hw4]
  clear hw4
  have c8 := H3.out.2.1.cell 8
  have f8 := H3.out.2.1.fr 8
  go_upto_region 20 with (fail)
  obtain ⟨w5, hw5⟩ : ∃ w5, w3.setCell ⟨g, 8, none⟩ (.int .i64 (-112)) = w5 := ⟨_, rfl⟩
  have H5 : Hid (Past w w5 ∧ Row w5 g 81 #[.int .i64 2, .int .i64 1, .string ⟨#[77, 76, 45, 75, 69, 77, 45, 55, 54, 56]⟩, .int .i64 1184, .int .i64 2400, .int .i64 64, .int .i64 0, .slice none 0 0, .int .i64 (-112), .int .u32 0] ∧ w.heap.size ≤ g) := Lib.hid ⟨by rw [← hw5]; exact H3.out.1.setCell (by show w.heap.size ≤ g; exact H3.out.2.2) _, by rw [← hw5]; exact H3.out.2.1.set 8 _, H3.out.2.2⟩
  rw [hw5]
  clear hw5 H3 c8 f8
  have hrow := H5.out.2.1
  go_wp2_with (first
    | (refine wpList_load_row rfl 81 _ rfl g rfl _ _ _ _ hrow Tryz.underlying81 rfl (resS _ (by rfl)) ?_)
    | (refine wpList_store_row rfl 81 _ _ rfl g _ rfl rfl _ _ hrow (resS _ (by rfl)) rfl (by simp [Value.oneCell']) ?_))
  refine bodyPost_ret (results_cr rfl _ _ ⟨g, 0, none⟩ _ rfl (load_set _ g _ (setRow_heap _ g _ _ _ _ hrow) (by rfl))) (by rfl) ?_
  exact ⟨by kernel_rfl, past_row13 H5.out.1 H5.out.2.2 _⟩
set_option maxHeartbeats 4000000 in
set_option maxRecDepth 100000 in
theorem row_3 (w : World) (hG : Glob13 w) : Calls Tryz.prog 70 #[.int .i64 3] w (RowP 3 w) := by
  have HG := Lib.hid hG
  obtain ⟨w1, hw1⟩ : ∃ w1, w1 = w.alloc (.cells zeroC 81) := ⟨_, rfl⟩
  obtain ⟨g, hg⟩ : ∃ g, w.heap.size = g := ⟨_, rfl⟩
  have hp1 : Past w w1 := by rw [hw1]; exact past_alloc13 _ _
  have hr1 : Row w1 g 81 zeroC := by rw [hw1, ← hg]; exact Row.new _ _ _
  have H1 : Hid (Past w w1 ∧ Row w1 g 81 zeroC ∧ w.heap.size ≤ g) := Lib.hid ⟨hp1, hr1, by omega⟩
  have k0 := (hG.past hp1).kemAt 10
  have k1 := (hG.past hp1).kemAt 11
  have k2 := (hG.past hp1).kemAt 12
  have k3 := (hG.past hp1).kemAt 13
  have k4 := (hG.past hp1).kemAt 14
  change w1.cell? ⟨4, 10, none⟩ = some (.string ⟨#[49, 48, 50, 52]⟩) at k0
  change w1.cell? ⟨4, 11, none⟩ = some (.int .i64 1568) at k1
  change w1.cell? ⟨4, 12, none⟩ = some (.int .i64 3168) at k2
  change w1.cell? ⟨4, 13, none⟩ = some (.int .i64 64) at k3
  change w1.cell? ⟨4, 14, none⟩ = some (.int .i64 0) at k4
  have HW1 := Lib.hid hw1
  have HGS := Lib.hid hg
  have HNM := Lib.hid (named_any 3 1 ⟨#[77, 76, 45, 75, 69, 77, 45]⟩ ⟨#[49, 48, 50, 52]⟩ 1568 3168 64 0 w1 (by decide))
  have hnm : (⟨#[77, 76, 45, 75, 69, 77, 45]⟩ : ByteArray) ++ ⟨#[49, 48, 50, 52]⟩ = ⟨#[77, 76, 45, 75, 69, 77, 45, 49, 48, 50, 52]⟩ := by kernel_rfl
  rw [hnm] at HNM
  clear hG hw1 hg hp1 hr1 hnm
  go_enter Tryz.func70, Tryz.ntmps70
  go_upto_region 1 with (fail)
  rw [← HW1.out]
  try rw [HGS.out]
  clear HW1 HGS
  go_wp2_with fail
  refine (HNM.out).mono ?_
  rintro e w2 ⟨rfl, hp⟩
  have H2 : Hid (Past w w2 ∧ Row w2 g 81 zeroC ∧ w.heap.size ≤ g) := Lib.hid ⟨H1.out.1.trans' hp, H1.out.2.1.past hp, H1.out.2.2⟩
  clear hp H1 HNM k0 k1 k2 k3 k4
  go_upto_region 19 with (refine wpList_store_row rfl 81 _ _ rfl _ _ rfl rfl _ _ H2.out.2.1 (resS _ (by rfl)) rfl (by simp [Value.oneCell']) ?_)
  obtain ⟨w3, hw3⟩ : ∃ w3, w2.setRow g #[.int .i64 3, .int .i64 1, .string ⟨#[77, 76, 45, 75, 69, 77, 45, 49, 48, 50, 52]⟩, .int .i64 1568, .int .i64 3168, .int .i64 64, .int .i64 0, .slice none 0 0, .int .i64 0, .int .u32 0] = w3 := ⟨_, rfl⟩
  have H3 : Hid (Past w w3 ∧ Row w3 g 81 #[.int .i64 3, .int .i64 1, .string ⟨#[77, 76, 45, 75, 69, 77, 45, 49, 48, 50, 52]⟩, .int .i64 1568, .int .i64 3168, .int .i64 64, .int .i64 0, .slice none 0 0, .int .i64 0, .int .u32 0] ∧ w.heap.size ≤ g) := Lib.hid ⟨by rw [← hw3]; exact past_row13 H2.out.1 H2.out.2.2 _, by rw [← hw3]; exact setRow_heap _ _ _ _ _ _ H2.out.2.1, H2.out.2.2⟩
  rw [hw3]
  clear hw3 H2
  have HAF := Lib.hid (afterKEM_any 2 (by omega) w3)
  have hte : befKEM ++ itoB (1 + 2) = ⟨#[50, 46, 49, 54, 46, 56, 52, 48, 46, 49, 46, 49, 48, 49, 46, 51, 46, 52, 46, 52, 46, 51]⟩ := by decide +kernel
  rw [hte] at HAF
  clear hte
  go_wp2_with fail
  refine (HAF.out).mono ?_
  rintro e w4 ⟨rfl, hw4⟩
  rw [hw4]
  clear hw4
  have c8 := H3.out.2.1.cell 8
  have f8 := H3.out.2.1.fr 8
  go_upto_region 20 with (fail)
  obtain ⟨w5, hw5⟩ : ∃ w5, w3.setCell ⟨g, 8, none⟩ (.int .i64 (-113)) = w5 := ⟨_, rfl⟩
  have H5 : Hid (Past w w5 ∧ Row w5 g 81 #[.int .i64 3, .int .i64 1, .string ⟨#[77, 76, 45, 75, 69, 77, 45, 49, 48, 50, 52]⟩, .int .i64 1568, .int .i64 3168, .int .i64 64, .int .i64 0, .slice none 0 0, .int .i64 (-113), .int .u32 0] ∧ w.heap.size ≤ g) := Lib.hid ⟨by rw [← hw5]; exact H3.out.1.setCell (by show w.heap.size ≤ g; exact H3.out.2.2) _, by rw [← hw5]; exact H3.out.2.1.set 8 _, H3.out.2.2⟩
  rw [hw5]
  clear hw5 H3 c8 f8
  have hrow := H5.out.2.1
  go_wp2_with (first
    | (refine wpList_load_row rfl 81 _ rfl g rfl _ _ _ _ hrow Tryz.underlying81 rfl (resS _ (by rfl)) ?_)
    | (refine wpList_store_row rfl 81 _ _ rfl g _ rfl rfl _ _ hrow (resS _ (by rfl)) rfl (by simp [Value.oneCell']) ?_))
  refine bodyPost_ret (results_cr rfl _ _ ⟨g, 0, none⟩ _ rfl (load_set _ g _ (setRow_heap _ g _ _ _ _ hrow) (by rfl))) (by rfl) ?_
  exact ⟨by kernel_rfl, past_row13 H5.out.1 H5.out.2.2 _⟩
set_option maxHeartbeats 4000000 in
set_option maxRecDepth 100000 in
theorem row_4 (w : World) (hG : Glob13 w) : Calls Tryz.prog 70 #[.int .i64 4] w (RowP 4 w) := by
  have HG := Lib.hid hG
  obtain ⟨w1, hw1⟩ : ∃ w1, w1 = w.alloc (.cells zeroC 81) := ⟨_, rfl⟩
  obtain ⟨g, hg⟩ : ∃ g, w.heap.size = g := ⟨_, rfl⟩
  have hp1 : Past w w1 := by rw [hw1]; exact past_alloc13 _ _
  have hr1 : Row w1 g 81 zeroC := by rw [hw1, ← hg]; exact Row.new _ _ _
  have H1 : Hid (Past w w1 ∧ Row w1 g 81 zeroC ∧ w.heap.size ≤ g) := Lib.hid ⟨hp1, hr1, by omega⟩
  have k0 := (hG.past hp1).dsaAt 0
  have k1 := (hG.past hp1).dsaAt 1
  have k2 := (hG.past hp1).dsaAt 2
  have k3 := (hG.past hp1).dsaAt 3
  have k4 := (hG.past hp1).dsaAt 4
  change w1.cell? ⟨3, 0, none⟩ = some (.string ⟨#[52, 52]⟩) at k0
  change w1.cell? ⟨3, 1, none⟩ = some (.int .i64 1312) at k1
  change w1.cell? ⟨3, 2, none⟩ = some (.int .i64 2560) at k2
  change w1.cell? ⟨3, 3, none⟩ = some (.int .i64 32) at k3
  change w1.cell? ⟨3, 4, none⟩ = some (.int .i64 2420) at k4
  have HW1 := Lib.hid hw1
  have HGS := Lib.hid hg
  have HNM := Lib.hid (named_any 4 2 ⟨#[77, 76, 45, 68, 83, 65, 45]⟩ ⟨#[52, 52]⟩ 1312 2560 32 2420 w1 (by decide))
  have hnm : (⟨#[77, 76, 45, 68, 83, 65, 45]⟩ : ByteArray) ++ ⟨#[52, 52]⟩ = ⟨#[77, 76, 45, 68, 83, 65, 45, 52, 52]⟩ := by kernel_rfl
  rw [hnm] at HNM
  clear hG hw1 hg hp1 hr1 hnm
  go_enter Tryz.func70, Tryz.ntmps70
  go_upto_region 1 with (fail)
  rw [← HW1.out]
  try rw [HGS.out]
  clear HW1 HGS
  go_wp2_with fail
  refine (HNM.out).mono ?_
  rintro e w2 ⟨rfl, hp⟩
  have H2 : Hid (Past w w2 ∧ Row w2 g 81 zeroC ∧ w.heap.size ≤ g) := Lib.hid ⟨H1.out.1.trans' hp, H1.out.2.1.past hp, H1.out.2.2⟩
  clear hp H1 HNM k0 k1 k2 k3 k4
  go_upto_region 17 with (refine wpList_store_row rfl 81 _ _ rfl _ _ rfl rfl _ _ H2.out.2.1 (resS _ (by rfl)) rfl (by simp [Value.oneCell']) ?_)
  obtain ⟨w3, hw3⟩ : ∃ w3, w2.setRow g #[.int .i64 4, .int .i64 2, .string ⟨#[77, 76, 45, 68, 83, 65, 45, 52, 52]⟩, .int .i64 1312, .int .i64 2560, .int .i64 32, .int .i64 2420, .slice none 0 0, .int .i64 0, .int .u32 0] = w3 := ⟨_, rfl⟩
  have H3 : Hid (Past w w3 ∧ Row w3 g 81 #[.int .i64 4, .int .i64 2, .string ⟨#[77, 76, 45, 68, 83, 65, 45, 52, 52]⟩, .int .i64 1312, .int .i64 2560, .int .i64 32, .int .i64 2420, .slice none 0 0, .int .i64 0, .int .u32 0] ∧ w.heap.size ≤ g) := Lib.hid ⟨by rw [← hw3]; exact past_row13 H2.out.1 H2.out.2.2 _, by rw [← hw3]; exact setRow_heap _ _ _ _ _ _ H2.out.2.1, H2.out.2.2⟩
  rw [hw3]
  clear hw3 H2
  have HAF := Lib.hid (afterDSA_any 0 (by omega) w3)
  have hte : befDSA ++ itoB (17 + 0) = ⟨#[50, 46, 49, 54, 46, 56, 52, 48, 46, 49, 46, 49, 48, 49, 46, 51, 46, 52, 46, 51, 46, 49, 55]⟩ := by decide +kernel
  rw [hte] at HAF
  clear hte
  go_wp2_with fail
  refine (HAF.out).mono ?_
  rintro e w4 ⟨rfl, hw4⟩
  rw [hw4]
  clear hw4
  have c8 := H3.out.2.1.cell 8
  have f8 := H3.out.2.1.fr 8
  go_upto_region 20 with (fail)
  obtain ⟨w5, hw5⟩ : ∃ w5, w3.setCell ⟨g, 8, none⟩ (.int .i64 (-48)) = w5 := ⟨_, rfl⟩
  have H5 : Hid (Past w w5 ∧ Row w5 g 81 #[.int .i64 4, .int .i64 2, .string ⟨#[77, 76, 45, 68, 83, 65, 45, 52, 52]⟩, .int .i64 1312, .int .i64 2560, .int .i64 32, .int .i64 2420, .slice none 0 0, .int .i64 (-48), .int .u32 0] ∧ w.heap.size ≤ g) := Lib.hid ⟨by rw [← hw5]; exact H3.out.1.setCell (by show w.heap.size ≤ g; exact H3.out.2.2) _, by rw [← hw5]; exact H3.out.2.1.set 8 _, H3.out.2.2⟩
  rw [hw5]
  clear hw5 H3 c8 f8
  have hrow := H5.out.2.1
  go_wp2_with (first
    | (refine wpList_load_row rfl 81 _ rfl g rfl _ _ _ _ hrow Tryz.underlying81 rfl (resS _ (by rfl)) ?_)
    | (refine wpList_store_row rfl 81 _ _ rfl g _ rfl rfl _ _ hrow (resS _ (by rfl)) rfl (by simp [Value.oneCell']) ?_))
  refine bodyPost_ret (results_cr rfl _ _ ⟨g, 0, none⟩ _ rfl (load_set _ g _ (setRow_heap _ g _ _ _ _ hrow) (by rfl))) (by rfl) ?_
  exact ⟨by kernel_rfl, past_row13 H5.out.1 H5.out.2.2 _⟩
set_option maxHeartbeats 4000000 in
set_option maxRecDepth 100000 in
theorem row_5 (w : World) (hG : Glob13 w) : Calls Tryz.prog 70 #[.int .i64 5] w (RowP 5 w) := by
  have HG := Lib.hid hG
  obtain ⟨w1, hw1⟩ : ∃ w1, w1 = w.alloc (.cells zeroC 81) := ⟨_, rfl⟩
  obtain ⟨g, hg⟩ : ∃ g, w.heap.size = g := ⟨_, rfl⟩
  have hp1 : Past w w1 := by rw [hw1]; exact past_alloc13 _ _
  have hr1 : Row w1 g 81 zeroC := by rw [hw1, ← hg]; exact Row.new _ _ _
  have H1 : Hid (Past w w1 ∧ Row w1 g 81 zeroC ∧ w.heap.size ≤ g) := Lib.hid ⟨hp1, hr1, by omega⟩
  have k0 := (hG.past hp1).dsaAt 5
  have k1 := (hG.past hp1).dsaAt 6
  have k2 := (hG.past hp1).dsaAt 7
  have k3 := (hG.past hp1).dsaAt 8
  have k4 := (hG.past hp1).dsaAt 9
  change w1.cell? ⟨3, 5, none⟩ = some (.string ⟨#[54, 53]⟩) at k0
  change w1.cell? ⟨3, 6, none⟩ = some (.int .i64 1952) at k1
  change w1.cell? ⟨3, 7, none⟩ = some (.int .i64 4032) at k2
  change w1.cell? ⟨3, 8, none⟩ = some (.int .i64 32) at k3
  change w1.cell? ⟨3, 9, none⟩ = some (.int .i64 3309) at k4
  have HW1 := Lib.hid hw1
  have HGS := Lib.hid hg
  have HNM := Lib.hid (named_any 5 2 ⟨#[77, 76, 45, 68, 83, 65, 45]⟩ ⟨#[54, 53]⟩ 1952 4032 32 3309 w1 (by decide))
  have hnm : (⟨#[77, 76, 45, 68, 83, 65, 45]⟩ : ByteArray) ++ ⟨#[54, 53]⟩ = ⟨#[77, 76, 45, 68, 83, 65, 45, 54, 53]⟩ := by kernel_rfl
  rw [hnm] at HNM
  clear hG hw1 hg hp1 hr1 hnm
  go_enter Tryz.func70, Tryz.ntmps70
  go_upto_region 1 with (fail)
  rw [← HW1.out]
  try rw [HGS.out]
  clear HW1 HGS
  go_wp2_with fail
  refine (HNM.out).mono ?_
  rintro e w2 ⟨rfl, hp⟩
  have H2 : Hid (Past w w2 ∧ Row w2 g 81 zeroC ∧ w.heap.size ≤ g) := Lib.hid ⟨H1.out.1.trans' hp, H1.out.2.1.past hp, H1.out.2.2⟩
  clear hp H1 HNM k0 k1 k2 k3 k4
  go_upto_region 17 with (refine wpList_store_row rfl 81 _ _ rfl _ _ rfl rfl _ _ H2.out.2.1 (resS _ (by rfl)) rfl (by simp [Value.oneCell']) ?_)
  obtain ⟨w3, hw3⟩ : ∃ w3, w2.setRow g #[.int .i64 5, .int .i64 2, .string ⟨#[77, 76, 45, 68, 83, 65, 45, 54, 53]⟩, .int .i64 1952, .int .i64 4032, .int .i64 32, .int .i64 3309, .slice none 0 0, .int .i64 0, .int .u32 0] = w3 := ⟨_, rfl⟩
  have H3 : Hid (Past w w3 ∧ Row w3 g 81 #[.int .i64 5, .int .i64 2, .string ⟨#[77, 76, 45, 68, 83, 65, 45, 54, 53]⟩, .int .i64 1952, .int .i64 4032, .int .i64 32, .int .i64 3309, .slice none 0 0, .int .i64 0, .int .u32 0] ∧ w.heap.size ≤ g) := Lib.hid ⟨by rw [← hw3]; exact past_row13 H2.out.1 H2.out.2.2 _, by rw [← hw3]; exact setRow_heap _ _ _ _ _ _ H2.out.2.1, H2.out.2.2⟩
  rw [hw3]
  clear hw3 H2
  have HAF := Lib.hid (afterDSA_any 1 (by omega) w3)
  have hte : befDSA ++ itoB (17 + 1) = ⟨#[50, 46, 49, 54, 46, 56, 52, 48, 46, 49, 46, 49, 48, 49, 46, 51, 46, 52, 46, 51, 46, 49, 56]⟩ := by decide +kernel
  rw [hte] at HAF
  clear hte
  go_wp2_with fail
  refine (HAF.out).mono ?_
  rintro e w4 ⟨rfl, hw4⟩
  rw [hw4]
  clear hw4
  have c8 := H3.out.2.1.cell 8
  have f8 := H3.out.2.1.fr 8
  go_upto_region 20 with (fail)
  obtain ⟨w5, hw5⟩ : ∃ w5, w3.setCell ⟨g, 8, none⟩ (.int .i64 (-49)) = w5 := ⟨_, rfl⟩
  have H5 : Hid (Past w w5 ∧ Row w5 g 81 #[.int .i64 5, .int .i64 2, .string ⟨#[77, 76, 45, 68, 83, 65, 45, 54, 53]⟩, .int .i64 1952, .int .i64 4032, .int .i64 32, .int .i64 3309, .slice none 0 0, .int .i64 (-49), .int .u32 0] ∧ w.heap.size ≤ g) := Lib.hid ⟨by rw [← hw5]; exact H3.out.1.setCell (by show w.heap.size ≤ g; exact H3.out.2.2) _, by rw [← hw5]; exact H3.out.2.1.set 8 _, H3.out.2.2⟩
  rw [hw5]
  clear hw5 H3 c8 f8
  have hrow := H5.out.2.1
  go_wp2_with (first
    | (refine wpList_load_row rfl 81 _ rfl g rfl _ _ _ _ hrow Tryz.underlying81 rfl (resS _ (by rfl)) ?_)
    | (refine wpList_store_row rfl 81 _ _ rfl g _ rfl rfl _ _ hrow (resS _ (by rfl)) rfl (by simp [Value.oneCell']) ?_))
  refine bodyPost_ret (results_cr rfl _ _ ⟨g, 0, none⟩ _ rfl (load_set _ g _ (setRow_heap _ g _ _ _ _ hrow) (by rfl))) (by rfl) ?_
  exact ⟨by kernel_rfl, past_row13 H5.out.1 H5.out.2.2 _⟩
set_option maxHeartbeats 4000000 in
set_option maxRecDepth 100000 in
theorem row_6 (w : World) (hG : Glob13 w) : Calls Tryz.prog 70 #[.int .i64 6] w (RowP 6 w) := by
  have HG := Lib.hid hG
  obtain ⟨w1, hw1⟩ : ∃ w1, w1 = w.alloc (.cells zeroC 81) := ⟨_, rfl⟩
  obtain ⟨g, hg⟩ : ∃ g, w.heap.size = g := ⟨_, rfl⟩
  have hp1 : Past w w1 := by rw [hw1]; exact past_alloc13 _ _
  have hr1 : Row w1 g 81 zeroC := by rw [hw1, ← hg]; exact Row.new _ _ _
  have H1 : Hid (Past w w1 ∧ Row w1 g 81 zeroC ∧ w.heap.size ≤ g) := Lib.hid ⟨hp1, hr1, by omega⟩
  have k0 := (hG.past hp1).dsaAt 10
  have k1 := (hG.past hp1).dsaAt 11
  have k2 := (hG.past hp1).dsaAt 12
  have k3 := (hG.past hp1).dsaAt 13
  have k4 := (hG.past hp1).dsaAt 14
  change w1.cell? ⟨3, 10, none⟩ = some (.string ⟨#[56, 55]⟩) at k0
  change w1.cell? ⟨3, 11, none⟩ = some (.int .i64 2592) at k1
  change w1.cell? ⟨3, 12, none⟩ = some (.int .i64 4896) at k2
  change w1.cell? ⟨3, 13, none⟩ = some (.int .i64 32) at k3
  change w1.cell? ⟨3, 14, none⟩ = some (.int .i64 4627) at k4
  have HW1 := Lib.hid hw1
  have HGS := Lib.hid hg
  have HNM := Lib.hid (named_any 6 2 ⟨#[77, 76, 45, 68, 83, 65, 45]⟩ ⟨#[56, 55]⟩ 2592 4896 32 4627 w1 (by decide))
  have hnm : (⟨#[77, 76, 45, 68, 83, 65, 45]⟩ : ByteArray) ++ ⟨#[56, 55]⟩ = ⟨#[77, 76, 45, 68, 83, 65, 45, 56, 55]⟩ := by kernel_rfl
  rw [hnm] at HNM
  clear hG hw1 hg hp1 hr1 hnm
  go_enter Tryz.func70, Tryz.ntmps70
  go_upto_region 1 with (fail)
  rw [← HW1.out]
  try rw [HGS.out]
  clear HW1 HGS
  go_wp2_with fail
  refine (HNM.out).mono ?_
  rintro e w2 ⟨rfl, hp⟩
  have H2 : Hid (Past w w2 ∧ Row w2 g 81 zeroC ∧ w.heap.size ≤ g) := Lib.hid ⟨H1.out.1.trans' hp, H1.out.2.1.past hp, H1.out.2.2⟩
  clear hp H1 HNM k0 k1 k2 k3 k4
  go_upto_region 17 with (refine wpList_store_row rfl 81 _ _ rfl _ _ rfl rfl _ _ H2.out.2.1 (resS _ (by rfl)) rfl (by simp [Value.oneCell']) ?_)
  obtain ⟨w3, hw3⟩ : ∃ w3, w2.setRow g #[.int .i64 6, .int .i64 2, .string ⟨#[77, 76, 45, 68, 83, 65, 45, 56, 55]⟩, .int .i64 2592, .int .i64 4896, .int .i64 32, .int .i64 4627, .slice none 0 0, .int .i64 0, .int .u32 0] = w3 := ⟨_, rfl⟩
  have H3 : Hid (Past w w3 ∧ Row w3 g 81 #[.int .i64 6, .int .i64 2, .string ⟨#[77, 76, 45, 68, 83, 65, 45, 56, 55]⟩, .int .i64 2592, .int .i64 4896, .int .i64 32, .int .i64 4627, .slice none 0 0, .int .i64 0, .int .u32 0] ∧ w.heap.size ≤ g) := Lib.hid ⟨by rw [← hw3]; exact past_row13 H2.out.1 H2.out.2.2 _, by rw [← hw3]; exact setRow_heap _ _ _ _ _ _ H2.out.2.1, H2.out.2.2⟩
  rw [hw3]
  clear hw3 H2
  have HAF := Lib.hid (afterDSA_any 2 (by omega) w3)
  have hte : befDSA ++ itoB (17 + 2) = ⟨#[50, 46, 49, 54, 46, 56, 52, 48, 46, 49, 46, 49, 48, 49, 46, 51, 46, 52, 46, 51, 46, 49, 57]⟩ := by decide +kernel
  rw [hte] at HAF
  clear hte
  go_wp2_with fail
  refine (HAF.out).mono ?_
  rintro e w4 ⟨rfl, hw4⟩
  rw [hw4]
  clear hw4
  have c8 := H3.out.2.1.cell 8
  have f8 := H3.out.2.1.fr 8
  go_upto_region 20 with (fail)
  obtain ⟨w5, hw5⟩ : ∃ w5, w3.setCell ⟨g, 8, none⟩ (.int .i64 (-50)) = w5 := ⟨_, rfl⟩
  have H5 : Hid (Past w w5 ∧ Row w5 g 81 #[.int .i64 6, .int .i64 2, .string ⟨#[77, 76, 45, 68, 83, 65, 45, 56, 55]⟩, .int .i64 2592, .int .i64 4896, .int .i64 32, .int .i64 4627, .slice none 0 0, .int .i64 (-50), .int .u32 0] ∧ w.heap.size ≤ g) := Lib.hid ⟨by rw [← hw5]; exact H3.out.1.setCell (by show w.heap.size ≤ g; exact H3.out.2.2) _, by rw [← hw5]; exact H3.out.2.1.set 8 _, H3.out.2.2⟩
  rw [hw5]
  clear hw5 H3 c8 f8
  have hrow := H5.out.2.1
  go_wp2_with (first
    | (refine wpList_load_row rfl 81 _ rfl g rfl _ _ _ _ hrow Tryz.underlying81 rfl (resS _ (by rfl)) ?_)
    | (refine wpList_store_row rfl 81 _ _ rfl g _ rfl rfl _ _ hrow (resS _ (by rfl)) rfl (by simp [Value.oneCell']) ?_))
  refine bodyPost_ret (results_cr rfl _ _ ⟨g, 0, none⟩ _ rfl (load_set _ g _ (setRow_heap _ g _ _ _ _ hrow) (by rfl))) (by rfl) ?_
  exact ⟨by kernel_rfl, past_row13 H5.out.1 H5.out.2.2 _⟩
set_option maxHeartbeats 4000000 in
set_option maxRecDepth 100000 in
theorem row_19 (w : World) (hG : Glob13 w) : Calls Tryz.prog 70 #[.int .i64 19] w (RowP 19 w) := by
  have HG := Lib.hid hG
  obtain ⟨w1, hw1⟩ : ∃ w1, w1 = w.alloc (.cells zeroC 81) := ⟨_, rfl⟩
  obtain ⟨g, hg⟩ : ∃ g, w.heap.size = g := ⟨_, rfl⟩
  have hp1 : Past w w1 := by rw [hw1]; exact past_alloc13 _ _
  have hr1 : Row w1 g 81 zeroC := by rw [hw1, ← hg]; exact Row.new _ _ _
  have H1 : Hid (Past w w1 ∧ Row w1 g 81 zeroC ∧ w.heap.size ≤ g) := Lib.hid ⟨hp1, hr1, by omega⟩
  have HW1 := Lib.hid hw1
  have HGS := Lib.hid hg
  have HNM := Lib.hid (named_any 19 4 ⟨#[72, 83, 83, 47, 76, 77, 83]⟩ ⟨#[]⟩ 0 0 0 0 w1 (by decide))
  have hnm : (⟨#[72, 83, 83, 47, 76, 77, 83]⟩ : ByteArray) ++ ⟨#[]⟩ = ⟨#[72, 83, 83, 47, 76, 77, 83]⟩ := by kernel_rfl
  rw [hnm] at HNM
  clear hG hw1 hg hp1 hr1 hnm
  go_enter Tryz.func70, Tryz.ntmps70
  go_upto_region 1 with (fail)
  rw [← HW1.out]
  try rw [HGS.out]
  clear HW1 HGS
  go_wp2_with fail
  refine (HNM.out).mono ?_
  rintro e w2 ⟨rfl, hp⟩
  have H2 : Hid (Past w w2 ∧ Row w2 g 81 zeroC ∧ w.heap.size ≤ g) := Lib.hid ⟨H1.out.1.trans' hp, H1.out.2.1.past hp, H1.out.2.2⟩
  clear hp H1 HNM
  go_upto_region 12 with (refine wpList_store_row rfl 81 _ _ rfl _ _ rfl rfl _ _ H2.out.2.1 (resS _ (by rfl)) rfl (by simp [Value.oneCell']) ?_)
  obtain ⟨w3, hw3⟩ : ∃ w3, w2.setRow g #[.int .i64 19, .int .i64 4, .string ⟨#[72, 83, 83, 47, 76, 77, 83]⟩, .int .i64 0, .int .i64 0, .int .i64 0, .int .i64 0, .slice none 0 0, .int .i64 0, .int .u32 0] = w3 := ⟨_, rfl⟩
  have H3 : Hid (Past w w3 ∧ Row w3 g 81 #[.int .i64 19, .int .i64 4, .string ⟨#[72, 83, 83, 47, 76, 77, 83]⟩, .int .i64 0, .int .i64 0, .int .i64 0, .int .i64 0, .slice none 0 0, .int .i64 0, .int .u32 0] ∧ w.heap.size ≤ g) := Lib.hid ⟨by rw [← hw3]; exact past_row13 H2.out.1 H2.out.2.2 _, by rw [← hw3]; exact setRow_heap _ _ _ _ _ _ H2.out.2.1, H2.out.2.2⟩
  rw [hw3]
  clear hw3 H2
  go_upto_region 20 with (fail)
  have H5 := H3
  clear H3
  have hrow := H5.out.2.1
  go_wp2_with (first
    | (refine wpList_load_row rfl 81 _ rfl g rfl _ _ _ _ hrow Tryz.underlying81 rfl (resS _ (by rfl)) ?_)
    | (refine wpList_store_row rfl 81 _ _ rfl g _ rfl rfl _ _ hrow (resS _ (by rfl)) rfl (by simp [Value.oneCell']) ?_))
  refine bodyPost_ret (results_cr rfl _ _ ⟨g, 0, none⟩ _ rfl (load_set _ g _ (setRow_heap _ g _ _ _ _ hrow) (by rfl))) (by rfl) ?_
  exact ⟨by kernel_rfl, past_row13 H5.out.1 H5.out.2.2 _⟩
end Go.Proofs.YteflpbkdnebopaaGreatDoor
