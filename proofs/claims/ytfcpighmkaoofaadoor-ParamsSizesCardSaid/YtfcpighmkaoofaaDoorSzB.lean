/- ParamsSizes, algorithm by algorithm. -/
import Derived.Test.YtfcpighmkaoofaaDoorFrame13
namespace Go.Proofs.YtfcpighmkaoofaaDoor.paramsSizes
open Go.RowKit
set_option linter.unusedVariables false

set_option maxHeartbeats 4000000 in
set_option maxRecDepth 100000 in
theorem walk_9 (x : Int) (w : World) (hm : x.tmod 25 = 8) (hx0 : 0 ≤ x) (hx1 : x ≤ 255) (hG : Glob13 w) : Calls Tryd.prog 7 #[.int .u8 x] w fun e w' => e = .returned (.bool true) ∧ Past w w' := by
  have HG := Lib.hid hG
  obtain ⟨N, T, hr⟩ : ∃ N T, row13 9 = { alg := 9, fam := 3, name := N, pub := 48, priv := 96, seed := 0, sig := 16224, text := T, cose := -53, typ := 0 } := ⟨⟨#[83, 76, 72, 45, 68, 83, 65, 45, 83, 72, 65, 50, 45, 49, 57, 50, 115]⟩, ⟨#[50, 46, 49, 54, 46, 56, 52, 48, 46, 49, 46, 49, 48, 49, 46, 51, 46, 52, 46, 51, 46, 50, 50]⟩, by kernel_rfl⟩
  have HR := Lib.hid hr
  have hm2 : x % 25 = 8 := by rw [← hm, Int.tmod_eq_emod_of_nonneg hx0]
  clear hr hG
  go_enter Tryd.func7, Tryd.ntmps7
  go_wp2_with fail
  refine (awake13 w HG.out).mono ?_
  rintro e w1 ⟨rfl, hp⟩
  have H1 := Lib.hid hp
  clear hp
  go_wp2_with fail
  refine (get_any 9 w1 (HG.out.past H1.out)).mono ?_
  rintro e w2 ⟨he, hp⟩
  rw [if_pos (by omega), HR.out] at he
  obtain ⟨A, c, rfl, hS⟩ := he
  have H2 := Lib.hid (H1.out.trans' hp)
  clear hp hS H1
  unfold setV
  obtain ⟨n1, hn1⟩ : ∃ n1, (oidL 9).length = n1 := ⟨_, rfl⟩
  rw [hn1]
  clear hn1
  obtain ⟨u, hu⟩ : ∃ u, w2.heap.size = u := ⟨_, rfl⟩
  obtain ⟨w3, hw3⟩ : ∃ w3, w3 = w2.alloc (.cells #[.int .i64 9, .int .i64 3, .string N, .int .i64 48, .int .i64 96, .int .i64 0, .int .i64 16224, .slice A n1 c, .int .i64 (-53), .int .u32 0] 26) := ⟨_, rfl⟩
  have hp3 : Past w2 w3 := by rw [hw3]; exact past_alloc13 _ _
  have hr3 : Row w3 u 26 #[.int .i64 9, .int .i64 3, .string N, .int .i64 48, .int .i64 96, .int .i64 0, .int .i64 16224, .slice A n1 c, .int .i64 (-53), .int .u32 0] := by rw [hw3, ← hu]; exact Row.new _ _ _
  have H3 := Lib.hid (H2.out.trans' hp3)
  have HW3 := Lib.hid hw3
  have HU := Lib.hid hu
  have k1 := hr3.cell 1
  have k3 := hr3.cell 3
  have k4 := hr3.cell 4
  have k5 := hr3.cell 5
  have k6 := hr3.cell 6
  clear hp3 hr3 hw3 hu H2
  go_upto_region 5 with (fail)
  rw [← HW3.out]
  try rw [HU.out]
  clear HW3 HU
  go_wp2_with fail
  go_ret
  exact ⟨rfl, H3.out⟩

set_option maxHeartbeats 4000000 in
set_option maxRecDepth 100000 in
theorem walk_10 (x : Int) (w : World) (hm : x.tmod 25 = 9) (hx0 : 0 ≤ x) (hx1 : x ≤ 255) (hG : Glob13 w) : Calls Tryd.prog 7 #[.int .u8 x] w fun e w' => e = .returned (.bool true) ∧ Past w w' := by
  have HG := Lib.hid hG
  obtain ⟨N, T, hr⟩ : ∃ N T, row13 10 = { alg := 10, fam := 3, name := N, pub := 48, priv := 96, seed := 0, sig := 35664, text := T, cose := -54, typ := 0 } := ⟨⟨#[83, 76, 72, 45, 68, 83, 65, 45, 83, 72, 65, 50, 45, 49, 57, 50, 102]⟩, ⟨#[50, 46, 49, 54, 46, 56, 52, 48, 46, 49, 46, 49, 48, 49, 46, 51, 46, 52, 46, 51, 46, 50, 51]⟩, by kernel_rfl⟩
  have HR := Lib.hid hr
  have hm2 : x % 25 = 9 := by rw [← hm, Int.tmod_eq_emod_of_nonneg hx0]
  clear hr hG
  go_enter Tryd.func7, Tryd.ntmps7
  go_wp2_with fail
  refine (awake13 w HG.out).mono ?_
  rintro e w1 ⟨rfl, hp⟩
  have H1 := Lib.hid hp
  clear hp
  go_wp2_with fail
  refine (get_any 10 w1 (HG.out.past H1.out)).mono ?_
  rintro e w2 ⟨he, hp⟩
  rw [if_pos (by omega), HR.out] at he
  obtain ⟨A, c, rfl, hS⟩ := he
  have H2 := Lib.hid (H1.out.trans' hp)
  clear hp hS H1
  unfold setV
  obtain ⟨n1, hn1⟩ : ∃ n1, (oidL 10).length = n1 := ⟨_, rfl⟩
  rw [hn1]
  clear hn1
  obtain ⟨u, hu⟩ : ∃ u, w2.heap.size = u := ⟨_, rfl⟩
  obtain ⟨w3, hw3⟩ : ∃ w3, w3 = w2.alloc (.cells #[.int .i64 10, .int .i64 3, .string N, .int .i64 48, .int .i64 96, .int .i64 0, .int .i64 35664, .slice A n1 c, .int .i64 (-54), .int .u32 0] 26) := ⟨_, rfl⟩
  have hp3 : Past w2 w3 := by rw [hw3]; exact past_alloc13 _ _
  have hr3 : Row w3 u 26 #[.int .i64 10, .int .i64 3, .string N, .int .i64 48, .int .i64 96, .int .i64 0, .int .i64 35664, .slice A n1 c, .int .i64 (-54), .int .u32 0] := by rw [hw3, ← hu]; exact Row.new _ _ _
  have H3 := Lib.hid (H2.out.trans' hp3)
  have HW3 := Lib.hid hw3
  have HU := Lib.hid hu
  have k1 := hr3.cell 1
  have k3 := hr3.cell 3
  have k4 := hr3.cell 4
  have k5 := hr3.cell 5
  have k6 := hr3.cell 6
  clear hp3 hr3 hw3 hu H2
  go_upto_region 5 with (fail)
  rw [← HW3.out]
  try rw [HU.out]
  clear HW3 HU
  go_wp2_with fail
  go_ret
  exact ⟨rfl, H3.out⟩

set_option maxHeartbeats 4000000 in
set_option maxRecDepth 100000 in
theorem walk_11 (x : Int) (w : World) (hm : x.tmod 25 = 10) (hx0 : 0 ≤ x) (hx1 : x ≤ 255) (hG : Glob13 w) : Calls Tryd.prog 7 #[.int .u8 x] w fun e w' => e = .returned (.bool true) ∧ Past w w' := by
  have HG := Lib.hid hG
  obtain ⟨N, T, hr⟩ : ∃ N T, row13 11 = { alg := 11, fam := 3, name := N, pub := 64, priv := 128, seed := 0, sig := 29792, text := T, cose := -55, typ := 0 } := ⟨⟨#[83, 76, 72, 45, 68, 83, 65, 45, 83, 72, 65, 50, 45, 50, 53, 54, 115]⟩, ⟨#[50, 46, 49, 54, 46, 56, 52, 48, 46, 49, 46, 49, 48, 49, 46, 51, 46, 52, 46, 51, 46, 50, 52]⟩, by kernel_rfl⟩
  have HR := Lib.hid hr
  have hm2 : x % 25 = 10 := by rw [← hm, Int.tmod_eq_emod_of_nonneg hx0]
  clear hr hG
  go_enter Tryd.func7, Tryd.ntmps7
  go_wp2_with fail
  refine (awake13 w HG.out).mono ?_
  rintro e w1 ⟨rfl, hp⟩
  have H1 := Lib.hid hp
  clear hp
  go_wp2_with fail
  refine (get_any 11 w1 (HG.out.past H1.out)).mono ?_
  rintro e w2 ⟨he, hp⟩
  rw [if_pos (by omega), HR.out] at he
  obtain ⟨A, c, rfl, hS⟩ := he
  have H2 := Lib.hid (H1.out.trans' hp)
  clear hp hS H1
  unfold setV
  obtain ⟨n1, hn1⟩ : ∃ n1, (oidL 11).length = n1 := ⟨_, rfl⟩
  rw [hn1]
  clear hn1
  obtain ⟨u, hu⟩ : ∃ u, w2.heap.size = u := ⟨_, rfl⟩
  obtain ⟨w3, hw3⟩ : ∃ w3, w3 = w2.alloc (.cells #[.int .i64 11, .int .i64 3, .string N, .int .i64 64, .int .i64 128, .int .i64 0, .int .i64 29792, .slice A n1 c, .int .i64 (-55), .int .u32 0] 26) := ⟨_, rfl⟩
  have hp3 : Past w2 w3 := by rw [hw3]; exact past_alloc13 _ _
  have hr3 : Row w3 u 26 #[.int .i64 11, .int .i64 3, .string N, .int .i64 64, .int .i64 128, .int .i64 0, .int .i64 29792, .slice A n1 c, .int .i64 (-55), .int .u32 0] := by rw [hw3, ← hu]; exact Row.new _ _ _
  have H3 := Lib.hid (H2.out.trans' hp3)
  have HW3 := Lib.hid hw3
  have HU := Lib.hid hu
  have k1 := hr3.cell 1
  have k3 := hr3.cell 3
  have k4 := hr3.cell 4
  have k5 := hr3.cell 5
  have k6 := hr3.cell 6
  clear hp3 hr3 hw3 hu H2
  go_upto_region 5 with (fail)
  rw [← HW3.out]
  try rw [HU.out]
  clear HW3 HU
  go_wp2_with fail
  go_ret
  exact ⟨rfl, H3.out⟩

set_option maxHeartbeats 4000000 in
set_option maxRecDepth 100000 in
theorem walk_12 (x : Int) (w : World) (hm : x.tmod 25 = 11) (hx0 : 0 ≤ x) (hx1 : x ≤ 255) (hG : Glob13 w) : Calls Tryd.prog 7 #[.int .u8 x] w fun e w' => e = .returned (.bool true) ∧ Past w w' := by
  have HG := Lib.hid hG
  obtain ⟨N, T, hr⟩ : ∃ N T, row13 12 = { alg := 12, fam := 3, name := N, pub := 64, priv := 128, seed := 0, sig := 49856, text := T, cose := -56, typ := 0 } := ⟨⟨#[83, 76, 72, 45, 68, 83, 65, 45, 83, 72, 65, 50, 45, 50, 53, 54, 102]⟩, ⟨#[50, 46, 49, 54, 46, 56, 52, 48, 46, 49, 46, 49, 48, 49, 46, 51, 46, 52, 46, 51, 46, 50, 53]⟩, by kernel_rfl⟩
  have HR := Lib.hid hr
  have hm2 : x % 25 = 11 := by rw [← hm, Int.tmod_eq_emod_of_nonneg hx0]
  clear hr hG
  go_enter Tryd.func7, Tryd.ntmps7
  go_wp2_with fail
  refine (awake13 w HG.out).mono ?_
  rintro e w1 ⟨rfl, hp⟩
  have H1 := Lib.hid hp
  clear hp
  go_wp2_with fail
  refine (get_any 12 w1 (HG.out.past H1.out)).mono ?_
  rintro e w2 ⟨he, hp⟩
  rw [if_pos (by omega), HR.out] at he
  obtain ⟨A, c, rfl, hS⟩ := he
  have H2 := Lib.hid (H1.out.trans' hp)
  clear hp hS H1
  unfold setV
  obtain ⟨n1, hn1⟩ : ∃ n1, (oidL 12).length = n1 := ⟨_, rfl⟩
  rw [hn1]
  clear hn1
  obtain ⟨u, hu⟩ : ∃ u, w2.heap.size = u := ⟨_, rfl⟩
  obtain ⟨w3, hw3⟩ : ∃ w3, w3 = w2.alloc (.cells #[.int .i64 12, .int .i64 3, .string N, .int .i64 64, .int .i64 128, .int .i64 0, .int .i64 49856, .slice A n1 c, .int .i64 (-56), .int .u32 0] 26) := ⟨_, rfl⟩
  have hp3 : Past w2 w3 := by rw [hw3]; exact past_alloc13 _ _
  have hr3 : Row w3 u 26 #[.int .i64 12, .int .i64 3, .string N, .int .i64 64, .int .i64 128, .int .i64 0, .int .i64 49856, .slice A n1 c, .int .i64 (-56), .int .u32 0] := by rw [hw3, ← hu]; exact Row.new _ _ _
  have H3 := Lib.hid (H2.out.trans' hp3)
  have HW3 := Lib.hid hw3
  have HU := Lib.hid hu
  have k1 := hr3.cell 1
  have k3 := hr3.cell 3
  have k4 := hr3.cell 4
  have k5 := hr3.cell 5
  have k6 := hr3.cell 6
  clear hp3 hr3 hw3 hu H2
  go_upto_region 5 with (fail)
  rw [← HW3.out]
  try rw [HU.out]
  clear HW3 HU
  go_wp2_with fail
  go_ret
  exact ⟨rfl, H3.out⟩

set_option maxHeartbeats 4000000 in
set_option maxRecDepth 100000 in
theorem walk_13 (x : Int) (w : World) (hm : x.tmod 25 = 12) (hx0 : 0 ≤ x) (hx1 : x ≤ 255) (hG : Glob13 w) : Calls Tryd.prog 7 #[.int .u8 x] w fun e w' => e = .returned (.bool true) ∧ Past w w' := by
  have HG := Lib.hid hG
  obtain ⟨N, T, hr⟩ : ∃ N T, row13 13 = { alg := 13, fam := 3, name := N, pub := 32, priv := 64, seed := 0, sig := 7856, text := T, cose := -57, typ := 0 } := ⟨⟨#[83, 76, 72, 45, 68, 83, 65, 45, 83, 72, 65, 75, 69, 45, 49, 50, 56, 115]⟩, ⟨#[50, 46, 49, 54, 46, 56, 52, 48, 46, 49, 46, 49, 48, 49, 46, 51, 46, 52, 46, 51, 46, 50, 54]⟩, by kernel_rfl⟩
  have HR := Lib.hid hr
  have hm2 : x % 25 = 12 := by rw [← hm, Int.tmod_eq_emod_of_nonneg hx0]
  clear hr hG
  go_enter Tryd.func7, Tryd.ntmps7
  go_wp2_with fail
  refine (awake13 w HG.out).mono ?_
  rintro e w1 ⟨rfl, hp⟩
  have H1 := Lib.hid hp
  clear hp
  go_wp2_with fail
  refine (get_any 13 w1 (HG.out.past H1.out)).mono ?_
  rintro e w2 ⟨he, hp⟩
  rw [if_pos (by omega), HR.out] at he
  obtain ⟨A, c, rfl, hS⟩ := he
  have H2 := Lib.hid (H1.out.trans' hp)
  clear hp hS H1
  unfold setV
  obtain ⟨n1, hn1⟩ : ∃ n1, (oidL 13).length = n1 := ⟨_, rfl⟩
  rw [hn1]
  clear hn1
  obtain ⟨u, hu⟩ : ∃ u, w2.heap.size = u := ⟨_, rfl⟩
  obtain ⟨w3, hw3⟩ : ∃ w3, w3 = w2.alloc (.cells #[.int .i64 13, .int .i64 3, .string N, .int .i64 32, .int .i64 64, .int .i64 0, .int .i64 7856, .slice A n1 c, .int .i64 (-57), .int .u32 0] 26) := ⟨_, rfl⟩
  have hp3 : Past w2 w3 := by rw [hw3]; exact past_alloc13 _ _
  have hr3 : Row w3 u 26 #[.int .i64 13, .int .i64 3, .string N, .int .i64 32, .int .i64 64, .int .i64 0, .int .i64 7856, .slice A n1 c, .int .i64 (-57), .int .u32 0] := by rw [hw3, ← hu]; exact Row.new _ _ _
  have H3 := Lib.hid (H2.out.trans' hp3)
  have HW3 := Lib.hid hw3
  have HU := Lib.hid hu
  have k1 := hr3.cell 1
  have k3 := hr3.cell 3
  have k4 := hr3.cell 4
  have k5 := hr3.cell 5
  have k6 := hr3.cell 6
  clear hp3 hr3 hw3 hu H2
  go_upto_region 5 with (fail)
  rw [← HW3.out]
  try rw [HU.out]
  clear HW3 HU
  go_wp2_with fail
  go_ret
  exact ⟨rfl, H3.out⟩

set_option maxHeartbeats 4000000 in
set_option maxRecDepth 100000 in
theorem walk_14 (x : Int) (w : World) (hm : x.tmod 25 = 13) (hx0 : 0 ≤ x) (hx1 : x ≤ 255) (hG : Glob13 w) : Calls Tryd.prog 7 #[.int .u8 x] w fun e w' => e = .returned (.bool true) ∧ Past w w' := by
  have HG := Lib.hid hG
  obtain ⟨N, T, hr⟩ : ∃ N T, row13 14 = { alg := 14, fam := 3, name := N, pub := 32, priv := 64, seed := 0, sig := 17088, text := T, cose := -58, typ := 0 } := ⟨⟨#[83, 76, 72, 45, 68, 83, 65, 45, 83, 72, 65, 75, 69, 45, 49, 50, 56, 102]⟩, ⟨#[50, 46, 49, 54, 46, 56, 52, 48, 46, 49, 46, 49, 48, 49, 46, 51, 46, 52, 46, 51, 46, 50, 55]⟩, by kernel_rfl⟩
  have HR := Lib.hid hr
  have hm2 : x % 25 = 13 := by rw [← hm, Int.tmod_eq_emod_of_nonneg hx0]
  clear hr hG
  go_enter Tryd.func7, Tryd.ntmps7
  go_wp2_with fail
  refine (awake13 w HG.out).mono ?_
  rintro e w1 ⟨rfl, hp⟩
  have H1 := Lib.hid hp
  clear hp
  go_wp2_with fail
  refine (get_any 14 w1 (HG.out.past H1.out)).mono ?_
  rintro e w2 ⟨he, hp⟩
  rw [if_pos (by omega), HR.out] at he
  obtain ⟨A, c, rfl, hS⟩ := he
  have H2 := Lib.hid (H1.out.trans' hp)
  clear hp hS H1
  unfold setV
  obtain ⟨n1, hn1⟩ : ∃ n1, (oidL 14).length = n1 := ⟨_, rfl⟩
  rw [hn1]
  clear hn1
  obtain ⟨u, hu⟩ : ∃ u, w2.heap.size = u := ⟨_, rfl⟩
  obtain ⟨w3, hw3⟩ : ∃ w3, w3 = w2.alloc (.cells #[.int .i64 14, .int .i64 3, .string N, .int .i64 32, .int .i64 64, .int .i64 0, .int .i64 17088, .slice A n1 c, .int .i64 (-58), .int .u32 0] 26) := ⟨_, rfl⟩
  have hp3 : Past w2 w3 := by rw [hw3]; exact past_alloc13 _ _
  have hr3 : Row w3 u 26 #[.int .i64 14, .int .i64 3, .string N, .int .i64 32, .int .i64 64, .int .i64 0, .int .i64 17088, .slice A n1 c, .int .i64 (-58), .int .u32 0] := by rw [hw3, ← hu]; exact Row.new _ _ _
  have H3 := Lib.hid (H2.out.trans' hp3)
  have HW3 := Lib.hid hw3
  have HU := Lib.hid hu
  have k1 := hr3.cell 1
  have k3 := hr3.cell 3
  have k4 := hr3.cell 4
  have k5 := hr3.cell 5
  have k6 := hr3.cell 6
  clear hp3 hr3 hw3 hu H2
  go_upto_region 5 with (fail)
  rw [← HW3.out]
  try rw [HU.out]
  clear HW3 HU
  go_wp2_with fail
  go_ret
  exact ⟨rfl, H3.out⟩

set_option maxHeartbeats 4000000 in
set_option maxRecDepth 100000 in
theorem walk_15 (x : Int) (w : World) (hm : x.tmod 25 = 14) (hx0 : 0 ≤ x) (hx1 : x ≤ 255) (hG : Glob13 w) : Calls Tryd.prog 7 #[.int .u8 x] w fun e w' => e = .returned (.bool true) ∧ Past w w' := by
  have HG := Lib.hid hG
  obtain ⟨N, T, hr⟩ : ∃ N T, row13 15 = { alg := 15, fam := 3, name := N, pub := 48, priv := 96, seed := 0, sig := 16224, text := T, cose := -59, typ := 0 } := ⟨⟨#[83, 76, 72, 45, 68, 83, 65, 45, 83, 72, 65, 75, 69, 45, 49, 57, 50, 115]⟩, ⟨#[50, 46, 49, 54, 46, 56, 52, 48, 46, 49, 46, 49, 48, 49, 46, 51, 46, 52, 46, 51, 46, 50, 56]⟩, by kernel_rfl⟩
  have HR := Lib.hid hr
  have hm2 : x % 25 = 14 := by rw [← hm, Int.tmod_eq_emod_of_nonneg hx0]
  clear hr hG
  go_enter Tryd.func7, Tryd.ntmps7
  go_wp2_with fail
  refine (awake13 w HG.out).mono ?_
  rintro e w1 ⟨rfl, hp⟩
  have H1 := Lib.hid hp
  clear hp
  go_wp2_with fail
  refine (get_any 15 w1 (HG.out.past H1.out)).mono ?_
  rintro e w2 ⟨he, hp⟩
  rw [if_pos (by omega), HR.out] at he
  obtain ⟨A, c, rfl, hS⟩ := he
  have H2 := Lib.hid (H1.out.trans' hp)
  clear hp hS H1
  unfold setV
  obtain ⟨n1, hn1⟩ : ∃ n1, (oidL 15).length = n1 := ⟨_, rfl⟩
  rw [hn1]
  clear hn1
  obtain ⟨u, hu⟩ : ∃ u, w2.heap.size = u := ⟨_, rfl⟩
  obtain ⟨w3, hw3⟩ : ∃ w3, w3 = w2.alloc (.cells #[.int .i64 15, .int .i64 3, .string N, .int .i64 48, .int .i64 96, .int .i64 0, .int .i64 16224, .slice A n1 c, .int .i64 (-59), .int .u32 0] 26) := ⟨_, rfl⟩
  have hp3 : Past w2 w3 := by rw [hw3]; exact past_alloc13 _ _
  have hr3 : Row w3 u 26 #[.int .i64 15, .int .i64 3, .string N, .int .i64 48, .int .i64 96, .int .i64 0, .int .i64 16224, .slice A n1 c, .int .i64 (-59), .int .u32 0] := by rw [hw3, ← hu]; exact Row.new _ _ _
  have H3 := Lib.hid (H2.out.trans' hp3)
  have HW3 := Lib.hid hw3
  have HU := Lib.hid hu
  have k1 := hr3.cell 1
  have k3 := hr3.cell 3
  have k4 := hr3.cell 4
  have k5 := hr3.cell 5
  have k6 := hr3.cell 6
  clear hp3 hr3 hw3 hu H2
  go_upto_region 5 with (fail)
  rw [← HW3.out]
  try rw [HU.out]
  clear HW3 HU
  go_wp2_with fail
  go_ret
  exact ⟨rfl, H3.out⟩

set_option maxHeartbeats 4000000 in
set_option maxRecDepth 100000 in
theorem walk_16 (x : Int) (w : World) (hm : x.tmod 25 = 15) (hx0 : 0 ≤ x) (hx1 : x ≤ 255) (hG : Glob13 w) : Calls Tryd.prog 7 #[.int .u8 x] w fun e w' => e = .returned (.bool true) ∧ Past w w' := by
  have HG := Lib.hid hG
  obtain ⟨N, T, hr⟩ : ∃ N T, row13 16 = { alg := 16, fam := 3, name := N, pub := 48, priv := 96, seed := 0, sig := 35664, text := T, cose := -60, typ := 0 } := ⟨⟨#[83, 76, 72, 45, 68, 83, 65, 45, 83, 72, 65, 75, 69, 45, 49, 57, 50, 102]⟩, ⟨#[50, 46, 49, 54, 46, 56, 52, 48, 46, 49, 46, 49, 48, 49, 46, 51, 46, 52, 46, 51, 46, 50, 57]⟩, by kernel_rfl⟩
  have HR := Lib.hid hr
  have hm2 : x % 25 = 15 := by rw [← hm, Int.tmod_eq_emod_of_nonneg hx0]
  clear hr hG
  go_enter Tryd.func7, Tryd.ntmps7
  go_wp2_with fail
  refine (awake13 w HG.out).mono ?_
  rintro e w1 ⟨rfl, hp⟩
  have H1 := Lib.hid hp
  clear hp
  go_wp2_with fail
  refine (get_any 16 w1 (HG.out.past H1.out)).mono ?_
  rintro e w2 ⟨he, hp⟩
  rw [if_pos (by omega), HR.out] at he
  obtain ⟨A, c, rfl, hS⟩ := he
  have H2 := Lib.hid (H1.out.trans' hp)
  clear hp hS H1
  unfold setV
  obtain ⟨n1, hn1⟩ : ∃ n1, (oidL 16).length = n1 := ⟨_, rfl⟩
  rw [hn1]
  clear hn1
  obtain ⟨u, hu⟩ : ∃ u, w2.heap.size = u := ⟨_, rfl⟩
  obtain ⟨w3, hw3⟩ : ∃ w3, w3 = w2.alloc (.cells #[.int .i64 16, .int .i64 3, .string N, .int .i64 48, .int .i64 96, .int .i64 0, .int .i64 35664, .slice A n1 c, .int .i64 (-60), .int .u32 0] 26) := ⟨_, rfl⟩
  have hp3 : Past w2 w3 := by rw [hw3]; exact past_alloc13 _ _
  have hr3 : Row w3 u 26 #[.int .i64 16, .int .i64 3, .string N, .int .i64 48, .int .i64 96, .int .i64 0, .int .i64 35664, .slice A n1 c, .int .i64 (-60), .int .u32 0] := by rw [hw3, ← hu]; exact Row.new _ _ _
  have H3 := Lib.hid (H2.out.trans' hp3)
  have HW3 := Lib.hid hw3
  have HU := Lib.hid hu
  have k1 := hr3.cell 1
  have k3 := hr3.cell 3
  have k4 := hr3.cell 4
  have k5 := hr3.cell 5
  have k6 := hr3.cell 6
  clear hp3 hr3 hw3 hu H2
  go_upto_region 5 with (fail)
  rw [← HW3.out]
  try rw [HU.out]
  clear HW3 HU
  go_wp2_with fail
  go_ret
  exact ⟨rfl, H3.out⟩

end Go.Proofs.YtfcpighmkaoofaaDoor.paramsSizes
