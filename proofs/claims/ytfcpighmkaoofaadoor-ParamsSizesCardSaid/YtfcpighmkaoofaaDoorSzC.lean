/- ParamsSizes, algorithm by algorithm. -/
import Derived.Test.YtfcpighmkaoofaaDoorFrame13
namespace Go.Proofs.YtfcpighmkaoofaaDoor.paramsSizes
open Go.RowKit
set_option linter.unusedVariables false

set_option maxHeartbeats 4000000 in
set_option maxRecDepth 100000 in
theorem walk_17 (x : Int) (w : World) (hm : x.tmod 25 = 16) (hx0 : 0 ≤ x) (hx1 : x ≤ 255) (hG : Glob13 w) : Calls Tryd.prog 7 #[.int .u8 x] w fun e w' => e = .returned (.bool true) ∧ Past w w' := by
  have HG := Lib.hid hG
  obtain ⟨N, T, hr⟩ : ∃ N T, row13 17 = { alg := 17, fam := 3, name := N, pub := 64, priv := 128, seed := 0, sig := 29792, text := T, cose := -61, typ := 0 } := ⟨⟨#[83, 76, 72, 45, 68, 83, 65, 45, 83, 72, 65, 75, 69, 45, 50, 53, 54, 115]⟩, ⟨#[50, 46, 49, 54, 46, 56, 52, 48, 46, 49, 46, 49, 48, 49, 46, 51, 46, 52, 46, 51, 46, 51, 48]⟩, by kernel_rfl⟩
  have HR := Lib.hid hr
  have hm2 : x % 25 = 16 := by rw [← hm, Int.tmod_eq_emod_of_nonneg hx0]
  clear hr hG
  go_enter Tryd.func7, Tryd.ntmps7
  go_wp2_with fail
  refine (awake13 w HG.out).mono ?_
  rintro e w1 ⟨rfl, hp⟩
  have H1 := Lib.hid hp
  clear hp
  go_wp2_with fail
  refine (get_any 17 w1 (HG.out.past H1.out)).mono ?_
  rintro e w2 ⟨he, hp⟩
  rw [if_pos (by omega), HR.out] at he
  obtain ⟨A, c, rfl, hS⟩ := he
  have H2 := Lib.hid (H1.out.trans' hp)
  clear hp hS H1
  unfold setV
  obtain ⟨n1, hn1⟩ : ∃ n1, (oidL 17).length = n1 := ⟨_, rfl⟩
  rw [hn1]
  clear hn1
  obtain ⟨u, hu⟩ : ∃ u, w2.heap.size = u := ⟨_, rfl⟩
  obtain ⟨w3, hw3⟩ : ∃ w3, w3 = w2.alloc (.cells #[.int .i64 17, .int .i64 3, .string N, .int .i64 64, .int .i64 128, .int .i64 0, .int .i64 29792, .slice A n1 c, .int .i64 (-61), .int .u32 0] 26) := ⟨_, rfl⟩
  have hp3 : Past w2 w3 := by rw [hw3]; exact past_alloc13 _ _
  have hr3 : Row w3 u 26 #[.int .i64 17, .int .i64 3, .string N, .int .i64 64, .int .i64 128, .int .i64 0, .int .i64 29792, .slice A n1 c, .int .i64 (-61), .int .u32 0] := by rw [hw3, ← hu]; exact Row.new _ _ _
  have H3 := Lib.hid (H2.out.trans' hp3)
  have HW3 := Lib.hid hw3
  have HU := Lib.hid hu
  have k1 := hr3.cell 1
  have k3 := hr3.cell 3
  have k4 := hr3.cell 4
  have k5 := hr3.cell 5
  have k6 := hr3.cell 6
  clear hp3 hr3 hw3 hu H2
  go_upto_region 5 with (fail)
  rw [← HW3.out]
  try rw [HU.out]
  clear HW3 HU
  go_wp2_with fail
  go_ret
  exact ⟨rfl, H3.out⟩

set_option maxHeartbeats 4000000 in
set_option maxRecDepth 100000 in
theorem walk_18 (x : Int) (w : World) (hm : x.tmod 25 = 17) (hx0 : 0 ≤ x) (hx1 : x ≤ 255) (hG : Glob13 w) : Calls Tryd.prog 7 #[.int .u8 x] w fun e w' => e = .returned (.bool true) ∧ Past w w' := by
  have HG := Lib.hid hG
  obtain ⟨N, T, hr⟩ : ∃ N T, row13 18 = { alg := 18, fam := 3, name := N, pub := 64, priv := 128, seed := 0, sig := 49856, text := T, cose := -62, typ := 0 } := ⟨⟨#[83, 76, 72, 45, 68, 83, 65, 45, 83, 72, 65, 75, 69, 45, 50, 53, 54, 102]⟩, ⟨#[50, 46, 49, 54, 46, 56, 52, 48, 46, 49, 46, 49, 48, 49, 46, 51, 46, 52, 46, 51, 46, 51, 49]⟩, by kernel_rfl⟩
  have HR := Lib.hid hr
  have hm2 : x % 25 = 17 := by rw [← hm, Int.tmod_eq_emod_of_nonneg hx0]
  clear hr hG
  go_enter Tryd.func7, Tryd.ntmps7
  go_wp2_with fail
  refine (awake13 w HG.out).mono ?_
  rintro e w1 ⟨rfl, hp⟩
  have H1 := Lib.hid hp
  clear hp
  go_wp2_with fail
  refine (get_any 18 w1 (HG.out.past H1.out)).mono ?_
  rintro e w2 ⟨he, hp⟩
  rw [if_pos (by omega), HR.out] at he
  obtain ⟨A, c, rfl, hS⟩ := he
  have H2 := Lib.hid (H1.out.trans' hp)
  clear hp hS H1
  unfold setV
  obtain ⟨n1, hn1⟩ : ∃ n1, (oidL 18).length = n1 := ⟨_, rfl⟩
  rw [hn1]
  clear hn1
  obtain ⟨u, hu⟩ : ∃ u, w2.heap.size = u := ⟨_, rfl⟩
  obtain ⟨w3, hw3⟩ : ∃ w3, w3 = w2.alloc (.cells #[.int .i64 18, .int .i64 3, .string N, .int .i64 64, .int .i64 128, .int .i64 0, .int .i64 49856, .slice A n1 c, .int .i64 (-62), .int .u32 0] 26) := ⟨_, rfl⟩
  have hp3 : Past w2 w3 := by rw [hw3]; exact past_alloc13 _ _
  have hr3 : Row w3 u 26 #[.int .i64 18, .int .i64 3, .string N, .int .i64 64, .int .i64 128, .int .i64 0, .int .i64 49856, .slice A n1 c, .int .i64 (-62), .int .u32 0] := by rw [hw3, ← hu]; exact Row.new _ _ _
  have H3 := Lib.hid (H2.out.trans' hp3)
  have HW3 := Lib.hid hw3
  have HU := Lib.hid hu
  have k1 := hr3.cell 1
  have k3 := hr3.cell 3
  have k4 := hr3.cell 4
  have k5 := hr3.cell 5
  have k6 := hr3.cell 6
  clear hp3 hr3 hw3 hu H2
  go_upto_region 5 with (fail)
  rw [← HW3.out]
  try rw [HU.out]
  clear HW3 HU
  go_wp2_with fail
  go_ret
  exact ⟨rfl, H3.out⟩

set_option maxHeartbeats 4000000 in
set_option maxRecDepth 100000 in
theorem walk_19 (x : Int) (w : World) (hm : x.tmod 25 = 18) (hx0 : 0 ≤ x) (hx1 : x ≤ 255) (hG : Glob13 w) : Calls Tryd.prog 7 #[.int .u8 x] w fun e w' => e = .returned (.bool true) ∧ Past w w' := by
  have HG := Lib.hid hG
  obtain ⟨N, T, hr⟩ : ∃ N T, row13 19 = { alg := 19, fam := 4, name := N, pub := 0, priv := 0, seed := 0, sig := 0, text := T, cose := 0, typ := 0 } := ⟨⟨#[72, 83, 83, 47, 76, 77, 83]⟩, ⟨#[49, 46, 50, 46, 56, 52, 48, 46, 49, 49, 51, 53, 52, 57, 46, 49, 46, 57, 46, 49, 54, 46, 51, 46, 49, 55]⟩, by kernel_rfl⟩
  have HR := Lib.hid hr
  have hm2 : x % 25 = 18 := by rw [← hm, Int.tmod_eq_emod_of_nonneg hx0]
  clear hr hG
  go_enter Tryd.func7, Tryd.ntmps7
  go_wp2_with fail
  refine (awake13 w HG.out).mono ?_
  rintro e w1 ⟨rfl, hp⟩
  have H1 := Lib.hid hp
  clear hp
  go_wp2_with fail
  refine (get_any 19 w1 (HG.out.past H1.out)).mono ?_
  rintro e w2 ⟨he, hp⟩
  rw [if_pos (by omega), HR.out] at he
  obtain ⟨A, c, rfl, hS⟩ := he
  have H2 := Lib.hid (H1.out.trans' hp)
  clear hp hS H1
  unfold setV
  obtain ⟨n1, hn1⟩ : ∃ n1, (oidL 19).length = n1 := ⟨_, rfl⟩
  rw [hn1]
  clear hn1
  obtain ⟨u, hu⟩ : ∃ u, w2.heap.size = u := ⟨_, rfl⟩
  obtain ⟨w3, hw3⟩ : ∃ w3, w3 = w2.alloc (.cells #[.int .i64 19, .int .i64 4, .string N, .int .i64 0, .int .i64 0, .int .i64 0, .int .i64 0, .slice A n1 c, .int .i64 0, .int .u32 0] 26) := ⟨_, rfl⟩
  have hp3 : Past w2 w3 := by rw [hw3]; exact past_alloc13 _ _
  have hr3 : Row w3 u 26 #[.int .i64 19, .int .i64 4, .string N, .int .i64 0, .int .i64 0, .int .i64 0, .int .i64 0, .slice A n1 c, .int .i64 0, .int .u32 0] := by rw [hw3, ← hu]; exact Row.new _ _ _
  have H3 := Lib.hid (H2.out.trans' hp3)
  have HW3 := Lib.hid hw3
  have HU := Lib.hid hu
  have k1 := hr3.cell 1
  have k3 := hr3.cell 3
  have k4 := hr3.cell 4
  have k5 := hr3.cell 5
  have k6 := hr3.cell 6
  clear hp3 hr3 hw3 hu H2
  go_upto_region 5 with (fail)
  rw [← HW3.out]
  try rw [HU.out]
  clear HW3 HU
  go_wp2_with fail
  go_ret
  exact ⟨rfl, H3.out⟩

set_option maxHeartbeats 4000000 in
set_option maxRecDepth 100000 in
theorem walk_20 (x : Int) (w : World) (hm : x.tmod 25 = 19) (hx0 : 0 ≤ x) (hx1 : x ≤ 255) (hG : Glob13 w) : Calls Tryd.prog 7 #[.int .u8 x] w fun e w' => e = .returned (.bool true) ∧ Past w w' := by
  have HG := Lib.hid hG
  obtain ⟨N, T, hr⟩ : ∃ N T, row13 20 = { alg := 20, fam := 5, name := N, pub := 68, priv := 0, seed := 0, sig := 2500, text := T, cose := 0, typ := 1 } := ⟨⟨#[88, 77, 83, 83, 45, 83, 72, 65, 50, 95, 49, 48, 95, 50, 53, 54]⟩, ⟨#[49, 46, 51, 46, 54, 46, 49, 46, 53, 46, 53, 46, 55, 46, 54, 46, 51, 52]⟩, by kernel_rfl⟩
  have HR := Lib.hid hr
  have hm2 : x % 25 = 19 := by rw [← hm, Int.tmod_eq_emod_of_nonneg hx0]
  clear hr hG
  go_enter Tryd.func7, Tryd.ntmps7
  go_wp2_with fail
  refine (awake13 w HG.out).mono ?_
  rintro e w1 ⟨rfl, hp⟩
  have H1 := Lib.hid hp
  clear hp
  go_wp2_with fail
  refine (get_any 20 w1 (HG.out.past H1.out)).mono ?_
  rintro e w2 ⟨he, hp⟩
  rw [if_pos (by omega), HR.out] at he
  obtain ⟨A, c, rfl, hS⟩ := he
  have H2 := Lib.hid (H1.out.trans' hp)
  clear hp hS H1
  unfold setV
  obtain ⟨n1, hn1⟩ : ∃ n1, (oidL 20).length = n1 := ⟨_, rfl⟩
  rw [hn1]
  clear hn1
  obtain ⟨u, hu⟩ : ∃ u, w2.heap.size = u := ⟨_, rfl⟩
  obtain ⟨w3, hw3⟩ : ∃ w3, w3 = w2.alloc (.cells #[.int .i64 20, .int .i64 5, .string N, .int .i64 68, .int .i64 0, .int .i64 0, .int .i64 2500, .slice A n1 c, .int .i64 0, .int .u32 1] 26) := ⟨_, rfl⟩
  have hp3 : Past w2 w3 := by rw [hw3]; exact past_alloc13 _ _
  have hr3 : Row w3 u 26 #[.int .i64 20, .int .i64 5, .string N, .int .i64 68, .int .i64 0, .int .i64 0, .int .i64 2500, .slice A n1 c, .int .i64 0, .int .u32 1] := by rw [hw3, ← hu]; exact Row.new _ _ _
  have H3 := Lib.hid (H2.out.trans' hp3)
  have HW3 := Lib.hid hw3
  have HU := Lib.hid hu
  have k1 := hr3.cell 1
  have k3 := hr3.cell 3
  have k4 := hr3.cell 4
  have k5 := hr3.cell 5
  have k6 := hr3.cell 6
  clear hp3 hr3 hw3 hu H2
  go_upto_region 5 with (fail)
  rw [← HW3.out]
  try rw [HU.out]
  clear HW3 HU
  go_wp2_with fail
  go_ret
  exact ⟨rfl, H3.out⟩

set_option maxHeartbeats 4000000 in
set_option maxRecDepth 100000 in
theorem walk_21 (x : Int) (w : World) (hm : x.tmod 25 = 20) (hx0 : 0 ≤ x) (hx1 : x ≤ 255) (hG : Glob13 w) : Calls Tryd.prog 7 #[.int .u8 x] w fun e w' => e = .returned (.bool true) ∧ Past w w' := by
  have HG := Lib.hid hG
  obtain ⟨N, T, hr⟩ : ∃ N T, row13 21 = { alg := 21, fam := 5, name := N, pub := 68, priv := 0, seed := 0, sig := 2692, text := T, cose := 0, typ := 2 } := ⟨⟨#[88, 77, 83, 83, 45, 83, 72, 65, 50, 95, 49, 54, 95, 50, 53, 54]⟩, ⟨#[49, 46, 51, 46, 54, 46, 49, 46, 53, 46, 53, 46, 55, 46, 54, 46, 51, 52]⟩, by kernel_rfl⟩
  have HR := Lib.hid hr
  have hm2 : x % 25 = 20 := by rw [← hm, Int.tmod_eq_emod_of_nonneg hx0]
  clear hr hG
  go_enter Tryd.func7, Tryd.ntmps7
  go_wp2_with fail
  refine (awake13 w HG.out).mono ?_
  rintro e w1 ⟨rfl, hp⟩
  have H1 := Lib.hid hp
  clear hp
  go_wp2_with fail
  refine (get_any 21 w1 (HG.out.past H1.out)).mono ?_
  rintro e w2 ⟨he, hp⟩
  rw [if_pos (by omega), HR.out] at he
  obtain ⟨A, c, rfl, hS⟩ := he
  have H2 := Lib.hid (H1.out.trans' hp)
  clear hp hS H1
  unfold setV
  obtain ⟨n1, hn1⟩ : ∃ n1, (oidL 21).length = n1 := ⟨_, rfl⟩
  rw [hn1]
  clear hn1
  obtain ⟨u, hu⟩ : ∃ u, w2.heap.size = u := ⟨_, rfl⟩
  obtain ⟨w3, hw3⟩ : ∃ w3, w3 = w2.alloc (.cells #[.int .i64 21, .int .i64 5, .string N, .int .i64 68, .int .i64 0, .int .i64 0, .int .i64 2692, .slice A n1 c, .int .i64 0, .int .u32 2] 26) := ⟨_, rfl⟩
  have hp3 : Past w2 w3 := by rw [hw3]; exact past_alloc13 _ _
  have hr3 : Row w3 u 26 #[.int .i64 21, .int .i64 5, .string N, .int .i64 68, .int .i64 0, .int .i64 0, .int .i64 2692, .slice A n1 c, .int .i64 0, .int .u32 2] := by rw [hw3, ← hu]; exact Row.new _ _ _
  have H3 := Lib.hid (H2.out.trans' hp3)
  have HW3 := Lib.hid hw3
  have HU := Lib.hid hu
  have k1 := hr3.cell 1
  have k3 := hr3.cell 3
  have k4 := hr3.cell 4
  have k5 := hr3.cell 5
  have k6 := hr3.cell 6
  clear hp3 hr3 hw3 hu H2
  go_upto_region 5 with (fail)
  rw [← HW3.out]
  try rw [HU.out]
  clear HW3 HU
  go_wp2_with fail
  go_ret
  exact ⟨rfl, H3.out⟩

set_option maxHeartbeats 4000000 in
set_option maxRecDepth 100000 in
theorem walk_22 (x : Int) (w : World) (hm : x.tmod 25 = 21) (hx0 : 0 ≤ x) (hx1 : x ≤ 255) (hG : Glob13 w) : Calls Tryd.prog 7 #[.int .u8 x] w fun e w' => e = .returned (.bool true) ∧ Past w w' := by
  have HG := Lib.hid hG
  obtain ⟨N, T, hr⟩ : ∃ N T, row13 22 = { alg := 22, fam := 5, name := N, pub := 68, priv := 0, seed := 0, sig := 2820, text := T, cose := 0, typ := 3 } := ⟨⟨#[88, 77, 83, 83, 45, 83, 72, 65, 50, 95, 50, 48, 95, 50, 53, 54]⟩, ⟨#[49, 46, 51, 46, 54, 46, 49, 46, 53, 46, 53, 46, 55, 46, 54, 46, 51, 52]⟩, by kernel_rfl⟩
  have HR := Lib.hid hr
  have hm2 : x % 25 = 21 := by rw [← hm, Int.tmod_eq_emod_of_nonneg hx0]
  clear hr hG
  go_enter Tryd.func7, Tryd.ntmps7
  go_wp2_with fail
  refine (awake13 w HG.out).mono ?_
  rintro e w1 ⟨rfl, hp⟩
  have H1 := Lib.hid hp
  clear hp
  go_wp2_with fail
  refine (get_any 22 w1 (HG.out.past H1.out)).mono ?_
  rintro e w2 ⟨he, hp⟩
  rw [if_pos (by omega), HR.out] at he
  obtain ⟨A, c, rfl, hS⟩ := he
  have H2 := Lib.hid (H1.out.trans' hp)
  clear hp hS H1
  unfold setV
  obtain ⟨n1, hn1⟩ : ∃ n1, (oidL 22).length = n1 := ⟨_, rfl⟩
  rw [hn1]
  clear hn1
  obtain ⟨u, hu⟩ : ∃ u, w2.heap.size = u := ⟨_, rfl⟩
  obtain ⟨w3, hw3⟩ : ∃ w3, w3 = w2.alloc (.cells #[.int .i64 22, .int .i64 5, .string N, .int .i64 68, .int .i64 0, .int .i64 0, .int .i64 2820, .slice A n1 c, .int .i64 0, .int .u32 3] 26) := ⟨_, rfl⟩
  have hp3 : Past w2 w3 := by rw [hw3]; exact past_alloc13 _ _
  have hr3 : Row w3 u 26 #[.int .i64 22, .int .i64 5, .string N, .int .i64 68, .int .i64 0, .int .i64 0, .int .i64 2820, .slice A n1 c, .int .i64 0, .int .u32 3] := by rw [hw3, ← hu]; exact Row.new _ _ _
  have H3 := Lib.hid (H2.out.trans' hp3)
  have HW3 := Lib.hid hw3
  have HU := Lib.hid hu
  have k1 := hr3.cell 1
  have k3 := hr3.cell 3
  have k4 := hr3.cell 4
  have k5 := hr3.cell 5
  have k6 := hr3.cell 6
  clear hp3 hr3 hw3 hu H2
  go_upto_region 5 with (fail)
  rw [← HW3.out]
  try rw [HU.out]
  clear HW3 HU
  go_wp2_with fail
  go_ret
  exact ⟨rfl, H3.out⟩

set_option maxHeartbeats 4000000 in
set_option maxRecDepth 100000 in
theorem walk_23 (x : Int) (w : World) (hm : x.tmod 25 = 22) (hx0 : 0 ≤ x) (hx1 : x ≤ 255) (hG : Glob13 w) : Calls Tryd.prog 7 #[.int .u8 x] w fun e w' => e = .returned (.bool true) ∧ Past w w' := by
  have HG := Lib.hid hG
  obtain ⟨N, T, hr⟩ : ∃ N T, row13 23 = { alg := 23, fam := 5, name := N, pub := 132, priv := 0, seed := 0, sig := 9092, text := T, cose := 0, typ := 4 } := ⟨⟨#[88, 77, 83, 83, 45, 83, 72, 65, 50, 95, 49, 48, 95, 53, 49, 50]⟩, ⟨#[49, 46, 51, 46, 54, 46, 49, 46, 53, 46, 53, 46, 55, 46, 54, 46, 51, 52]⟩, by kernel_rfl⟩
  have HR := Lib.hid hr
  have hm2 : x % 25 = 22 := by rw [← hm, Int.tmod_eq_emod_of_nonneg hx0]
  clear hr hG
  go_enter Tryd.func7, Tryd.ntmps7
  go_wp2_with fail
  refine (awake13 w HG.out).mono ?_
  rintro e w1 ⟨rfl, hp⟩
  have H1 := Lib.hid hp
  clear hp
  go_wp2_with fail
  refine (get_any 23 w1 (HG.out.past H1.out)).mono ?_
  rintro e w2 ⟨he, hp⟩
  rw [if_pos (by omega), HR.out] at he
  obtain ⟨A, c, rfl, hS⟩ := he
  have H2 := Lib.hid (H1.out.trans' hp)
  clear hp hS H1
  unfold setV
  obtain ⟨n1, hn1⟩ : ∃ n1, (oidL 23).length = n1 := ⟨_, rfl⟩
  rw [hn1]
  clear hn1
  obtain ⟨u, hu⟩ : ∃ u, w2.heap.size = u := ⟨_, rfl⟩
  obtain ⟨w3, hw3⟩ : ∃ w3, w3 = w2.alloc (.cells #[.int .i64 23, .int .i64 5, .string N, .int .i64 132, .int .i64 0, .int .i64 0, .int .i64 9092, .slice A n1 c, .int .i64 0, .int .u32 4] 26) := ⟨_, rfl⟩
  have hp3 : Past w2 w3 := by rw [hw3]; exact past_alloc13 _ _
  have hr3 : Row w3 u 26 #[.int .i64 23, .int .i64 5, .string N, .int .i64 132, .int .i64 0, .int .i64 0, .int .i64 9092, .slice A n1 c, .int .i64 0, .int .u32 4] := by rw [hw3, ← hu]; exact Row.new _ _ _
  have H3 := Lib.hid (H2.out.trans' hp3)
  have HW3 := Lib.hid hw3
  have HU := Lib.hid hu
  have k1 := hr3.cell 1
  have k3 := hr3.cell 3
  have k4 := hr3.cell 4
  have k5 := hr3.cell 5
  have k6 := hr3.cell 6
  clear hp3 hr3 hw3 hu H2
  go_upto_region 5 with (fail)
  rw [← HW3.out]
  try rw [HU.out]
  clear HW3 HU
  go_wp2_with fail
  go_ret
  exact ⟨rfl, H3.out⟩

set_option maxHeartbeats 4000000 in
set_option maxRecDepth 100000 in
theorem walk_24 (x : Int) (w : World) (hm : x.tmod 25 = 23) (hx0 : 0 ≤ x) (hx1 : x ≤ 255) (hG : Glob13 w) : Calls Tryd.prog 7 #[.int .u8 x] w fun e w' => e = .returned (.bool true) ∧ Past w w' := by
  have HG := Lib.hid hG
  obtain ⟨N, T, hr⟩ : ∃ N T, row13 24 = { alg := 24, fam := 5, name := N, pub := 132, priv := 0, seed := 0, sig := 9476, text := T, cose := 0, typ := 5 } := ⟨⟨#[88, 77, 83, 83, 45, 83, 72, 65, 50, 95, 49, 54, 95, 53, 49, 50]⟩, ⟨#[49, 46, 51, 46, 54, 46, 49, 46, 53, 46, 53, 46, 55, 46, 54, 46, 51, 52]⟩, by kernel_rfl⟩
  have HR := Lib.hid hr
  have hm2 : x % 25 = 23 := by rw [← hm, Int.tmod_eq_emod_of_nonneg hx0]
  clear hr hG
  go_enter Tryd.func7, Tryd.ntmps7
  go_wp2_with fail
  refine (awake13 w HG.out).mono ?_
  rintro e w1 ⟨rfl, hp⟩
  have H1 := Lib.hid hp
  clear hp
  go_wp2_with fail
  refine (get_any 24 w1 (HG.out.past H1.out)).mono ?_
  rintro e w2 ⟨he, hp⟩
  rw [if_pos (by omega), HR.out] at he
  obtain ⟨A, c, rfl, hS⟩ := he
  have H2 := Lib.hid (H1.out.trans' hp)
  clear hp hS H1
  unfold setV
  obtain ⟨n1, hn1⟩ : ∃ n1, (oidL 24).length = n1 := ⟨_, rfl⟩
  rw [hn1]
  clear hn1
  obtain ⟨u, hu⟩ : ∃ u, w2.heap.size = u := ⟨_, rfl⟩
  obtain ⟨w3, hw3⟩ : ∃ w3, w3 = w2.alloc (.cells #[.int .i64 24, .int .i64 5, .string N, .int .i64 132, .int .i64 0, .int .i64 0, .int .i64 9476, .slice A n1 c, .int .i64 0, .int .u32 5] 26) := ⟨_, rfl⟩
  have hp3 : Past w2 w3 := by rw [hw3]; exact past_alloc13 _ _
  have hr3 : Row w3 u 26 #[.int .i64 24, .int .i64 5, .string N, .int .i64 132, .int .i64 0, .int .i64 0, .int .i64 9476, .slice A n1 c, .int .i64 0, .int .u32 5] := by rw [hw3, ← hu]; exact Row.new _ _ _
  have H3 := Lib.hid (H2.out.trans' hp3)
  have HW3 := Lib.hid hw3
  have HU := Lib.hid hu
  have k1 := hr3.cell 1
  have k3 := hr3.cell 3
  have k4 := hr3.cell 4
  have k5 := hr3.cell 5
  have k6 := hr3.cell 6
  clear hp3 hr3 hw3 hu H2
  go_upto_region 5 with (fail)
  rw [← HW3.out]
  try rw [HU.out]
  clear HW3 HU
  go_wp2_with fail
  go_ret
  exact ⟨rfl, H3.out⟩

set_option maxHeartbeats 4000000 in
set_option maxRecDepth 100000 in
theorem walk_25 (x : Int) (w : World) (hm : x.tmod 25 = 24) (hx0 : 0 ≤ x) (hx1 : x ≤ 255) (hG : Glob13 w) : Calls Tryd.prog 7 #[.int .u8 x] w fun e w' => e = .returned (.bool true) ∧ Past w w' := by
  have HG := Lib.hid hG
  obtain ⟨N, T, hr⟩ : ∃ N T, row13 25 = { alg := 25, fam := 5, name := N, pub := 132, priv := 0, seed := 0, sig := 9732, text := T, cose := 0, typ := 6 } := ⟨⟨#[88, 77, 83, 83, 45, 83, 72, 65, 50, 95, 50, 48, 95, 53, 49, 50]⟩, ⟨#[49, 46, 51, 46, 54, 46, 49, 46, 53, 46, 53, 46, 55, 46, 54, 46, 51, 52]⟩, by kernel_rfl⟩
  have HR := Lib.hid hr
  have hm2 : x % 25 = 24 := by rw [← hm, Int.tmod_eq_emod_of_nonneg hx0]
  clear hr hG
  go_enter Tryd.func7, Tryd.ntmps7
  go_wp2_with fail
  refine (awake13 w HG.out).mono ?_
  rintro e w1 ⟨rfl, hp⟩
  have H1 := Lib.hid hp
  clear hp
  go_wp2_with fail
  refine (get_any 25 w1 (HG.out.past H1.out)).mono ?_
  rintro e w2 ⟨he, hp⟩
  rw [if_pos (by omega), HR.out] at he
  obtain ⟨A, c, rfl, hS⟩ := he
  have H2 := Lib.hid (H1.out.trans' hp)
  clear hp hS H1
  unfold setV
  obtain ⟨n1, hn1⟩ : ∃ n1, (oidL 25).length = n1 := ⟨_, rfl⟩
  rw [hn1]
  clear hn1
  obtain ⟨u, hu⟩ : ∃ u, w2.heap.size = u := ⟨_, rfl⟩
  obtain ⟨w3, hw3⟩ : ∃ w3, w3 = w2.alloc (.cells #[.int .i64 25, .int .i64 5, .string N, .int .i64 132, .int .i64 0, .int .i64 0, .int .i64 9732, .slice A n1 c, .int .i64 0, .int .u32 6] 26) := ⟨_, rfl⟩
  have hp3 : Past w2 w3 := by rw [hw3]; exact past_alloc13 _ _
  have hr3 : Row w3 u 26 #[.int .i64 25, .int .i64 5, .string N, .int .i64 132, .int .i64 0, .int .i64 0, .int .i64 9732, .slice A n1 c, .int .i64 0, .int .u32 6] := by rw [hw3, ← hu]; exact Row.new _ _ _
  have H3 := Lib.hid (H2.out.trans' hp3)
  have HW3 := Lib.hid hw3
  have HU := Lib.hid hu
  have k1 := hr3.cell 1
  have k3 := hr3.cell 3
  have k4 := hr3.cell 4
  have k5 := hr3.cell 5
  have k6 := hr3.cell 6
  clear hp3 hr3 hw3 hu H2
  go_upto_region 5 with (fail)
  rw [← HW3.out]
  try rw [HU.out]
  clear HW3 HU
  go_wp2_with fail
  go_ret
  exact ⟨rfl, H3.out⟩

end Go.Proofs.YtfcpighmkaoofaaDoor.paramsSizes
