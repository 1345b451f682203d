/- ParamsSizes, algorithm by algorithm. -/
import Derived.Test.YtfcpighmkaoofaaDoorFrame13
namespace Go.Proofs.YtfcpighmkaoofaaDoor.paramsSizes
open Go.RowKit
set_option linter.unusedVariables false

set_option maxHeartbeats 4000000 in
set_option maxRecDepth 100000 in
theorem walk_1 (x : Int) (w : World) (hm : x.tmod 25 = 0) (hx0 : 0 ≤ x) (hx1 : x ≤ 255) (hG : Glob13 w) : Calls Tryd.prog 7 #[.int .u8 x] w fun e w' => e = .returned (.bool true) ∧ Past w w' := by
  have HG := Lib.hid hG
  obtain ⟨N, T, hr⟩ : ∃ N T, row13 1 = { alg := 1, fam := 1, name := N, pub := 800, priv := 1632, seed := 64, sig := 0, text := T, cose := -111, typ := 0 } := ⟨⟨#[77, 76, 45, 75, 69, 77, 45, 53, 49, 50]⟩, ⟨#[50, 46, 49, 54, 46, 56, 52, 48, 46, 49, 46, 49, 48, 49, 46, 51, 46, 52, 46, 52, 46, 49]⟩, by kernel_rfl⟩
  have HR := Lib.hid hr
  have hm2 : x % 25 = 0 := by rw [← hm, Int.tmod_eq_emod_of_nonneg hx0]
  clear hr hG
  go_enter Tryd.func7, Tryd.ntmps7
  go_wp2_with fail
  refine (awake13 w HG.out).mono ?_
  rintro e w1 ⟨rfl, hp⟩
  have H1 := Lib.hid hp
  clear hp
  go_wp2_with fail
  refine (get_any 1 w1 (HG.out.past H1.out)).mono ?_
  rintro e w2 ⟨he, hp⟩
  rw [if_pos (by omega), HR.out] at he
  obtain ⟨A, c, rfl, hS⟩ := he
  have H2 := Lib.hid (H1.out.trans' hp)
  clear hp hS H1
  unfold setV
  obtain ⟨n1, hn1⟩ : ∃ n1, (oidL 1).length = n1 := ⟨_, rfl⟩
  rw [hn1]
  clear hn1
  obtain ⟨u, hu⟩ : ∃ u, w2.heap.size = u := ⟨_, rfl⟩
  obtain ⟨w3, hw3⟩ : ∃ w3, w3 = w2.alloc (.cells #[.int .i64 1, .int .i64 1, .string N, .int .i64 800, .int .i64 1632, .int .i64 64, .int .i64 0, .slice A n1 c, .int .i64 (-111), .int .u32 0] 26) := ⟨_, rfl⟩
  have hp3 : Past w2 w3 := by rw [hw3]; exact past_alloc13 _ _
  have hr3 : Row w3 u 26 #[.int .i64 1, .int .i64 1, .string N, .int .i64 800, .int .i64 1632, .int .i64 64, .int .i64 0, .slice A n1 c, .int .i64 (-111), .int .u32 0] := by rw [hw3, ← hu]; exact Row.new _ _ _
  have H3 := Lib.hid (H2.out.trans' hp3)
  have HW3 := Lib.hid hw3
  have HU := Lib.hid hu
  have k1 := hr3.cell 1
  have k3 := hr3.cell 3
  have k4 := hr3.cell 4
  have k5 := hr3.cell 5
  have k6 := hr3.cell 6
  clear hp3 hr3 hw3 hu H2
  go_upto_region 5 with (fail)
  rw [← HW3.out]
  try rw [HU.out]
  clear HW3 HU
  go_wp2_with fail
  go_ret
  exact ⟨rfl, H3.out⟩

set_option maxHeartbeats 4000000 in
set_option maxRecDepth 100000 in
theorem walk_2 (x : Int) (w : World) (hm : x.tmod 25 = 1) (hx0 : 0 ≤ x) (hx1 : x ≤ 255) (hG : Glob13 w) : Calls Tryd.prog 7 #[.int .u8 x] w fun e w' => e = .returned (.bool true) ∧ Past w w' := by
  have HG := Lib.hid hG
  obtain ⟨N, T, hr⟩ : ∃ N T, row13 2 = { alg := 2, fam := 1, name := N, pub := 1184, priv := 2400, seed := 64, sig := 0, text := T, cose := -112, typ := 0 } := ⟨⟨#[77, 76, 45, 75, 69, 77, 45, 55, 54, 56]⟩, ⟨#[50, 46, 49, 54, 46, 56, 52, 48, 46, 49, 46, 49, 48, 49, 46, 51, 46, 52, 46, 52, 46, 50]⟩, by kernel_rfl⟩
  have HR := Lib.hid hr
  have hm2 : x % 25 = 1 := by rw [← hm, Int.tmod_eq_emod_of_nonneg hx0]
  clear hr hG
  go_enter Tryd.func7, Tryd.ntmps7
  go_wp2_with fail
  refine (awake13 w HG.out).mono ?_
  rintro e w1 ⟨rfl, hp⟩
  have H1 := Lib.hid hp
  clear hp
  go_wp2_with fail
  refine (get_any 2 w1 (HG.out.past H1.out)).mono ?_
  rintro e w2 ⟨he, hp⟩
  rw [if_pos (by omega), HR.out] at he
  obtain ⟨A, c, rfl, hS⟩ := he
  have H2 := Lib.hid (H1.out.trans' hp)
  clear hp hS H1
  unfold setV
  obtain ⟨n1, hn1⟩ : ∃ n1, (oidL 2).length = n1 := ⟨_, rfl⟩
  rw [hn1]
  clear hn1
  obtain ⟨u, hu⟩ : ∃ u, w2.heap.size = u := ⟨_, rfl⟩
  obtain ⟨w3, hw3⟩ : ∃ w3, w3 = w2.alloc (.cells #[.int .i64 2, .int .i64 1, .string N, .int .i64 1184, .int .i64 2400, .int .i64 64, .int .i64 0, .slice A n1 c, .int .i64 (-112), .int .u32 0] 26) := ⟨_, rfl⟩
  have hp3 : Past w2 w3 := by rw [hw3]; exact past_alloc13 _ _
  have hr3 : Row w3 u 26 #[.int .i64 2, .int .i64 1, .string N, .int .i64 1184, .int .i64 2400, .int .i64 64, .int .i64 0, .slice A n1 c, .int .i64 (-112), .int .u32 0] := by rw [hw3, ← hu]; exact Row.new _ _ _
  have H3 := Lib.hid (H2.out.trans' hp3)
  have HW3 := Lib.hid hw3
  have HU := Lib.hid hu
  have k1 := hr3.cell 1
  have k3 := hr3.cell 3
  have k4 := hr3.cell 4
  have k5 := hr3.cell 5
  have k6 := hr3.cell 6
  clear hp3 hr3 hw3 hu H2
  go_upto_region 5 with (fail)
  rw [← HW3.out]
  try rw [HU.out]
  clear HW3 HU
  go_wp2_with fail
  go_ret
  exact ⟨rfl, H3.out⟩

set_option maxHeartbeats 4000000 in
set_option maxRecDepth 100000 in
theorem walk_3 (x : Int) (w : World) (hm : x.tmod 25 = 2) (hx0 : 0 ≤ x) (hx1 : x ≤ 255) (hG : Glob13 w) : Calls Tryd.prog 7 #[.int .u8 x] w fun e w' => e = .returned (.bool true) ∧ Past w w' := by
  have HG := Lib.hid hG
  obtain ⟨N, T, hr⟩ : ∃ N T, row13 3 = { alg := 3, fam := 1, name := N, pub := 1568, priv := 3168, seed := 64, sig := 0, text := T, cose := -113, typ := 0 } := ⟨⟨#[77, 76, 45, 75, 69, 77, 45, 49, 48, 50, 52]⟩, ⟨#[50, 46, 49, 54, 46, 56, 52, 48, 46, 49, 46, 49, 48, 49, 46, 51, 46, 52, 46, 52, 46, 51]⟩, by kernel_rfl⟩
  have HR := Lib.hid hr
  have hm2 : x % 25 = 2 := by rw [← hm, Int.tmod_eq_emod_of_nonneg hx0]
  clear hr hG
  go_enter Tryd.func7, Tryd.ntmps7
  go_wp2_with fail
  refine (awake13 w HG.out).mono ?_
  rintro e w1 ⟨rfl, hp⟩
  have H1 := Lib.hid hp
  clear hp
  go_wp2_with fail
  refine (get_any 3 w1 (HG.out.past H1.out)).mono ?_
  rintro e w2 ⟨he, hp⟩
  rw [if_pos (by omega), HR.out] at he
  obtain ⟨A, c, rfl, hS⟩ := he
  have H2 := Lib.hid (H1.out.trans' hp)
  clear hp hS H1
  unfold setV
  obtain ⟨n1, hn1⟩ : ∃ n1, (oidL 3).length = n1 := ⟨_, rfl⟩
  rw [hn1]
  clear hn1
  obtain ⟨u, hu⟩ : ∃ u, w2.heap.size = u := ⟨_, rfl⟩
  obtain ⟨w3, hw3⟩ : ∃ w3, w3 = w2.alloc (.cells #[.int .i64 3, .int .i64 1, .string N, .int .i64 1568, .int .i64 3168, .int .i64 64, .int .i64 0, .slice A n1 c, .int .i64 (-113), .int .u32 0] 26) := ⟨_, rfl⟩
  have hp3 : Past w2 w3 := by rw [hw3]; exact past_alloc13 _ _
  have hr3 : Row w3 u 26 #[.int .i64 3, .int .i64 1, .string N, .int .i64 1568, .int .i64 3168, .int .i64 64, .int .i64 0, .slice A n1 c, .int .i64 (-113), .int .u32 0] := by rw [hw3, ← hu]; exact Row.new _ _ _
  have H3 := Lib.hid (H2.out.trans' hp3)
  have HW3 := Lib.hid hw3
  have HU := Lib.hid hu
  have k1 := hr3.cell 1
  have k3 := hr3.cell 3
  have k4 := hr3.cell 4
  have k5 := hr3.cell 5
  have k6 := hr3.cell 6
  clear hp3 hr3 hw3 hu H2
  go_upto_region 5 with (fail)
  rw [← HW3.out]
  try rw [HU.out]
  clear HW3 HU
  go_wp2_with fail
  go_ret
  exact ⟨rfl, H3.out⟩

set_option maxHeartbeats 4000000 in
set_option maxRecDepth 100000 in
theorem walk_4 (x : Int) (w : World) (hm : x.tmod 25 = 3) (hx0 : 0 ≤ x) (hx1 : x ≤ 255) (hG : Glob13 w) : Calls Tryd.prog 7 #[.int .u8 x] w fun e w' => e = .returned (.bool true) ∧ Past w w' := by
  have HG := Lib.hid hG
  obtain ⟨N, T, hr⟩ : ∃ N T, row13 4 = { alg := 4, fam := 2, name := N, pub := 1312, priv := 2560, seed := 32, sig := 2420, text := T, cose := -48, typ := 0 } := ⟨⟨#[77, 76, 45, 68, 83, 65, 45, 52, 52]⟩, ⟨#[50, 46, 49, 54, 46, 56, 52, 48, 46, 49, 46, 49, 48, 49, 46, 51, 46, 52, 46, 51, 46, 49, 55]⟩, by kernel_rfl⟩
  have HR := Lib.hid hr
  have hm2 : x % 25 = 3 := by rw [← hm, Int.tmod_eq_emod_of_nonneg hx0]
  clear hr hG
  go_enter Tryd.func7, Tryd.ntmps7
  go_wp2_with fail
  refine (awake13 w HG.out).mono ?_
  rintro e w1 ⟨rfl, hp⟩
  have H1 := Lib.hid hp
  clear hp
  go_wp2_with fail
  refine (get_any 4 w1 (HG.out.past H1.out)).mono ?_
  rintro e w2 ⟨he, hp⟩
  rw [if_pos (by omega), HR.out] at he
  obtain ⟨A, c, rfl, hS⟩ := he
  have H2 := Lib.hid (H1.out.trans' hp)
  clear hp hS H1
  unfold setV
  obtain ⟨n1, hn1⟩ : ∃ n1, (oidL 4).length = n1 := ⟨_, rfl⟩
  rw [hn1]
  clear hn1
  obtain ⟨u, hu⟩ : ∃ u, w2.heap.size = u := ⟨_, rfl⟩
  obtain ⟨w3, hw3⟩ : ∃ w3, w3 = w2.alloc (.cells #[.int .i64 4, .int .i64 2, .string N, .int .i64 1312, .int .i64 2560, .int .i64 32, .int .i64 2420, .slice A n1 c, .int .i64 (-48), .int .u32 0] 26) := ⟨_, rfl⟩
  have hp3 : Past w2 w3 := by rw [hw3]; exact past_alloc13 _ _
  have hr3 : Row w3 u 26 #[.int .i64 4, .int .i64 2, .string N, .int .i64 1312, .int .i64 2560, .int .i64 32, .int .i64 2420, .slice A n1 c, .int .i64 (-48), .int .u32 0] := by rw [hw3, ← hu]; exact Row.new _ _ _
  have H3 := Lib.hid (H2.out.trans' hp3)
  have HW3 := Lib.hid hw3
  have HU := Lib.hid hu
  have k1 := hr3.cell 1
  have k3 := hr3.cell 3
  have k4 := hr3.cell 4
  have k5 := hr3.cell 5
  have k6 := hr3.cell 6
  clear hp3 hr3 hw3 hu H2
  go_upto_region 5 with (fail)
  rw [← HW3.out]
  try rw [HU.out]
  clear HW3 HU
  go_wp2_with fail
  go_ret
  exact ⟨rfl, H3.out⟩

set_option maxHeartbeats 4000000 in
set_option maxRecDepth 100000 in
theorem walk_5 (x : Int) (w : World) (hm : x.tmod 25 = 4) (hx0 : 0 ≤ x) (hx1 : x ≤ 255) (hG : Glob13 w) : Calls Tryd.prog 7 #[.int .u8 x] w fun e w' => e = .returned (.bool true) ∧ Past w w' := by
  have HG := Lib.hid hG
  obtain ⟨N, T, hr⟩ : ∃ N T, row13 5 = { alg := 5, fam := 2, name := N, pub := 1952, priv := 4032, seed := 32, sig := 3309, text := T, cose := -49, typ := 0 } := ⟨⟨#[77, 76, 45, 68, 83, 65, 45, 54, 53]⟩, ⟨#[50, 46, 49, 54, 46, 56, 52, 48, 46, 49, 46, 49, 48, 49, 46, 51, 46, 52, 46, 51, 46, 49, 56]⟩, by kernel_rfl⟩
  have HR := Lib.hid hr
  have hm2 : x % 25 = 4 := by rw [← hm, Int.tmod_eq_emod_of_nonneg hx0]
  clear hr hG
  go_enter Tryd.func7, Tryd.ntmps7
  go_wp2_with fail
  refine (awake13 w HG.out).mono ?_
  rintro e w1 ⟨rfl, hp⟩
  have H1 := Lib.hid hp
  clear hp
  go_wp2_with fail
  refine (get_any 5 w1 (HG.out.past H1.out)).mono ?_
  rintro e w2 ⟨he, hp⟩
  rw [if_pos (by omega), HR.out] at he
  obtain ⟨A, c, rfl, hS⟩ := he
  have H2 := Lib.hid (H1.out.trans' hp)
  clear hp hS H1
  unfold setV
  obtain ⟨n1, hn1⟩ : ∃ n1, (oidL 5).length = n1 := ⟨_, rfl⟩
  rw [hn1]
  clear hn1
  obtain ⟨u, hu⟩ : ∃ u, w2.heap.size = u := ⟨_, rfl⟩
  obtain ⟨w3, hw3⟩ : ∃ w3, w3 = w2.alloc (.cells #[.int .i64 5, .int .i64 2, .string N, .int .i64 1952, .int .i64 4032, .int .i64 32, .int .i64 3309, .slice A n1 c, .int .i64 (-49), .int .u32 0] 26) := ⟨_, rfl⟩
  have hp3 : Past w2 w3 := by rw [hw3]; exact past_alloc13 _ _
  have hr3 : Row w3 u 26 #[.int .i64 5, .int .i64 2, .string N, .int .i64 1952, .int .i64 4032, .int .i64 32, .int .i64 3309, .slice A n1 c, .int .i64 (-49), .int .u32 0] := by rw [hw3, ← hu]; exact Row.new _ _ _
  have H3 := Lib.hid (H2.out.trans' hp3)
  have HW3 := Lib.hid hw3
  have HU := Lib.hid hu
  have k1 := hr3.cell 1
  have k3 := hr3.cell 3
  have k4 := hr3.cell 4
  have k5 := hr3.cell 5
  have k6 := hr3.cell 6
  clear hp3 hr3 hw3 hu H2
  go_upto_region 5 with (fail)
  rw [← HW3.out]
  try rw [HU.out]
  clear HW3 HU
  go_wp2_with fail
  go_ret
  exact ⟨rfl, H3.out⟩

set_option maxHeartbeats 4000000 in
set_option maxRecDepth 100000 in
theorem walk_6 (x : Int) (w : World) (hm : x.tmod 25 = 5) (hx0 : 0 ≤ x) (hx1 : x ≤ 255) (hG : Glob13 w) : Calls Tryd.prog 7 #[.int .u8 x] w fun e w' => e = .returned (.bool true) ∧ Past w w' := by
  have HG := Lib.hid hG
  obtain ⟨N, T, hr⟩ : ∃ N T, row13 6 = { alg := 6, fam := 2, name := N, pub := 2592, priv := 4896, seed := 32, sig := 4627, text := T, cose := -50, typ := 0 } := ⟨⟨#[77, 76, 45, 68, 83, 65, 45, 56, 55]⟩, ⟨#[50, 46, 49, 54, 46, 56, 52, 48, 46, 49, 46, 49, 48, 49, 46, 51, 46, 52, 46, 51, 46, 49, 57]⟩, by kernel_rfl⟩
  have HR := Lib.hid hr
  have hm2 : x % 25 = 5 := by rw [← hm, Int.tmod_eq_emod_of_nonneg hx0]
  clear hr hG
  go_enter Tryd.func7, Tryd.ntmps7
  go_wp2_with fail
  refine (awake13 w HG.out).mono ?_
  rintro e w1 ⟨rfl, hp⟩
  have H1 := Lib.hid hp
  clear hp
  go_wp2_with fail
  refine (get_any 6 w1 (HG.out.past H1.out)).mono ?_
  rintro e w2 ⟨he, hp⟩
  rw [if_pos (by omega), HR.out] at he
  obtain ⟨A, c, rfl, hS⟩ := he
  have H2 := Lib.hid (H1.out.trans' hp)
  clear hp hS H1
  unfold setV
  obtain ⟨n1, hn1⟩ : ∃ n1, (oidL 6).length = n1 := ⟨_, rfl⟩
  rw [hn1]
  clear hn1
  obtain ⟨u, hu⟩ : ∃ u, w2.heap.size = u := ⟨_, rfl⟩
  obtain ⟨w3, hw3⟩ : ∃ w3, w3 = w2.alloc (.cells #[.int .i64 6, .int .i64 2, .string N, .int .i64 2592, .int .i64 4896, .int .i64 32, .int .i64 4627, .slice A n1 c, .int .i64 (-50), .int .u32 0] 26) := ⟨_, rfl⟩
  have hp3 : Past w2 w3 := by rw [hw3]; exact past_alloc13 _ _
  have hr3 : Row w3 u 26 #[.int .i64 6, .int .i64 2, .string N, .int .i64 2592, .int .i64 4896, .int .i64 32, .int .i64 4627, .slice A n1 c, .int .i64 (-50), .int .u32 0] := by rw [hw3, ← hu]; exact Row.new _ _ _
  have H3 := Lib.hid (H2.out.trans' hp3)
  have HW3 := Lib.hid hw3
  have HU := Lib.hid hu
  have k1 := hr3.cell 1
  have k3 := hr3.cell 3
  have k4 := hr3.cell 4
  have k5 := hr3.cell 5
  have k6 := hr3.cell 6
  clear hp3 hr3 hw3 hu H2
  go_upto_region 5 with (fail)
  rw [← HW3.out]
  try rw [HU.out]
  clear HW3 HU
  go_wp2_with fail
  go_ret
  exact ⟨rfl, H3.out⟩

set_option maxHeartbeats 4000000 in
set_option maxRecDepth 100000 in
theorem walk_7 (x : Int) (w : World) (hm : x.tmod 25 = 6) (hx0 : 0 ≤ x) (hx1 : x ≤ 255) (hG : Glob13 w) : Calls Tryd.prog 7 #[.int .u8 x] w fun e w' => e = .returned (.bool true) ∧ Past w w' := by
  have HG := Lib.hid hG
  obtain ⟨N, T, hr⟩ : ∃ N T, row13 7 = { alg := 7, fam := 3, name := N, pub := 32, priv := 64, seed := 0, sig := 7856, text := T, cose := -51, typ := 0 } := ⟨⟨#[83, 76, 72, 45, 68, 83, 65, 45, 83, 72, 65, 50, 45, 49, 50, 56, 115]⟩, ⟨#[50, 46, 49, 54, 46, 56, 52, 48, 46, 49, 46, 49, 48, 49, 46, 51, 46, 52, 46, 51, 46, 50, 48]⟩, by kernel_rfl⟩
  have HR := Lib.hid hr
  have hm2 : x % 25 = 6 := by rw [← hm, Int.tmod_eq_emod_of_nonneg hx0]
  clear hr hG
  go_enter Tryd.func7, Tryd.ntmps7
  go_wp2_with fail
  refine (awake13 w HG.out).mono ?_
  rintro e w1 ⟨rfl, hp⟩
  have H1 := Lib.hid hp
  clear hp
  go_wp2_with fail
  refine (get_any 7 w1 (HG.out.past H1.out)).mono ?_
  rintro e w2 ⟨he, hp⟩
  rw [if_pos (by omega), HR.out] at he
  obtain ⟨A, c, rfl, hS⟩ := he
  have H2 := Lib.hid (H1.out.trans' hp)
  clear hp hS H1
  unfold setV
  obtain ⟨n1, hn1⟩ : ∃ n1, (oidL 7).length = n1 := ⟨_, rfl⟩
  rw [hn1]
  clear hn1
  obtain ⟨u, hu⟩ : ∃ u, w2.heap.size = u := ⟨_, rfl⟩
  obtain ⟨w3, hw3⟩ : ∃ w3, w3 = w2.alloc (.cells #[.int .i64 7, .int .i64 3, .string N, .int .i64 32, .int .i64 64, .int .i64 0, .int .i64 7856, .slice A n1 c, .int .i64 (-51), .int .u32 0] 26) := ⟨_, rfl⟩
  have hp3 : Past w2 w3 := by rw [hw3]; exact past_alloc13 _ _
  have hr3 : Row w3 u 26 #[.int .i64 7, .int .i64 3, .string N, .int .i64 32, .int .i64 64, .int .i64 0, .int .i64 7856, .slice A n1 c, .int .i64 (-51), .int .u32 0] := by rw [hw3, ← hu]; exact Row.new _ _ _
  have H3 := Lib.hid (H2.out.trans' hp3)
  have HW3 := Lib.hid hw3
  have HU := Lib.hid hu
  have k1 := hr3.cell 1
  have k3 := hr3.cell 3
  have k4 := hr3.cell 4
  have k5 := hr3.cell 5
  have k6 := hr3.cell 6
  clear hp3 hr3 hw3 hu H2
  go_upto_region 5 with (fail)
  rw [← HW3.out]
  try rw [HU.out]
  clear HW3 HU
  go_wp2_with fail
  go_ret
  exact ⟨rfl, H3.out⟩

set_option maxHeartbeats 4000000 in
set_option maxRecDepth 100000 in
theorem walk_8 (x : Int) (w : World) (hm : x.tmod 25 = 7) (hx0 : 0 ≤ x) (hx1 : x ≤ 255) (hG : Glob13 w) : Calls Tryd.prog 7 #[.int .u8 x] w fun e w' => e = .returned (.bool true) ∧ Past w w' := by
  have HG := Lib.hid hG
  obtain ⟨N, T, hr⟩ : ∃ N T, row13 8 = { alg := 8, fam := 3, name := N, pub := 32, priv := 64, seed := 0, sig := 17088, text := T, cose := -52, typ := 0 } := ⟨⟨#[83, 76, 72, 45, 68, 83, 65, 45, 83, 72, 65, 50, 45, 49, 50, 56, 102]⟩, ⟨#[50, 46, 49, 54, 46, 56, 52, 48, 46, 49, 46, 49, 48, 49, 46, 51, 46, 52, 46, 51, 46, 50, 49]⟩, by kernel_rfl⟩
  have HR := Lib.hid hr
  have hm2 : x % 25 = 7 := by rw [← hm, Int.tmod_eq_emod_of_nonneg hx0]
  clear hr hG
  go_enter Tryd.func7, Tryd.ntmps7
  go_wp2_with fail
  refine (awake13 w HG.out).mono ?_
  rintro e w1 ⟨rfl, hp⟩
  have H1 := Lib.hid hp
  clear hp
  go_wp2_with fail
  refine (get_any 8 w1 (HG.out.past H1.out)).mono ?_
  rintro e w2 ⟨he, hp⟩
  rw [if_pos (by omega), HR.out] at he
  obtain ⟨A, c, rfl, hS⟩ := he
  have H2 := Lib.hid (H1.out.trans' hp)
  clear hp hS H1
  unfold setV
  obtain ⟨n1, hn1⟩ : ∃ n1, (oidL 8).length = n1 := ⟨_, rfl⟩
  rw [hn1]
  clear hn1
  obtain ⟨u, hu⟩ : ∃ u, w2.heap.size = u := ⟨_, rfl⟩
  obtain ⟨w3, hw3⟩ : ∃ w3, w3 = w2.alloc (.cells #[.int .i64 8, .int .i64 3, .string N, .int .i64 32, .int .i64 64, .int .i64 0, .int .i64 17088, .slice A n1 c, .int .i64 (-52), .int .u32 0] 26) := ⟨_, rfl⟩
  have hp3 : Past w2 w3 := by rw [hw3]; exact past_alloc13 _ _
  have hr3 : Row w3 u 26 #[.int .i64 8, .int .i64 3, .string N, .int .i64 32, .int .i64 64, .int .i64 0, .int .i64 17088, .slice A n1 c, .int .i64 (-52), .int .u32 0] := by rw [hw3, ← hu]; exact Row.new _ _ _
  have H3 := Lib.hid (H2.out.trans' hp3)
  have HW3 := Lib.hid hw3
  have HU := Lib.hid hu
  have k1 := hr3.cell 1
  have k3 := hr3.cell 3
  have k4 := hr3.cell 4
  have k5 := hr3.cell 5
  have k6 := hr3.cell 6
  clear hp3 hr3 hw3 hu H2
  go_upto_region 5 with (fail)
  rw [← HW3.out]
  try rw [HU.out]
  clear HW3 HU
  go_wp2_with fail
  go_ret
  exact ⟨rfl, H3.out⟩

end Go.Proofs.YtfcpighmkaoofaaDoor.paramsSizes
