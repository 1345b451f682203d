/- The chapter's examples hold of the program's package params. -/
import Derived.Test.YtnjoccmjembppaaDoorPm13K
namespace Go.Proofs.YtnjoccmjembppaaDoor
open Go.RowKit Go.Shelf
set_option linter.unusedVariables false

theorem row5 : ∃ N T, row13 5 = { alg := 5, fam := 2, name := N, pub := 1952, priv := 4032, seed := 32, sig := 3309, text := T, cose := -49, typ := 0 } ∧ (N.toList == [77, 76, 45, 68, 83, 65, 45, 54, 53]) = true :=
  ⟨⟨#[77, 76, 45, 68, 83, 65, 45, 54, 53]⟩, ⟨#[50, 46, 49, 54, 46, 56, 52, 48, 46, 49, 46, 49, 48, 49, 46, 51, 46, 52, 46, 51, 46, 49, 56]⟩, by kernel_rfl, by kernel_rfl⟩
theorem first5 : firstA (pName ⟨#[77, 76, 45, 68, 83, 65, 45, 54, 53]⟩) = 5 := by decide +kernel
theorem size5 : algs (pSize 2 3309) 25 = [5] := by decide +kernel
theorem text0 : algs (pText (textS [])) 25 = [] := by decide +kernel
set_option maxHeartbeats 8000000 in
set_option maxRecDepth 100000 in
theorem awake13 (w : World) (hG : Glob13 w) : Calls Tryd.prog 8 #[] w fun e w' => e = .returned (.bool true) ∧ Past w w' := by
  have HG := Lib.hid hG
  obtain ⟨N5, T5, hr5, hN5⟩ := row5
  have HR5 := Lib.hid hr5
  clear hG hr5
  go_enter Tryd.func8, Tryd.ntmps8
  go_wp2_with fail
  refine (get_any 5 w HG.out).mono ?_
  rintro e w1 ⟨he, hp⟩
  rw [if_pos (by omega), HR5.out] at he
  obtain ⟨A1, c1, rfl, hS⟩ := he
  have H1 := Lib.hid hp
  clear hp hS
  unfold setV
  obtain ⟨n1, hn1⟩ : ∃ n1, (oidL 5).length = n1 := ⟨_, rfl⟩
  rw [hn1]
  clear hn1
  obtain ⟨u1, hu1⟩ : ∃ u1, w1.heap.size = u1 := ⟨_, rfl⟩
  obtain ⟨w2, hw2⟩ : ∃ w2, w2 = w1.alloc (.cells #[.int .i64 5, .int .i64 2, .string N5, .int .i64 1952, .int .i64 4032, .int .i64 32, .int .i64 3309, .slice A1 n1 c1, .int .i64 (-49), .int .u32 0] 26) := ⟨_, rfl⟩
  have hp2 : Past w1 w2 := by rw [hw2]; exact past_alloc13 _ _
  have hr2 : Row w2 u1 26 #[.int .i64 5, .int .i64 2, .string N5, .int .i64 1952, .int .i64 4032, .int .i64 32, .int .i64 3309, .slice A1 n1 c1, .int .i64 (-49), .int .u32 0] := by rw [hw2, ← hu1]; exact Row.new _ _ _
  have H2 : Hid (Past w w2 ∧ Row w2 u1 26 #[.int .i64 5, .int .i64 2, .string N5, .int .i64 1952, .int .i64 4032, .int .i64 32, .int .i64 3309, .slice A1 n1 c1, .int .i64 (-49), .int .u32 0]) := Lib.hid ⟨H1.out.trans' hp2, hr2⟩
  have HW2 := Lib.hid hw2
  have HU1 := Lib.hid hu1
  clear hp2 hr2 hw2 hu1 H1
  go_upto_region 2 with (fail)
  rw [← HW2.out]
  try rw [HU1.out]
  clear HW2 HU1
  go_wp2_with fail
  refine (get_any 26 w2 (HG.out.past H2.out.1)).mono ?_
  rintro e w3 ⟨he, hp⟩
  rw [if_neg (by omega)] at he
  obtain rfl := he
  have H3 : Hid (Past w w3 ∧ Row w3 u1 26 #[.int .i64 5, .int .i64 2, .string N5, .int .i64 1952, .int .i64 4032, .int .i64 32, .int .i64 3309, .slice A1 n1 c1, .int .i64 (-49), .int .u32 0]) := Lib.hid ⟨H2.out.1.trans' hp, H2.out.2.past hp⟩
  clear hp H2
  unfold setV zero13
  obtain ⟨w4, hw4⟩ : ∃ w4, w4 = w3.alloc (.cells zeroC 26) := ⟨_, rfl⟩
  have hp4 : Past w3 w4 := by rw [hw4]; exact past_alloc13 _ _
  have H4 : Hid (Past w w4 ∧ Row w4 u1 26 #[.int .i64 5, .int .i64 2, .string N5, .int .i64 1952, .int .i64 4032, .int .i64 32, .int .i64 3309, .slice A1 n1 c1, .int .i64 (-49), .int .u32 0]) := Lib.hid ⟨H3.out.1.trans' hp4, H3.out.2.past hp4⟩
  have HW4 := Lib.hid hw4
  clear hp4 hw4 H3
  go_upto_region 3 with (fail)
  rw [← HW4.out]
  clear HW4
  go_wp2_with fail
  refine (byName_any _ w4 (HG.out.past H4.out.1)).mono ?_
  rintro e w5 ⟨he, hp⟩
  rw [first5, if_pos (by omega), HR5.out] at he
  obtain ⟨A5, c5, rfl, hS⟩ := he
  have H5 : Hid (Past w w5 ∧ Row w5 u1 26 #[.int .i64 5, .int .i64 2, .string N5, .int .i64 1952, .int .i64 4032, .int .i64 32, .int .i64 3309, .slice A1 n1 c1, .int .i64 (-49), .int .u32 0]) := Lib.hid ⟨H4.out.1.trans' hp, H4.out.2.past hp⟩
  clear hp hS H4
  unfold setV
  obtain ⟨n5, hn5⟩ : ∃ n5, (oidL 5).length = n5 := ⟨_, rfl⟩
  rw [hn5]
  clear hn5
  obtain ⟨u5, hu5⟩ : ∃ u5, w5.heap.size = u5 := ⟨_, rfl⟩
  obtain ⟨w6, hw6⟩ : ∃ w6, w6 = w5.alloc (.cells #[.int .i64 5, .int .i64 2, .string N5, .int .i64 1952, .int .i64 4032, .int .i64 32, .int .i64 3309, .slice A5 n5 c5, .int .i64 (-49), .int .u32 0] 26) := ⟨_, rfl⟩
  have hp6 : Past w5 w6 := by rw [hw6]; exact past_alloc13 _ _
  have hr6 : Row w6 u5 26 #[.int .i64 5, .int .i64 2, .string N5, .int .i64 1952, .int .i64 4032, .int .i64 32, .int .i64 3309, .slice A5 n5 c5, .int .i64 (-49), .int .u32 0] := by rw [hw6, ← hu5]; exact Row.new _ _ _
  have H6 : Hid (Past w w6 ∧ Row w6 u1 26 #[.int .i64 5, .int .i64 2, .string N5, .int .i64 1952, .int .i64 4032, .int .i64 32, .int .i64 3309, .slice A1 n1 c1, .int .i64 (-49), .int .u32 0]) := Lib.hid ⟨H5.out.1.trans' hp6, H5.out.2.past hp6⟩
  have HW6 := Lib.hid hw6
  have HU5 := Lib.hid hu5
  have d0 := hr6.cell 0
  have k2 := H6.out.2.cell 2
  have k3 := H6.out.2.cell 3
  have k4 := H6.out.2.cell 4
  have k5 := H6.out.2.cell 5
  have k6 := H6.out.2.cell 6
  clear hp6 hr6 hw6 hu5 H5
  go_upto_region 4 with (fail)
  rw [← HW6.out]
  try rw [HU5.out]
  clear HW6 HU5
  go_wp2_with fail
  refine (bySize_any 2 3309 w6 (HG.out.past H6.out.1)).mono ?_
  rintro e w7 ⟨A7, c7, rfl, hS7, hp⟩
  rw [size5] at hS7 ⊢
  obtain ⟨b7, o7, rfl, hc7⟩ := hS7.cells (by decide)
  have H7 : Hid (Past w w7) := Lib.hid (H6.out.1.trans' hp)
  have hp8 := past_alloc13 w7 (.cells #[.int .i64 5] 3)
  have HEQ := Lib.hid (Tryd.slices_Equal_int b7 o7 1 c7 w7.heap.size 0 1 1 [5] [5] (w7.alloc (.cells #[.int .i64 5] 3)) (by decide) (by decide) (by omega) (by omega)
    (fun j hj => by
      obtain rfl : j = 0 := by simp at hj; omega
      rw [Below.cell hp8 (cell_lt (hc7 0 (by decide)))]
      exact hc7 0 (by decide))
    (fun j hj => by
      obtain rfl : j = 0 := by simp at hj; omega
      exact (Row.new w7 3 #[.int .i64 5]).cell 0))
  have H8 : Hid (Past w (w7.alloc (.cells #[.int .i64 5] 3))) := Lib.hid (H7.out.trans' hp8)
  clear hp hS7 hc7 hp8 H6 d0 k2 k3 k4 k5 k6
  simp only [List.length_cons, List.length_nil, Nat.zero_add]
  go_wp2_with fail
  refine (HEQ.out).mono ?_
  rintro e w9 ⟨rfl, q9, hw9⟩
  have H9 : Hid (Past w w9) := Lib.hid (by rw [hw9]; exact H8.out.drewN q9)
  clear hw9 HEQ
  go_wp2_with fail
  refine (byOid_any none 0 0 [] w9 (HG.out.past H9.out) (SlK.nil _ _) (by intro x hx; cases hx) (by omega)).mono ?_
  rw [text0]
  rintro e wa ⟨Aa, ca, rfl, _, hp⟩
  have Ha : Hid (Past w wa) := Lib.hid (H9.out.trans' hp)
  clear hp
  go_wp2_with fail
  go_ret
  exact ⟨rfl, Ha.out⟩
end Go.Proofs.YtnjoccmjembppaaDoor
