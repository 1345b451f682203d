/- KgenNoise: the noise of any bytes is that of the reference implementation, with coefficients from -e to e, and other numbers of bytes have none; for every input of the statement, with no condition beyond the card's. -/
import Derived.Test.YtalhdalmafhofaaGreatDoorFrame16
import Derived.Test.YtalhdalmafhofaaGreatDoorAw16
namespace Go.Proofs.YtalhdalmafhofaaGreatDoor.kgenNoise
open Go.RowKit Go.ChangeShapes Go.WideShapes Go.ChangeAt
set_option linter.unusedVariables false
set_option maxRecDepth 100000
set_option maxHeartbeats 4000000

theorem eqA16 (f g : Nat → Int) (h : ∀ i, i < 256 → f i = g i) (w : World) : (Op.equalIn 10000 29 (.agg (arr .u16 256 f)) (.agg (arr .u16 256 g))).run Tryz.prog w = .ok true w := by
  obtain ⟨i, hi, hz⟩ : ∃ i, Tryz.prog.info? 28 = some i ∧ i.size = 1 := by
    cases hq : Tryz.prog.info? 28 with
    | none =>
      have : (Tryz.prog.info? 28).isSome = true := by kernel_rfl
      rw [hq] at this
      cases this
    | some i =>
      have : (Tryz.prog.info? 28).map (·.size) = some 1 := by kernel_rfl
      rw [hq] at this
      exact ⟨i, rfl, by simpa using this⟩
  rw [run_eq_arr w Tryz.underlying29 Tryz.underlying28 hi hz, eqB_true h]
theorem egA16 : Tryz.prog.eqGuardType Tryz.prog.depth 29 = false := by kernel_rfl
theorem walkE (a b s : Int) (j k : Nat) (w : World) (hb : 0 ≤ b ∧ b < 4294967296) (hs : 0 ≤ s ∧ s < 256) (hj : s % 5 = (j : Int)) (hj5 : j < 5) (hk : k ≤ 192) (hcs : (#[.int .i64 128, .int .i64 192, .int .i64 127, .int .i64 129, .int .i64 0] : Array Value)[j]? = some (.int .i64 (k : Int))) (hG : Glob13 w) (ne2 : ¬ a = 2) (ne3 : ¬ a = 3) :
    Calls Tryz.prog 3 #[.int .i64 a, .int .u32 b, .int .u8 s] w fun e w' => e = .returned (.bool true) ∧ Past w w' := by
  have HAW := Lib.hid (awake16 w hG)
  have HSP : Hid (∀ w, Calls Tryz.prog 6 #[.int .u32 b, .int .i64 9] w (OwnB (spB b 3 0) w)) := Lib.hid (fun w => rspread15_any b 3 0 w hb (by decide) (by decide))
  obtain ⟨X0, hX0⟩ : ∃ x, spB b 3 0 = x := ⟨_, rfl⟩
  have HXL : Hid (X0.length = 9) := Lib.hid (by rw [← hX0]; exact spB_len b 3 0)
  rw [hX0] at HSP
  have hs0 : 0 ≤ s := hs.1
  have hws : IntKind.i64.wrap s = s := by rw [IntKind.wrap_i64]; omega
  have hmod : s.tmod 5 = (j : Int) := by rw [Int.tmod_eq_emod_of_nonneg hs0]; exact hj
  have hwj : IntKind.i64.wrap (j : Int) = (j : Int) := by rw [IntKind.wrap_i64]; omega
  have hj0 : (0 : Int) ≤ (j : Int) := by omega
  have hj1 : (j : Int) < 5 := by omega
  have HK := Lib.hid hk
  have HCS := Lib.hid hcs
  clear hX0 hG hb hs hk hcs hj5
  go_enter Tryz.func3, Tryz.ntmps3
  go_wp2_with fail
  refine HAW.out.mono ?_
  rintro e w1 ⟨rfl, hp1⟩
  have H1 := Lib.hid hp1
  clear hp1 HAW
  go_upto_region 3 with (fail)
  obtain ⟨u2, hu2⟩ : ∃ u, w1.heap.size = u := ⟨_, rfl⟩
  obtain ⟨w2, hw2⟩ : ∃ w', w1.alloc (.cells #[.int .i64 128, .int .i64 192, .int .i64 127, .int .i64 129, .int .i64 0] 3) = w' := ⟨_, rfl⟩
  have hp2 : Past w1 w2 := by rw [← hw2]; exact (Below.refl _ _).alloc (Nat.le_refl _) _
  have hcell : w2.cell? ⟨u2, j, none⟩ = some (.int .i64 (k : Int)) := by
    have hr : Row w2 u2 3 #[.int .i64 128, .int .i64 192, .int .i64 127, .int .i64 129, .int .i64 0] := by rw [← hw2, ← hu2]; exact Row.new _ _ _
    rw [hr.cell]
    exact HCS.out
  have H2 := Lib.hid (H1.out.trans' hp2)
  clear hp2 H1
  go_upto_region 4 with (fail)
  try rw [hw2]
  clear hcell hw2 hu2 hws hmod hwj hj0 hj1 hs0 hj
  go_wp2_with fail
  refine (HSP.out w2).mono ?_
  rintro e w3 hb3
  obtain ⟨A3, c3, rfl, hs3, hp3⟩ := own_sl hb3
  have HS3 := Lib.hid hs3
  have H3 := Lib.hid (H2.out.trans' hp3)
  clear hb3 hs3 hp3 H2 HSP
  obtain ⟨V, C, X, hX, hcat⟩ := sls_row w3 1 [(A3, X0.length, c3, X0)] rfl (by decide) 25 (by intro y hy; simp at hy; rcases hy with rfl; exact HS3.out) (by decide)
  obtain ⟨w4, hw4⟩ : ∃ w', w3.alloc (.cells #[.slice A3 X0.length c3] 25) = w' := ⟨_, rfl⟩
  have hp4 : Past w3 w4 := by rw [← hw4]; exact (Below.refl _ _).alloc (Nat.le_refl _) _
  obtain ⟨h3, hh3⟩ : ∃ h, w3.heap.size = h := ⟨_, rfl⟩
  have hX4 : Sls w4 (some ⟨h3, 0, none⟩) 1 1 V C X := by rw [← hw4, ← hh3]; exact hX
  have HSH := Lib.hid (hShake256_any (k : Int) _ 1 1 V C X w4 hX4 (by decide) (by rw [hcat]; simp [HXL.out]) (by have := HK.out; omega))
  obtain ⟨ys, hys⟩ : ∃ x, bl (rout (rstate (cat X 1) 136 31) 136) (Int.toNat (k : Int)) = x := ⟨_, rfl⟩
  rw [hys, Int.toNat_natCast] at HSH
  have H4 := Lib.hid (H3.out.trans' hp4)
  have HW4 := Lib.hid hw4
  clear hX hX4 hcat hys hp4 hw4 H3 HS3
  go_wp2_with fail
  try rw [hh3]
  try rw [HW4.out]
  clear HW4 hh3
  refine HSH.out.mono ?_
  rintro e w5 ⟨A, c, rfl, hS5, hp5⟩
  have HS5 := Lib.hid hS5
  have H5 := Lib.hid (H4.out.trans' hp5)
  clear hS5 hp5 HSH H4 V C X
  have hz := zeroP
  obtain ⟨cz, hcz⟩ : ∃ cz, arr .u16 256 (fun _ => 0) = cz := ⟨_, rfl⟩
  have HKN : Hid (∀ w, Calls Tryz.prog 7 #[.int .i64 a, .slice A k c] w fun r w' => r = .returned (.tuple #[.agg cz, .bool false]) ∧ Past w w') := Lib.hid (by intro w; rw [← hcz]; exact knoiseE_any a A k c w ⟨ne2, ne3⟩)
  have heq := eqP (fun _ => 0) (fun _ => 0) (fun _ _ => rfl)
  have heg := egP
  have HINF : Hid ((Tryz.prog.info? 30).map (·.size) = some cz.size ∧ cz.all (·.oneCell') = true) := Lib.hid (by rw [← hcz]; exact ⟨infP _, arr_one .u16 256 _⟩)
  rw [hcz] at hz heq
  have HZ := Lib.hid hz
  have HEQ := Lib.hid heq
  clear hcz hz heq
  go_wp2_with fail
  refine (HKN.out w5).mono ?_
  rintro e w6 ⟨rfl, hp6⟩
  obtain ⟨u9, hu9⟩ : ∃ u, w6.heap.size = u := ⟨_, rfl⟩
  obtain ⟨w7, hw7⟩ : ∃ w', w6.alloc (.cells cz 30) = w' := ⟨_, rfl⟩
  have hp7 : Past w6 w7 := by rw [← hw7]; exact (Below.refl _ _).alloc (Nat.le_refl _) _
  have hr7 : Row w7 u9 30 cz := by rw [← hw7, ← hu9]; exact Row.new _ _ _
  have H7 := Lib.hid (And.intro (H5.out.trans' (hp6.trans' hp7)) hr7)
  have hn1 := heap_alloc_new w6 (.cells cz 30)
  rw [hu9] at hn1
  have HSR : Hid ((w6.alloc (.cells cz 30)).setRow u9 cz = w7) := Lib.hid (by rw [← hu9, World.setRow_alloc_new]; exact hw7)
  clear hp6 hp7 hw7 hr7 H5
  obtain ⟨hi1, hi2⟩ := HINF.out
  have hz := HZ.out
  go_upto_region 6 with (refine wpList_store_row rfl 30 _ _ rfl u9 _ rfl rfl _ _ hn1 hi1 rfl hi2 ?_)
  rw [HSR.out]
  clear HSR hn1 hi2 hu9 hz
  have hr7 := H7.out.2
  go_upto_region 7 with (fail)
  have hz := HZ.out
  have heq := HEQ.out
  go_wp2_with (refine wpList_load_row_want (by rfl) 30 _ rfl u9 rfl _ _ (0, 0) _ hr7 Tryz.underlying30 rfl hi1 ?_)
  go_ret
  exact ⟨rfl, H7.out.1⟩
theorem walkW2 (a b s : Int) (j k : Nat) (w : World) (hb : 0 ≤ b ∧ b < 4294967296) (hs : 0 ≤ s ∧ s < 256) (hj : s % 5 = (j : Int)) (hj5 : j < 5) (hk : k ≤ 192) (hcs : (#[.int .i64 128, .int .i64 192, .int .i64 127, .int .i64 129, .int .i64 0] : Array Value)[j]? = some (.int .i64 (k : Int))) (hG : Glob13 w) (hk2 : ¬ (k : Int) = 128) :
    Calls Tryz.prog 3 #[.int .i64 2, .int .u32 b, .int .u8 s] w fun e w' => e = .returned (.bool true) ∧ Past w w' := by
  have HAW := Lib.hid (awake16 w hG)
  have HSP : Hid (∀ w, Calls Tryz.prog 6 #[.int .u32 b, .int .i64 9] w (OwnB (spB b 3 0) w)) := Lib.hid (fun w => rspread15_any b 3 0 w hb (by decide) (by decide))
  obtain ⟨X0, hX0⟩ : ∃ x, spB b 3 0 = x := ⟨_, rfl⟩
  have HXL : Hid (X0.length = 9) := Lib.hid (by rw [← hX0]; exact spB_len b 3 0)
  rw [hX0] at HSP
  have hs0 : 0 ≤ s := hs.1
  have hws : IntKind.i64.wrap s = s := by rw [IntKind.wrap_i64]; omega
  have hmod : s.tmod 5 = (j : Int) := by rw [Int.tmod_eq_emod_of_nonneg hs0]; exact hj
  have hwj : IntKind.i64.wrap (j : Int) = (j : Int) := by rw [IntKind.wrap_i64]; omega
  have hj0 : (0 : Int) ≤ (j : Int) := by omega
  have hj1 : (j : Int) < 5 := by omega
  have HK := Lib.hid hk
  have HCS := Lib.hid hcs
  clear hX0 hG hb hs hk hcs hj5
  go_enter Tryz.func3, Tryz.ntmps3
  go_wp2_with fail
  refine HAW.out.mono ?_
  rintro e w1 ⟨rfl, hp1⟩
  have H1 := Lib.hid hp1
  clear hp1 HAW
  go_upto_region 3 with (fail)
  obtain ⟨u2, hu2⟩ : ∃ u, w1.heap.size = u := ⟨_, rfl⟩
  obtain ⟨w2, hw2⟩ : ∃ w', w1.alloc (.cells #[.int .i64 128, .int .i64 192, .int .i64 127, .int .i64 129, .int .i64 0] 3) = w' := ⟨_, rfl⟩
  have hp2 : Past w1 w2 := by rw [← hw2]; exact (Below.refl _ _).alloc (Nat.le_refl _) _
  have hcell : w2.cell? ⟨u2, j, none⟩ = some (.int .i64 (k : Int)) := by
    have hr : Row w2 u2 3 #[.int .i64 128, .int .i64 192, .int .i64 127, .int .i64 129, .int .i64 0] := by rw [← hw2, ← hu2]; exact Row.new _ _ _
    rw [hr.cell]
    exact HCS.out
  have H2 := Lib.hid (H1.out.trans' hp2)
  clear hp2 H1
  go_upto_region 4 with (fail)
  try rw [hw2]
  clear hcell hw2 hu2 hws hmod hwj hj0 hj1 hs0 hj
  go_wp2_with fail
  refine (HSP.out w2).mono ?_
  rintro e w3 hb3
  obtain ⟨A3, c3, rfl, hs3, hp3⟩ := own_sl hb3
  have HS3 := Lib.hid hs3
  have H3 := Lib.hid (H2.out.trans' hp3)
  clear hb3 hs3 hp3 H2 HSP
  obtain ⟨V, C, X, hX, hcat⟩ := sls_row w3 1 [(A3, X0.length, c3, X0)] rfl (by decide) 25 (by intro y hy; simp at hy; rcases hy with rfl; exact HS3.out) (by decide)
  obtain ⟨w4, hw4⟩ : ∃ w', w3.alloc (.cells #[.slice A3 X0.length c3] 25) = w' := ⟨_, rfl⟩
  have hp4 : Past w3 w4 := by rw [← hw4]; exact (Below.refl _ _).alloc (Nat.le_refl _) _
  obtain ⟨h3, hh3⟩ : ∃ h, w3.heap.size = h := ⟨_, rfl⟩
  have hX4 : Sls w4 (some ⟨h3, 0, none⟩) 1 1 V C X := by rw [← hw4, ← hh3]; exact hX
  have HSH := Lib.hid (hShake256_any (k : Int) _ 1 1 V C X w4 hX4 (by decide) (by rw [hcat]; simp [HXL.out]) (by have := HK.out; omega))
  obtain ⟨ys, hys⟩ : ∃ x, bl (rout (rstate (cat X 1) 136 31) 136) (Int.toNat (k : Int)) = x := ⟨_, rfl⟩
  rw [hys, Int.toNat_natCast] at HSH
  have H4 := Lib.hid (H3.out.trans' hp4)
  have HW4 := Lib.hid hw4
  clear hX hX4 hcat hys hp4 hw4 H3 HS3
  go_wp2_with fail
  try rw [hh3]
  try rw [HW4.out]
  clear HW4 hh3
  refine HSH.out.mono ?_
  rintro e w5 ⟨A, c, rfl, hS5, hp5⟩
  have HS5 := Lib.hid hS5
  have H5 := Lib.hid (H4.out.trans' hp5)
  clear hS5 hp5 HSH H4 V C X
  have hz := zeroP
  obtain ⟨cz, hcz⟩ : ∃ cz, arr .u16 256 (fun _ => 0) = cz := ⟨_, rfl⟩
  have HKN : Hid (∀ w, Calls Tryz.prog 7 #[.int .i64 2, .slice A k c] w fun r w' => r = .returned (.tuple #[.agg cz, .bool false]) ∧ Past w w') := Lib.hid (by intro w; rw [← hcz]; exact knoiseW2_any A k c w (by omega))
  have heq := eqP (fun _ => 0) (fun _ => 0) (fun _ _ => rfl)
  have heg := egP
  have HINF : Hid ((Tryz.prog.info? 30).map (·.size) = some cz.size ∧ cz.all (·.oneCell') = true) := Lib.hid (by rw [← hcz]; exact ⟨infP _, arr_one .u16 256 _⟩)
  rw [hcz] at hz heq
  have HZ := Lib.hid hz
  have HEQ := Lib.hid heq
  clear hcz hz heq
  go_wp2_with fail
  refine (HKN.out w5).mono ?_
  rintro e w6 ⟨rfl, hp6⟩
  obtain ⟨u9, hu9⟩ : ∃ u, w6.heap.size = u := ⟨_, rfl⟩
  obtain ⟨w7, hw7⟩ : ∃ w', w6.alloc (.cells cz 30) = w' := ⟨_, rfl⟩
  have hp7 : Past w6 w7 := by rw [← hw7]; exact (Below.refl _ _).alloc (Nat.le_refl _) _
  have hr7 : Row w7 u9 30 cz := by rw [← hw7, ← hu9]; exact Row.new _ _ _
  have H7 := Lib.hid (And.intro (H5.out.trans' (hp6.trans' hp7)) hr7)
  have hn1 := heap_alloc_new w6 (.cells cz 30)
  rw [hu9] at hn1
  have HSR : Hid ((w6.alloc (.cells cz 30)).setRow u9 cz = w7) := Lib.hid (by rw [← hu9, World.setRow_alloc_new]; exact hw7)
  clear hp6 hp7 hw7 hr7 H5
  obtain ⟨hi1, hi2⟩ := HINF.out
  have hz := HZ.out
  go_upto_region 6 with (refine wpList_store_row rfl 30 _ _ rfl u9 _ rfl rfl _ _ hn1 hi1 rfl hi2 ?_)
  rw [HSR.out]
  clear HSR hn1 hi2 hu9 hz
  have hr7 := H7.out.2
  go_upto_region 7 with (fail)
  have hz := HZ.out
  have heq := HEQ.out
  go_wp2_with (refine wpList_load_row_want (by rfl) 30 _ rfl u9 rfl _ _ (0, 0) _ hr7 Tryz.underlying30 rfl hi1 ?_)
  go_ret
  exact ⟨rfl, H7.out.1⟩
theorem walkW3 (a b s : Int) (j k : Nat) (w : World) (hb : 0 ≤ b ∧ b < 4294967296) (hs : 0 ≤ s ∧ s < 256) (hj : s % 5 = (j : Int)) (hj5 : j < 5) (hk : k ≤ 192) (hcs : (#[.int .i64 128, .int .i64 192, .int .i64 127, .int .i64 129, .int .i64 0] : Array Value)[j]? = some (.int .i64 (k : Int))) (hG : Glob13 w) (hk2 : ¬ (k : Int) = 192) :
    Calls Tryz.prog 3 #[.int .i64 3, .int .u32 b, .int .u8 s] w fun e w' => e = .returned (.bool true) ∧ Past w w' := by
  have HAW := Lib.hid (awake16 w hG)
  have HSP : Hid (∀ w, Calls Tryz.prog 6 #[.int .u32 b, .int .i64 9] w (OwnB (spB b 3 0) w)) := Lib.hid (fun w => rspread15_any b 3 0 w hb (by decide) (by decide))
  obtain ⟨X0, hX0⟩ : ∃ x, spB b 3 0 = x := ⟨_, rfl⟩
  have HXL : Hid (X0.length = 9) := Lib.hid (by rw [← hX0]; exact spB_len b 3 0)
  rw [hX0] at HSP
  have hs0 : 0 ≤ s := hs.1
  have hws : IntKind.i64.wrap s = s := by rw [IntKind.wrap_i64]; omega
  have hmod : s.tmod 5 = (j : Int) := by rw [Int.tmod_eq_emod_of_nonneg hs0]; exact hj
  have hwj : IntKind.i64.wrap (j : Int) = (j : Int) := by rw [IntKind.wrap_i64]; omega
  have hj0 : (0 : Int) ≤ (j : Int) := by omega
  have hj1 : (j : Int) < 5 := by omega
  have HK := Lib.hid hk
  have HCS := Lib.hid hcs
  clear hX0 hG hb hs hk hcs hj5
  go_enter Tryz.func3, Tryz.ntmps3
  go_wp2_with fail
  refine HAW.out.mono ?_
  rintro e w1 ⟨rfl, hp1⟩
  have H1 := Lib.hid hp1
  clear hp1 HAW
  go_upto_region 3 with (fail)
  obtain ⟨u2, hu2⟩ : ∃ u, w1.heap.size = u := ⟨_, rfl⟩
  obtain ⟨w2, hw2⟩ : ∃ w', w1.alloc (.cells #[.int .i64 128, .int .i64 192, .int .i64 127, .int .i64 129, .int .i64 0] 3) = w' := ⟨_, rfl⟩
  have hp2 : Past w1 w2 := by rw [← hw2]; exact (Below.refl _ _).alloc (Nat.le_refl _) _
  have hcell : w2.cell? ⟨u2, j, none⟩ = some (.int .i64 (k : Int)) := by
    have hr : Row w2 u2 3 #[.int .i64 128, .int .i64 192, .int .i64 127, .int .i64 129, .int .i64 0] := by rw [← hw2, ← hu2]; exact Row.new _ _ _
    rw [hr.cell]
    exact HCS.out
  have H2 := Lib.hid (H1.out.trans' hp2)
  clear hp2 H1
  go_upto_region 4 with (fail)
  try rw [hw2]
  clear hcell hw2 hu2 hws hmod hwj hj0 hj1 hs0 hj
  go_wp2_with fail
  refine (HSP.out w2).mono ?_
  rintro e w3 hb3
  obtain ⟨A3, c3, rfl, hs3, hp3⟩ := own_sl hb3
  have HS3 := Lib.hid hs3
  have H3 := Lib.hid (H2.out.trans' hp3)
  clear hb3 hs3 hp3 H2 HSP
  obtain ⟨V, C, X, hX, hcat⟩ := sls_row w3 1 [(A3, X0.length, c3, X0)] rfl (by decide) 25 (by intro y hy; simp at hy; rcases hy with rfl; exact HS3.out) (by decide)
  obtain ⟨w4, hw4⟩ : ∃ w', w3.alloc (.cells #[.slice A3 X0.length c3] 25) = w' := ⟨_, rfl⟩
  have hp4 : Past w3 w4 := by rw [← hw4]; exact (Below.refl _ _).alloc (Nat.le_refl _) _
  obtain ⟨h3, hh3⟩ : ∃ h, w3.heap.size = h := ⟨_, rfl⟩
  have hX4 : Sls w4 (some ⟨h3, 0, none⟩) 1 1 V C X := by rw [← hw4, ← hh3]; exact hX
  have HSH := Lib.hid (hShake256_any (k : Int) _ 1 1 V C X w4 hX4 (by decide) (by rw [hcat]; simp [HXL.out]) (by have := HK.out; omega))
  obtain ⟨ys, hys⟩ : ∃ x, bl (rout (rstate (cat X 1) 136 31) 136) (Int.toNat (k : Int)) = x := ⟨_, rfl⟩
  rw [hys, Int.toNat_natCast] at HSH
  have H4 := Lib.hid (H3.out.trans' hp4)
  have HW4 := Lib.hid hw4
  clear hX hX4 hcat hys hp4 hw4 H3 HS3
  go_wp2_with fail
  try rw [hh3]
  try rw [HW4.out]
  clear HW4 hh3
  refine HSH.out.mono ?_
  rintro e w5 ⟨A, c, rfl, hS5, hp5⟩
  have HS5 := Lib.hid hS5
  have H5 := Lib.hid (H4.out.trans' hp5)
  clear hS5 hp5 HSH H4 V C X
  have hz := zeroP
  obtain ⟨cz, hcz⟩ : ∃ cz, arr .u16 256 (fun _ => 0) = cz := ⟨_, rfl⟩
  have HKN : Hid (∀ w, Calls Tryz.prog 7 #[.int .i64 3, .slice A k c] w fun r w' => r = .returned (.tuple #[.agg cz, .bool false]) ∧ Past w w') := Lib.hid (by intro w; rw [← hcz]; exact knoiseW3_any A k c w (by omega))
  have heq := eqP (fun _ => 0) (fun _ => 0) (fun _ _ => rfl)
  have heg := egP
  have HINF : Hid ((Tryz.prog.info? 30).map (·.size) = some cz.size ∧ cz.all (·.oneCell') = true) := Lib.hid (by rw [← hcz]; exact ⟨infP _, arr_one .u16 256 _⟩)
  rw [hcz] at hz heq
  have HZ := Lib.hid hz
  have HEQ := Lib.hid heq
  clear hcz hz heq
  go_wp2_with fail
  refine (HKN.out w5).mono ?_
  rintro e w6 ⟨rfl, hp6⟩
  obtain ⟨u9, hu9⟩ : ∃ u, w6.heap.size = u := ⟨_, rfl⟩
  obtain ⟨w7, hw7⟩ : ∃ w', w6.alloc (.cells cz 30) = w' := ⟨_, rfl⟩
  have hp7 : Past w6 w7 := by rw [← hw7]; exact (Below.refl _ _).alloc (Nat.le_refl _) _
  have hr7 : Row w7 u9 30 cz := by rw [← hw7, ← hu9]; exact Row.new _ _ _
  have H7 := Lib.hid (And.intro (H5.out.trans' (hp6.trans' hp7)) hr7)
  have hn1 := heap_alloc_new w6 (.cells cz 30)
  rw [hu9] at hn1
  have HSR : Hid ((w6.alloc (.cells cz 30)).setRow u9 cz = w7) := Lib.hid (by rw [← hu9, World.setRow_alloc_new]; exact hw7)
  clear hp6 hp7 hw7 hr7 H5
  obtain ⟨hi1, hi2⟩ := HINF.out
  have hz := HZ.out
  go_upto_region 6 with (refine wpList_store_row rfl 30 _ _ rfl u9 _ rfl rfl _ _ hn1 hi1 rfl hi2 ?_)
  rw [HSR.out]
  clear HSR hn1 hi2 hu9 hz
  have hr7 := H7.out.2
  go_upto_region 7 with (fail)
  have hz := HZ.out
  have heq := HEQ.out
  go_wp2_with (refine wpList_load_row_want (by rfl) 30 _ rfl u9 rfl _ _ (0, 0) _ hr7 Tryz.underlying30 rfl hi1 ?_)
  go_ret
  exact ⟨rfl, H7.out.1⟩
theorem walkN2 (a b s : Int) (j k : Nat) (w : World) (hb : 0 ≤ b ∧ b < 4294967296) (hs : 0 ≤ s ∧ s < 256) (hj : s % 5 = (j : Int)) (hj5 : j < 5) (hk : k ≤ 192) (hcs : (#[.int .i64 128, .int .i64 192, .int .i64 127, .int .i64 129, .int .i64 0] : Array Value)[j]? = some (.int .i64 (k : Int))) (hG : Glob13 w) (hk2 : k = 128) :
    Calls Tryz.prog 3 #[.int .i64 2, .int .u32 b, .int .u8 s] w fun e w' => e = .returned (.bool true) ∧ Past w w' := by
  have HAW := Lib.hid (awake16 w hG)
  have HSP : Hid (∀ w, Calls Tryz.prog 6 #[.int .u32 b, .int .i64 9] w (OwnB (spB b 3 0) w)) := Lib.hid (fun w => rspread15_any b 3 0 w hb (by decide) (by decide))
  obtain ⟨X0, hX0⟩ : ∃ x, spB b 3 0 = x := ⟨_, rfl⟩
  have HXL : Hid (X0.length = 9) := Lib.hid (by rw [← hX0]; exact spB_len b 3 0)
  rw [hX0] at HSP
  have hs0 : 0 ≤ s := hs.1
  have hws : IntKind.i64.wrap s = s := by rw [IntKind.wrap_i64]; omega
  have hmod : s.tmod 5 = (j : Int) := by rw [Int.tmod_eq_emod_of_nonneg hs0]; exact hj
  have hwj : IntKind.i64.wrap (j : Int) = (j : Int) := by rw [IntKind.wrap_i64]; omega
  have hj0 : (0 : Int) ≤ (j : Int) := by omega
  have hj1 : (j : Int) < 5 := by omega
  have HK := Lib.hid hk
  have HCS := Lib.hid hcs
  have HK2 := Lib.hid hk2
  clear hk2
  clear hX0 hG hb hs hk hcs hj5
  go_enter Tryz.func3, Tryz.ntmps3
  go_wp2_with fail
  refine HAW.out.mono ?_
  rintro e w1 ⟨rfl, hp1⟩
  have H1 := Lib.hid hp1
  clear hp1 HAW
  go_upto_region 3 with (fail)
  obtain ⟨u2, hu2⟩ : ∃ u, w1.heap.size = u := ⟨_, rfl⟩
  obtain ⟨w2, hw2⟩ : ∃ w', w1.alloc (.cells #[.int .i64 128, .int .i64 192, .int .i64 127, .int .i64 129, .int .i64 0] 3) = w' := ⟨_, rfl⟩
  have hp2 : Past w1 w2 := by rw [← hw2]; exact (Below.refl _ _).alloc (Nat.le_refl _) _
  have hcell : w2.cell? ⟨u2, j, none⟩ = some (.int .i64 (k : Int)) := by
    have hr : Row w2 u2 3 #[.int .i64 128, .int .i64 192, .int .i64 127, .int .i64 129, .int .i64 0] := by rw [← hw2, ← hu2]; exact Row.new _ _ _
    rw [hr.cell]
    exact HCS.out
  have H2 := Lib.hid (H1.out.trans' hp2)
  clear hp2 H1
  go_upto_region 4 with (fail)
  try rw [hw2]
  clear hcell hw2 hu2 hws hmod hwj hj0 hj1 hs0 hj
  go_wp2_with fail
  refine (HSP.out w2).mono ?_
  rintro e w3 hb3
  obtain ⟨A3, c3, rfl, hs3, hp3⟩ := own_sl hb3
  have HS3 := Lib.hid hs3
  have H3 := Lib.hid (H2.out.trans' hp3)
  clear hb3 hs3 hp3 H2 HSP
  obtain ⟨V, C, X, hX, hcat⟩ := sls_row w3 1 [(A3, X0.length, c3, X0)] rfl (by decide) 25 (by intro y hy; simp at hy; rcases hy with rfl; exact HS3.out) (by decide)
  obtain ⟨w4, hw4⟩ : ∃ w', w3.alloc (.cells #[.slice A3 X0.length c3] 25) = w' := ⟨_, rfl⟩
  have hp4 : Past w3 w4 := by rw [← hw4]; exact (Below.refl _ _).alloc (Nat.le_refl _) _
  obtain ⟨h3, hh3⟩ : ∃ h, w3.heap.size = h := ⟨_, rfl⟩
  have hX4 : Sls w4 (some ⟨h3, 0, none⟩) 1 1 V C X := by rw [← hw4, ← hh3]; exact hX
  have HSH := Lib.hid (hShake256_any (k : Int) _ 1 1 V C X w4 hX4 (by decide) (by rw [hcat]; simp [HXL.out]) (by have := HK.out; omega))
  obtain ⟨ys, hys⟩ : ∃ x, bl (rout (rstate (cat X 1) 136 31) 136) (Int.toNat (k : Int)) = x := ⟨_, rfl⟩
  rw [hys, Int.toNat_natCast] at HSH
  have H4 := Lib.hid (H3.out.trans' hp4)
  have HW4 := Lib.hid hw4
  clear hX hX4 hcat hys hp4 hw4 H3 HS3
  go_wp2_with fail
  try rw [hh3]
  try rw [HW4.out]
  clear HW4 hh3
  refine HSH.out.mono ?_
  rintro e w5 ⟨A, c, rfl, hS5, hp5⟩
  have HS5 := Lib.hid hS5
  have H5 := Lib.hid (H4.out.trans' hp5)
  clear hS5 hp5 HSH H4 V C X
  have hz := zeroP
  obtain ⟨cz, hcz⟩ : ∃ cz, arr .u16 256 (fun _ => 0) = cz := ⟨_, rfl⟩
  obtain rfl := HK2.out
  obtain ⟨F, hF⟩ : ∃ F, noF ys 2 = F := ⟨_, rfl⟩
  have HFR : Hid (∀ i, (0 ≤ F i ∧ F i < 3329) ∧ (F i ≤ 2 ∨ 3329 - 2 ≤ F i)) := Lib.hid (by intro i; rw [← hF]; exact noF_rng ys 2 i (by decide))
  have HKN : Hid (∀ w, Sl w A 128 c ys → Calls Tryz.prog 7 #[.int .i64 2, .slice A 128 c] w fun r w' => r = .returned (.tuple #[.agg (lst F).toArray, .bool true]) ∧ Past w w') := Lib.hid (by intro w h; rw [← arr_lst, ← hF]; exact knoise2_any A c ys w h)
  have HRN : Hid (∀ w, Sl w A 128 c ys → Calls Tryz.prog 8 #[.int .i64 2, .slice A 128 c] w fun r w' => r = .returned (.agg (lst F).toArray) ∧ Past w w') := Lib.hid (by intro w h; rw [← arr_lst, ← hF]; exact rnoise2_any A c ys w h)
  have heq := eqA16 F F (fun _ _ => rfl)
  have HEG := Lib.hid egA16
  have HINF : Hid ((Tryz.prog.info? 30).map (·.size) = some (lst F).toArray.size ∧ cz.size = (lst F).toArray.size ∧ (lst F).toArray.all (·.oneCell') = true) := Lib.hid (by rw [← arr_lst, ← hcz]; exact ⟨infP _, by rw [arr_size, arr_size], arr_one .u16 256 _⟩)
  have HLF := Lib.hid (lst_len F).2
  have HCELL : Hid (∀ i, i < 256 → (lst F).toArray[i]? = some (.int .u16 (F i))) := Lib.hid (fun i hi => by rw [← arr_lst]; exact arr_get .u16 256 F i hi)
  rw [hcz] at hz
  rw [arr_lst] at heq
  have HZ := Lib.hid hz
  have HEQ := Lib.hid heq
  clear hcz hz heq hF
  generalize lst F = lF at *
  go_wp2_with fail
  refine (HKN.out w5 HS5.out).mono ?_
  rintro e w6 ⟨rfl, hp6⟩
  obtain ⟨u9, hu9⟩ : ∃ u, w6.heap.size = u := ⟨_, rfl⟩
  obtain ⟨w7, hw7⟩ : ∃ w', w6.alloc (.cells lF.toArray 30) = w' := ⟨_, rfl⟩
  have hp7 : Past w6 w7 := by rw [← hw7]; exact (Below.refl _ _).alloc (Nat.le_refl _) _
  have hr7 : Row w7 u9 30 lF.toArray := by rw [← hw7, ← hu9]; exact Row.new _ _ _
  have H7 := Lib.hid (And.intro (H5.out.trans' (hp6.trans' hp7)) (And.intro hr7 (HS5.out.past (hp6.trans' hp7))))
  have hn1 := heap_alloc_new w6 (.cells cz 30)
  rw [hu9] at hn1
  have HSR : Hid ((w6.alloc (.cells cz 30)).setRow u9 lF.toArray = w7) := Lib.hid (by rw [← hu9, World.setRow_alloc_new]; exact hw7)
  clear hp6 hp7 hw7 hr7 H5 HS5
  obtain ⟨hi1, hi0, hi2⟩ := HINF.out
  have hz := HZ.out
  go_upto_region 6 with (refine wpList_store_row rfl 30 _ _ rfl u9 _ rfl rfl _ _ hn1 hi1 hi0 hi2 ?_)
  rw [HSR.out]
  generalize lF.toArray = cF
  clear HSR hn1 hi2 hi1 hi0 hu9 hz
  go_upto_region 8 with (fail)
  go_wp2_with fail
  go_loopg [11] 256 (fun q s11 wx => ∃ i : Nat, i ≤ 256 ∧ q = 256 - i ∧ s11 = .int .i64 (i : Int) ∧ Hid (wx = w7))
  case atStart => exact ⟨0, Nat.zero_le _, rfl, rfl, Lib.hid rfl⟩
  case round =>
    obtain ⟨i, hi, hq, rfl, HW⟩ := hrel
    have HGQ := Lib.hid hq
    clear hq
    have hi0 : (0 : Int) ≤ (i : Int) := by omega
    by_cases hlt : i < 256
    · have hii : (i : Int) < 256 := by omega
      have HLT := Lib.hid hlt
      have ka : wr.cell? ⟨u9, i, none⟩ = some (.int .u16 (F i)) := by
        rw [HW.out, H7.out.2.1.cell]
        exact HCELL.out i hlt
      obtain ⟨⟨f0, f1⟩, f2⟩ := HFR.out i
      clear hlt hi
      obtain ⟨x, hx⟩ : ∃ x, F i = x := ⟨_, rfl⟩
      rw [hx] at ka f0 f1 f2
      clear hx
      have hwx : IntKind.i64.wrap x = x := by rw [IntKind.wrap_i64]; omega
      by_cases hgt : 2 < x
      · have hlx : ¬ x < 3327 := by omega
        have hlx2 : 3327 ≤ x := by omega
        clear f0 f1 f2
        go_wp2_with fail
        go_roundg (256 - (i + 1))
        case rel => exact ⟨i + 1, HLT.out, rfl, by go_num, HW⟩
        case measure => have := HGQ.out; have := HLT.out; omega
      · have hle : x ≤ 2 := by omega
        clear f0 f1 f2
        go_wp2_with fail
        go_roundg (256 - (i + 1))
        case rel => exact ⟨i + 1, HLT.out, rfl, by go_num, HW⟩
        case measure => have := HGQ.out; have := HLT.out; omega
    · obtain rfl : i = 256 := by omega
      have hw := HW.out
      clear hi hlt hi0
      go_upto_region 13 with (fail)
      try rw [hw]
      clear hw HW HGQ
      obtain ⟨wd, hwd⟩ : ∃ W, W = w7.drew := ⟨_, rfl⟩
      have HPD : Hid (Past w7 wd) := Lib.hid (by rw [hwd]; exact Past.drewN (Below.refl _ w7) 1)
      have HSK : Hid (∀ w', Past w7 w' → w'.rangeAt u9 0 lF) := Lib.hid (fun w' h => Row.range (t := 30) (H7.out.2.1.past h))
      refine wp_region_held_drew (S := fun w' => w'.rangeAt u9 0 lF) (by kernel_rfl) (by rw [← hwd]; exact HSK.out _ HPD.out) (fun hH => ?_)
      change wpAnyH _ _ _ _ _ _ _ _ (World.drew _)
      rw [← hwd]
      clear hH hwd
      have hH := HSK.out _ HPD.out
      refine held_take 0 70 (v := .bool true) rfl rfl (by kernel_rfl) (by kernel_rfl) (by kernel_rfl) (fun _ _ _ h => h) (Or.inl ⟨by kernel_rfl, fun w _ => by kernel_rfl⟩) hH ?_
      (try dsimp only [Act.put])
      (try simp only [List.setIfInBounds_toArray, List.set_cons_zero, List.set_cons_succ])
      refine held_take 1 71 (v := .bool true) rfl rfl (by kernel_rfl) (by kernel_rfl) (by kernel_rfl) (fun _ _ _ h => h) (Or.inl ⟨by kernel_rfl, fun w _ => by kernel_rfl⟩) hH ?_
      (try dsimp only [Act.put])
      (try simp only [List.setIfInBounds_toArray, List.set_cons_zero, List.set_cons_succ])
      refine held_take 2 72 rfl rfl (by kernel_rfl) (by kernel_rfl) (by kernel_rfl) (fun _ _ _ h => h) (yieldsIf_load_mid (by kernel_rfl) 30 (.tmp 9) rfl u9 0 rfl lF _ (fun _ h => h) Tryz.underlying30 rfl HLF.out) hH ?_
      (try dsimp only [Act.put])
      (try simp only [List.setIfInBounds_toArray, List.set_cons_zero, List.set_cons_succ])
      refine held_take 3 73 (v := .int .i64 2) rfl rfl (by kernel_rfl) (by kernel_rfl) (by kernel_rfl) (fun _ _ _ h => h) (Or.inl ⟨by kernel_rfl, fun w _ => by kernel_rfl⟩) hH ?_
      (try dsimp only [Act.put])
      (try simp only [List.setIfInBounds_toArray, List.set_cons_zero, List.set_cons_succ])
      refine held_take 4 74 (v := .slice A 128 c) rfl rfl (by kernel_rfl) (by kernel_rfl) (by kernel_rfl) (fun _ _ _ h => h) (Or.inl ⟨by kernel_rfl, fun w _ => by kernel_rfl⟩) hH ?_
      (try dsimp only [Act.put])
      (try simp only [List.setIfInBounds_toArray, List.set_cons_zero, List.set_cons_succ])
      refine wpAnyH_ready (rs := [5]) (by kernel_rfl) (by simp) ?_
      refine AllReadyH.cons (by simp only [List.getElem?_toArray, List.getElem?_cons_succ, List.getElem?_cons_zero]; rfl) (fun K hK => ?_) AllReadyH.nil
      go_simp
      refine (HRN.out wd (H7.out.2.2.past HPD.out)).mono ?_
      rintro e8 w8 ⟨rfl, hp8⟩
      have HP8 : Hid (Past w7 w8) := Lib.hid (HPD.out.trans' hp8)
      clear hp8
      refine hK.out _ _ (HSK.out _ HP8.out) (fun hH => ?_)
      clear hK K
      refine held_take 6 76 (v := .bool true) rfl rfl (by kernel_rfl) (by kernel_rfl) (by kernel_rfl) (fun _ _ _ h => h) (Or.inl ⟨by kernel_rfl, fun w _ => by have heq := HEQ.out; have heg := HEG.out; go_simp⟩) hH ?_
      (try dsimp only [Act.put])
      (try simp only [List.setIfInBounds_toArray, List.set_cons_zero, List.set_cons_succ])
      refine held_take 7 77 (v := .bool true) rfl rfl (by kernel_rfl) (by kernel_rfl) (by kernel_rfl) (fun _ _ _ h => h) (Or.inl ⟨by kernel_rfl, fun w _ => by kernel_rfl⟩) hH ?_
      (try dsimp only [Act.put])
      (try simp only [List.setIfInBounds_toArray, List.set_cons_zero, List.set_cons_succ])
      refine held_take 8 6 (v := .bool true) rfl rfl (by kernel_rfl) (by kernel_rfl) (by kernel_rfl) (fun _ _ _ h => h) (Or.inl ⟨by kernel_rfl, fun w _ => by kernel_rfl⟩) hH ?_
      (try dsimp only [Act.put])
      (try simp only [List.setIfInBounds_toArray, List.set_cons_zero, List.set_cons_succ])
      refine wpAnyH_done (by kernel_rfl) ?_ _
      go_simp
      clear hH
      go_wp2_with fail
      go_ret
      exact ⟨rfl, H7.out.1.trans' HP8.out⟩
theorem walkN3 (a b s : Int) (j k : Nat) (w : World) (hb : 0 ≤ b ∧ b < 4294967296) (hs : 0 ≤ s ∧ s < 256) (hj : s % 5 = (j : Int)) (hj5 : j < 5) (hk : k ≤ 192) (hcs : (#[.int .i64 128, .int .i64 192, .int .i64 127, .int .i64 129, .int .i64 0] : Array Value)[j]? = some (.int .i64 (k : Int))) (hG : Glob13 w) (hk2 : k = 192) :
    Calls Tryz.prog 3 #[.int .i64 3, .int .u32 b, .int .u8 s] w fun e w' => e = .returned (.bool true) ∧ Past w w' := by
  have HAW := Lib.hid (awake16 w hG)
  have HSP : Hid (∀ w, Calls Tryz.prog 6 #[.int .u32 b, .int .i64 9] w (OwnB (spB b 3 0) w)) := Lib.hid (fun w => rspread15_any b 3 0 w hb (by decide) (by decide))
  obtain ⟨X0, hX0⟩ : ∃ x, spB b 3 0 = x := ⟨_, rfl⟩
  have HXL : Hid (X0.length = 9) := Lib.hid (by rw [← hX0]; exact spB_len b 3 0)
  rw [hX0] at HSP
  have hs0 : 0 ≤ s := hs.1
  have hws : IntKind.i64.wrap s = s := by rw [IntKind.wrap_i64]; omega
  have hmod : s.tmod 5 = (j : Int) := by rw [Int.tmod_eq_emod_of_nonneg hs0]; exact hj
  have hwj : IntKind.i64.wrap (j : Int) = (j : Int) := by rw [IntKind.wrap_i64]; omega
  have hj0 : (0 : Int) ≤ (j : Int) := by omega
  have hj1 : (j : Int) < 5 := by omega
  have HK := Lib.hid hk
  have HCS := Lib.hid hcs
  have HK2 := Lib.hid hk2
  clear hk2
  clear hX0 hG hb hs hk hcs hj5
  go_enter Tryz.func3, Tryz.ntmps3
  go_wp2_with fail
  refine HAW.out.mono ?_
  rintro e w1 ⟨rfl, hp1⟩
  have H1 := Lib.hid hp1
  clear hp1 HAW
  go_upto_region 3 with (fail)
  obtain ⟨u2, hu2⟩ : ∃ u, w1.heap.size = u := ⟨_, rfl⟩
  obtain ⟨w2, hw2⟩ : ∃ w', w1.alloc (.cells #[.int .i64 128, .int .i64 192, .int .i64 127, .int .i64 129, .int .i64 0] 3) = w' := ⟨_, rfl⟩
  have hp2 : Past w1 w2 := by rw [← hw2]; exact (Below.refl _ _).alloc (Nat.le_refl _) _
  have hcell : w2.cell? ⟨u2, j, none⟩ = some (.int .i64 (k : Int)) := by
    have hr : Row w2 u2 3 #[.int .i64 128, .int .i64 192, .int .i64 127, .int .i64 129, .int .i64 0] := by rw [← hw2, ← hu2]; exact Row.new _ _ _
    rw [hr.cell]
    exact HCS.out
  have H2 := Lib.hid (H1.out.trans' hp2)
  clear hp2 H1
  go_upto_region 4 with (fail)
  try rw [hw2]
  clear hcell hw2 hu2 hws hmod hwj hj0 hj1 hs0 hj
  go_wp2_with fail
  refine (HSP.out w2).mono ?_
  rintro e w3 hb3
  obtain ⟨A3, c3, rfl, hs3, hp3⟩ := own_sl hb3
  have HS3 := Lib.hid hs3
  have H3 := Lib.hid (H2.out.trans' hp3)
  clear hb3 hs3 hp3 H2 HSP
  obtain ⟨V, C, X, hX, hcat⟩ := sls_row w3 1 [(A3, X0.length, c3, X0)] rfl (by decide) 25 (by intro y hy; simp at hy; rcases hy with rfl; exact HS3.out) (by decide)
  obtain ⟨w4, hw4⟩ : ∃ w', w3.alloc (.cells #[.slice A3 X0.length c3] 25) = w' := ⟨_, rfl⟩
  have hp4 : Past w3 w4 := by rw [← hw4]; exact (Below.refl _ _).alloc (Nat.le_refl _) _
  obtain ⟨h3, hh3⟩ : ∃ h, w3.heap.size = h := ⟨_, rfl⟩
  have hX4 : Sls w4 (some ⟨h3, 0, none⟩) 1 1 V C X := by rw [← hw4, ← hh3]; exact hX
  have HSH := Lib.hid (hShake256_any (k : Int) _ 1 1 V C X w4 hX4 (by decide) (by rw [hcat]; simp [HXL.out]) (by have := HK.out; omega))
  obtain ⟨ys, hys⟩ : ∃ x, bl (rout (rstate (cat X 1) 136 31) 136) (Int.toNat (k : Int)) = x := ⟨_, rfl⟩
  rw [hys, Int.toNat_natCast] at HSH
  have H4 := Lib.hid (H3.out.trans' hp4)
  have HW4 := Lib.hid hw4
  clear hX hX4 hcat hys hp4 hw4 H3 HS3
  go_wp2_with fail
  try rw [hh3]
  try rw [HW4.out]
  clear HW4 hh3
  refine HSH.out.mono ?_
  rintro e w5 ⟨A, c, rfl, hS5, hp5⟩
  have HS5 := Lib.hid hS5
  have H5 := Lib.hid (H4.out.trans' hp5)
  clear hS5 hp5 HSH H4 V C X
  have hz := zeroP
  obtain ⟨cz, hcz⟩ : ∃ cz, arr .u16 256 (fun _ => 0) = cz := ⟨_, rfl⟩
  obtain rfl := HK2.out
  obtain ⟨F, hF⟩ : ∃ F, noF ys 3 = F := ⟨_, rfl⟩
  have HFR : Hid (∀ i, (0 ≤ F i ∧ F i < 3329) ∧ (F i ≤ 3 ∨ 3329 - 3 ≤ F i)) := Lib.hid (by intro i; rw [← hF]; exact noF_rng ys 3 i (by decide))
  have HKN : Hid (∀ w, Sl w A 192 c ys → Calls Tryz.prog 7 #[.int .i64 3, .slice A 192 c] w fun r w' => r = .returned (.tuple #[.agg (lst F).toArray, .bool true]) ∧ Past w w') := Lib.hid (by intro w h; rw [← arr_lst, ← hF]; exact knoise3_any A c ys w h)
  have HRN : Hid (∀ w, Sl w A 192 c ys → Calls Tryz.prog 8 #[.int .i64 3, .slice A 192 c] w fun r w' => r = .returned (.agg (lst F).toArray) ∧ Past w w') := Lib.hid (by intro w h; rw [← arr_lst, ← hF]; exact rnoise3_any A c ys w h)
  have heq := eqA16 F F (fun _ _ => rfl)
  have HEG := Lib.hid egA16
  have HINF : Hid ((Tryz.prog.info? 30).map (·.size) = some (lst F).toArray.size ∧ cz.size = (lst F).toArray.size ∧ (lst F).toArray.all (·.oneCell') = true) := Lib.hid (by rw [← arr_lst, ← hcz]; exact ⟨infP _, by rw [arr_size, arr_size], arr_one .u16 256 _⟩)
  have HLF := Lib.hid (lst_len F).2
  have HCELL : Hid (∀ i, i < 256 → (lst F).toArray[i]? = some (.int .u16 (F i))) := Lib.hid (fun i hi => by rw [← arr_lst]; exact arr_get .u16 256 F i hi)
  rw [hcz] at hz
  rw [arr_lst] at heq
  have HZ := Lib.hid hz
  have HEQ := Lib.hid heq
  clear hcz hz heq hF
  generalize lst F = lF at *
  go_wp2_with fail
  refine (HKN.out w5 HS5.out).mono ?_
  rintro e w6 ⟨rfl, hp6⟩
  obtain ⟨u9, hu9⟩ : ∃ u, w6.heap.size = u := ⟨_, rfl⟩
  obtain ⟨w7, hw7⟩ : ∃ w', w6.alloc (.cells lF.toArray 30) = w' := ⟨_, rfl⟩
  have hp7 : Past w6 w7 := by rw [← hw7]; exact (Below.refl _ _).alloc (Nat.le_refl _) _
  have hr7 : Row w7 u9 30 lF.toArray := by rw [← hw7, ← hu9]; exact Row.new _ _ _
  have H7 := Lib.hid (And.intro (H5.out.trans' (hp6.trans' hp7)) (And.intro hr7 (HS5.out.past (hp6.trans' hp7))))
  have hn1 := heap_alloc_new w6 (.cells cz 30)
  rw [hu9] at hn1
  have HSR : Hid ((w6.alloc (.cells cz 30)).setRow u9 lF.toArray = w7) := Lib.hid (by rw [← hu9, World.setRow_alloc_new]; exact hw7)
  clear hp6 hp7 hw7 hr7 H5 HS5
  obtain ⟨hi1, hi0, hi2⟩ := HINF.out
  have hz := HZ.out
  go_upto_region 6 with (refine wpList_store_row rfl 30 _ _ rfl u9 _ rfl rfl _ _ hn1 hi1 hi0 hi2 ?_)
  rw [HSR.out]
  generalize lF.toArray = cF
  clear HSR hn1 hi2 hi1 hi0 hu9 hz
  go_upto_region 8 with (fail)
  go_wp2_with fail
  go_loopg [11] 256 (fun q s11 wx => ∃ i : Nat, i ≤ 256 ∧ q = 256 - i ∧ s11 = .int .i64 (i : Int) ∧ Hid (wx = w7))
  case atStart => exact ⟨0, Nat.zero_le _, rfl, rfl, Lib.hid rfl⟩
  case round =>
    obtain ⟨i, hi, hq, rfl, HW⟩ := hrel
    have HGQ := Lib.hid hq
    clear hq
    have hi0 : (0 : Int) ≤ (i : Int) := by omega
    by_cases hlt : i < 256
    · have hii : (i : Int) < 256 := by omega
      have HLT := Lib.hid hlt
      have ka : wr.cell? ⟨u9, i, none⟩ = some (.int .u16 (F i)) := by
        rw [HW.out, H7.out.2.1.cell]
        exact HCELL.out i hlt
      obtain ⟨⟨f0, f1⟩, f2⟩ := HFR.out i
      clear hlt hi
      obtain ⟨x, hx⟩ : ∃ x, F i = x := ⟨_, rfl⟩
      rw [hx] at ka f0 f1 f2
      clear hx
      have hwx : IntKind.i64.wrap x = x := by rw [IntKind.wrap_i64]; omega
      by_cases hgt : 3 < x
      · have hlx : ¬ x < 3326 := by omega
        have hlx2 : 3326 ≤ x := by omega
        clear f0 f1 f2
        go_wp2_with fail
        go_roundg (256 - (i + 1))
        case rel => exact ⟨i + 1, HLT.out, rfl, by go_num, HW⟩
        case measure => have := HGQ.out; have := HLT.out; omega
      · have hle : x ≤ 3 := by omega
        clear f0 f1 f2
        go_wp2_with fail
        go_roundg (256 - (i + 1))
        case rel => exact ⟨i + 1, HLT.out, rfl, by go_num, HW⟩
        case measure => have := HGQ.out; have := HLT.out; omega
    · obtain rfl : i = 256 := by omega
      have hw := HW.out
      clear hi hlt hi0
      go_upto_region 13 with (fail)
      try rw [hw]
      clear hw HW HGQ
      obtain ⟨wd, hwd⟩ : ∃ W, W = w7.drew := ⟨_, rfl⟩
      have HPD : Hid (Past w7 wd) := Lib.hid (by rw [hwd]; exact Past.drewN (Below.refl _ w7) 1)
      have HSK : Hid (∀ w', Past w7 w' → w'.rangeAt u9 0 lF) := Lib.hid (fun w' h => Row.range (t := 30) (H7.out.2.1.past h))
      refine wp_region_held_drew (S := fun w' => w'.rangeAt u9 0 lF) (by kernel_rfl) (by rw [← hwd]; exact HSK.out _ HPD.out) (fun hH => ?_)
      change wpAnyH _ _ _ _ _ _ _ _ (World.drew _)
      rw [← hwd]
      clear hH hwd
      have hH := HSK.out _ HPD.out
      refine held_take 0 70 (v := .bool true) rfl rfl (by kernel_rfl) (by kernel_rfl) (by kernel_rfl) (fun _ _ _ h => h) (Or.inl ⟨by kernel_rfl, fun w _ => by kernel_rfl⟩) hH ?_
      (try dsimp only [Act.put])
      (try simp only [List.setIfInBounds_toArray, List.set_cons_zero, List.set_cons_succ])
      refine held_take 1 71 (v := .bool true) rfl rfl (by kernel_rfl) (by kernel_rfl) (by kernel_rfl) (fun _ _ _ h => h) (Or.inl ⟨by kernel_rfl, fun w _ => by kernel_rfl⟩) hH ?_
      (try dsimp only [Act.put])
      (try simp only [List.setIfInBounds_toArray, List.set_cons_zero, List.set_cons_succ])
      refine held_take 2 72 rfl rfl (by kernel_rfl) (by kernel_rfl) (by kernel_rfl) (fun _ _ _ h => h) (yieldsIf_load_mid (by kernel_rfl) 30 (.tmp 9) rfl u9 0 rfl lF _ (fun _ h => h) Tryz.underlying30 rfl HLF.out) hH ?_
      (try dsimp only [Act.put])
      (try simp only [List.setIfInBounds_toArray, List.set_cons_zero, List.set_cons_succ])
      refine held_take 3 73 (v := .int .i64 3) rfl rfl (by kernel_rfl) (by kernel_rfl) (by kernel_rfl) (fun _ _ _ h => h) (Or.inl ⟨by kernel_rfl, fun w _ => by kernel_rfl⟩) hH ?_
      (try dsimp only [Act.put])
      (try simp only [List.setIfInBounds_toArray, List.set_cons_zero, List.set_cons_succ])
      refine held_take 4 74 (v := .slice A 192 c) rfl rfl (by kernel_rfl) (by kernel_rfl) (by kernel_rfl) (fun _ _ _ h => h) (Or.inl ⟨by kernel_rfl, fun w _ => by kernel_rfl⟩) hH ?_
      (try dsimp only [Act.put])
      (try simp only [List.setIfInBounds_toArray, List.set_cons_zero, List.set_cons_succ])
      refine wpAnyH_ready (rs := [5]) (by kernel_rfl) (by simp) ?_
      refine AllReadyH.cons (by simp only [List.getElem?_toArray, List.getElem?_cons_succ, List.getElem?_cons_zero]; rfl) (fun K hK => ?_) AllReadyH.nil
      go_simp
      refine (HRN.out wd (H7.out.2.2.past HPD.out)).mono ?_
      rintro e8 w8 ⟨rfl, hp8⟩
      have HP8 : Hid (Past w7 w8) := Lib.hid (HPD.out.trans' hp8)
      clear hp8
      refine hK.out _ _ (HSK.out _ HP8.out) (fun hH => ?_)
      clear hK K
      refine held_take 6 76 (v := .bool true) rfl rfl (by kernel_rfl) (by kernel_rfl) (by kernel_rfl) (fun _ _ _ h => h) (Or.inl ⟨by kernel_rfl, fun w _ => by have heq := HEQ.out; have heg := HEG.out; go_simp⟩) hH ?_
      (try dsimp only [Act.put])
      (try simp only [List.setIfInBounds_toArray, List.set_cons_zero, List.set_cons_succ])
      refine held_take 7 77 (v := .bool true) rfl rfl (by kernel_rfl) (by kernel_rfl) (by kernel_rfl) (fun _ _ _ h => h) (Or.inl ⟨by kernel_rfl, fun w _ => by kernel_rfl⟩) hH ?_
      (try dsimp only [Act.put])
      (try simp only [List.setIfInBounds_toArray, List.set_cons_zero, List.set_cons_succ])
      refine held_take 8 6 (v := .bool true) rfl rfl (by kernel_rfl) (by kernel_rfl) (by kernel_rfl) (fun _ _ _ h => h) (Or.inl ⟨by kernel_rfl, fun w _ => by kernel_rfl⟩) hH ?_
      (try dsimp only [Act.put])
      (try simp only [List.setIfInBounds_toArray, List.set_cons_zero, List.set_cons_succ])
      refine wpAnyH_done (by kernel_rfl) ?_ _
      go_simp
      clear hH
      go_wp2_with fail
      go_ret
      exact ⟨rfl, H7.out.1.trans' HP8.out⟩
theorem pick5 (s : Int) (hs : 0 ≤ s) : ∃ j k : Nat, s % 5 = (j : Int) ∧ j < 5 ∧ k ≤ 192 ∧ (#[.int .i64 128, .int .i64 192, .int .i64 127, .int .i64 129, .int .i64 0] : Array Value)[j]? = some (.int .i64 (k : Int)) := by
  rcases (show s % 5 = 0 ∨ s % 5 = 1 ∨ s % 5 = 2 ∨ s % 5 = 3 ∨ s % 5 = 4 by omega) with h | h | h | h | h
  · exact ⟨0, 128, h, by decide, by decide, rfl⟩
  · exact ⟨1, 192, h, by decide, by decide, rfl⟩
  · exact ⟨2, 127, h, by decide, by decide, rfl⟩
  · exact ⟨3, 129, h, by decide, by decide, rfl⟩
  · exact ⟨4, 0, h, by decide, by decide, rfl⟩
theorem walk (a b s : Int) (w : World) (ha : (Lit.int .i64 a).wf = true) (hb : (Lit.int .u32 b).wf = true) (hs : (Lit.int .u8 s).wf = true) (hG : Glob13 w) :
    Calls Tryz.prog 3 #[.int .i64 a, .int .u32 b, .int .u8 s] w fun e w' => e = .returned (.bool true) ∧ Past w w' := by
  have hb' : 0 ≤ b ∧ b < 4294967296 := by have := bounds_u32 hb; omega
  have hs' : 0 ≤ s ∧ s < 256 := by have := bounds_u8 hs; omega
  obtain ⟨j, k, h1, h2, h3, h4⟩ := pick5 s hs'.1
  by_cases e2 : a = 2
  · subst e2
    by_cases ek : k = 128
    · exact walkN2 0 b s j k w hb' hs' h1 h2 h3 h4 hG ek
    · exact walkW2 0 b s j k w hb' hs' h1 h2 h3 h4 hG (by omega)
  · by_cases e3 : a = 3
    · subst e3
      by_cases ek : k = 192
      · exact walkN3 0 b s j k w hb' hs' h1 h2 h3 h4 hG ek
      · exact walkW3 0 b s j k w hb' hs' h1 h2 h3 h4 hG (by omega)
    · exact walkE a b s j k w hb' hs' h1 h2 h3 h4 hG e2 e3
def args0 : Array Value := #[.int .i64 0, .int .u32 0, .int .u8 0]
theorem laid_met (os : Os) : laidMetH Tryz.prog Rows.kgenNoiseRow.laid ((laidWorld os).forCall (fun _ _ => 0) ⟨#[], args0, []⟩).memory :=
  laid_world os args0
theorem witness_row (os : Os) {H : Type} (enc : TypeId × Value → H) :
    (OpenSpec.ofChange Rows.kgenNoiseSpec).preRow enc Tryz.prog Tryz.f3 Rows.kgenNoiseRow.domain false Rows.kgenNoiseRow.laid ((laidWorld os).forCall (fun _ _ => 0) ⟨#[], args0, []⟩).memory args0 := by
  have hw : (DataW.whole enc Tryz.prog ((laidWorld os).forCall (fun _ _ => 0) ⟨#[], args0, []⟩).memory Tryz.f3.params.toList (OpenSpec.ofChange Rows.kgenNoiseSpec).vars false args0.toList 8).map (fun x => (x.1, x.2.1)) =
      some ([.lit (.int .i64 0), .lit (.int .u32 0), .lit (.int .u8 0)], []) := by kernel_rfl
  obtain ⟨⟨x1, x2, x3⟩, hx, hx1⟩ := Option.map_eq_some_iff.1 hw
  simp only [Prod.mk.injEq] at hx1
  obtain ⟨rfl, rfl⟩ := hx1
  exact OpenSpec.preRow_of_cond 8 hx (by kernel_rfl) (fun k hk => by cases hk) (by kernel_rfl) (laid_met os)

set_option maxRecDepth 100000 in
set_option maxHeartbeats 2000000 in
theorem lifted (os : Os) (started : os.Started) (H : Type) (enc : TypeId × Value → H) (F : Stop.Interp) :
    ReturnsInHanded {} Tryz.checked os 3 .any ((OpenSpec.ofChange Rows.kgenNoiseSpec).preRow enc Tryz.prog Tryz.f3 Rows.kgenNoiseRow.domain false Rows.kgenNoiseRow.laid) (((OpenSpec.ofChange Rows.kgenNoiseSpec).at F).post enc Tryz.prog Tryz.f3 false true false false) := by
  refine returnsInHanded_of_row (C := Tryz.checked) (s := OpenSpec.ofChange Rows.kgenNoiseSpec) own started (by kernel_rfl) Tryz.func3
    (witness_row_atRef (enc := enc) (C := Tryz.checked) false (laidWorld os) args0 rfl (by kernel_rfl) (by kernel_rfl) (by kernel_rfl) (witness_row os enc)) ?_
  intro W base args ds gs before hval0 hW _ hcnd _ hL hsh _
  have hval : ∀ (j : Nat) t v, Tryz.f3.params[j]? = some t → args[j]? = some v → Value.okWide Tryz.prog W .any base t v := hval0
  have hW' := hW
  obtain ⟨p, q, hA0, hV, rfl, hfz, hnd⟩ := hW
  have hA : DataW.TrodAll enc Tryz.prog W 0 (fun _ => true) true Tryz.f3.params.toList args.toList ds p := hA0
  rw [Tryz.params3] at hA hval
  obtain ⟨v0, vs0, d0, ds0, p0, q0, hargs, rfl, rfl, h0, r0⟩ := trodAll_cons hA
  obtain ⟨v1, vs1, d1, ds1, p1, q1, rfl, rfl, rfl, h1, r1⟩ := trodAll_cons r0
  obtain ⟨v2, vs2, d2, ds2, p2, q2, rfl, rfl, rfl, h2, r2⟩ := trodAll_cons r1
  obtain ⟨rfl, rfl, rfl⟩ := trodAll_nil r2
  obtain rfl : args = #[v0, v1, v2] := by cases args; simp_all
  obtain ⟨rfl, rfl⟩ := trodVars_none hV
  obtain ⟨a0, rfl, rfl, rfl, w0⟩ := open_int Tryz.underlying3 (hval 0 3 v0 rfl rfl) h0
  obtain ⟨a1, rfl, rfl, rfl, w1⟩ := open_int Tryz.underlying22 (hval 1 22 v1 rfl rfl) h1
  obtain ⟨a2, rfl, rfl, rfl, w2⟩ := open_int Tryz.underlying5 (hval 2 5 v2 rfl rfl) h2
  have hG := glob_of_row hL hsh
  clear hA0 hval0
  refine (walk a0 a1 a2 W w0 w1 w2 hG).mono fun e W' ⟨he, bel⟩ => ?_
  subst he
  exact ⟨_, rfl, _, _, _, [], _, [], hW', trodAll_mk1 (shut_bool Tryz.underlying4 _), (trodAll_cons_mk (shut_int Tryz.underlying3 w0) (trodAll_cons_mk (shut_int Tryz.underlying22 w1) (trodAll_cons_mk (shut_int Tryz.underlying5 w2) trodAll_mk0))), rfl, bel.frame _, fun h => by cases h⟩

theorem row_holds : Rows.KgenNoiseSaid :=
  OpenClaim.holds_of_cond 3 Tryz.f3 rfl rfl rfl rfl rfl rfl rfl ⟨rfl, rfl, rfl, rfl, rfl⟩ rfl rfl rfl rfl rfl (by kernel_rfl) Tryz.func3 (by kernel_rfl)
    (of_decide_eq_true (by kernel_rfl)) (by unfold Func.isWrapper; first | (rw [if_pos (by decide +kernel)]; kernel_rfl) | (rw [if_neg (by decide +kernel)]; exact ⟨rfl, rfl⟩))
    (fun os started H enc _ F0 => by rw [OpenClaim.pre_eq_preRow]; exact lifted os started H enc F0)

theorem card : Rows.KgenNoiseCardSaid :=
  Claim7.holds_tied_plain_at .later [] [.data, .data, .data, .data, .sentinel, .sentinel, .data, .data, .data, .data, .pinned] true Rows.kgenNoiseCard.stood.harness true
    row_holds (fun _ h => by cases h) (by kernel_rfl) (fun _ h => by cases h) kgenNoise_row_tie rfl ⟨rfl, rfl⟩ (by kernel_rfl) rfl
    (fun f fn hf hfn => by
      obtain rfl : f = 3 := Option.some.inj ((show Tryz.prog.funcNamed "pyx/pyxlaw16.KgenNoise" = some 3 by kernel_rfl).symm.trans hf) |>.symm
      obtain rfl : fn = Tryz.f3 := (Option.some.inj (Tryz.func3.symm.trans hfn)).symm
      exact ⟨by kernel_rfl, fun j t ht => by
        rw [Tryz.params3] at ht
        have h3 : t = 3 ∨ t = 22 ∨ t = 5 := by
          rcases j with _ | _ | _ | j
          · exact .inl (by simpa using ht.symm)
          · exact .inr (.inl (by simpa using ht.symm))
          · exact .inr (.inr (by simpa using ht.symm))
          · simp at ht
        rcases h3 with rfl | rfl | rfl
        · exact (show Tryz.prog.wantsStandIn 3 = false by kernel_rfl)
        · exact (show Tryz.prog.wantsStandIn 22 = false by kernel_rfl)
        · exact (show Tryz.prog.wantsStandIn 5 = false by kernel_rfl)⟩)
    (by kernel_rfl)

#print axioms card
end Go.Proofs.YtalhdalmafhofaaGreatDoor.kgenNoise
