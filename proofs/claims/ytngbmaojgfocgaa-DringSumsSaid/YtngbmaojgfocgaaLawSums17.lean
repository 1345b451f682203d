/- DringSums over the program's contracts. -/
import Derived.Test.YtngbmaojgfocgaaFrame17
import Derived.Test.YtngbmaojgfocgaaM17F
import Derived.Deep.RegionHeld
namespace Go.Proofs.Ytngbmaojgfocgaa.dr.dringSums
open Go.RowKit Go.ChangeShapes Go.WideShapes Go.ChangeAt
set_option linter.unusedVariables false

theorem add_sub (F G : Nat → Int) (j : Nat) : addF (subF F G) G j = addF F (fun _ => 0) j := by
  show ((F j - G j) % 8380417 + G j) % 8380417 = (F j + 0) % 8380417
  omega
set_option maxHeartbeats 16000000 in
set_option maxRecDepth 100000 in
theorem walk' (H : Prog17) (a b c a2 b2 c2 : Int) (i : Nat) (hi : i < 256) (w : World) (ha : (Lit.int .u32 a).wf = true) (hb : (Lit.int .u32 b).wf = true) (hc : (Lit.int .u32 c).wf = true) (ha2 : (Lit.int .u32 a2).wf = true) (hb2 : (Lit.int .u32 b2).wf = true) (hc2 : (Lit.int .u32 c2).wf = true) :
    Calls Try.prog 6 #[.agg #[.int .u32 a, .int .u32 b, .int .u32 c], .agg #[.int .u32 a2, .int .u32 b2, .int .u32 c2], .int .u8 (i : Int)] w fun e w' => e = .returned (.bool true) ∧ Past w w' := by
  have HAW := Lib.hid (fun w => awake17 H w)
  have HSP := Lib.hid (fun w => spread_any a b c (by have := bounds_u32 ha; omega) (by have := bounds_u32 hb; omega) (by have := bounds_u32 hc; omega) w)
  have HSP2 := Lib.hid (fun w => spread_any a2 b2 c2 (by have := bounds_u32 ha2; omega) (by have := bounds_u32 hb2; omega) (by have := bounds_u32 hc2; omega) w)
  have hf := spr_rng a b c
  have hg := spr_rng a2 b2 c2
  generalize spr a b c = F at *
  generalize spr a2 b2 c2 = G at *
  have lowA : ∀ x y : Nat → Int, ∀ j, 0 ≤ addF x y j ∧ addF x y j < 8380417 := fun x y j => by unfold addF; omega
  have lowD : ∀ j, 0 ≤ subF F G j ∧ subF F G j < 8380417 := fun j => by unfold subF; omega
  have HA := Lib.hid (fun w => H.add F G w hf hg)
  have HRA := Lib.hid (fun w => radd_any F G hf hg w)
  have HB := Lib.hid (fun w => H.sub F G w hf hg)
  have HAD := Lib.hid (fun w => H.add (subF F G) G w (R32.of_low lowD) hg)
  have HAZ := Lib.hid (fun w => H.add F (fun _ => 0) w hf (fun _ => by simp))
  rw [arr_ext (k := .u32) (n := 256) (fun j _ => add_sub F G j)] at HAD
  have HNS := Lib.hid (fun w => H.ntt (subF F G) w (R32.of_low lowD))
  have HNF := Lib.hid (fun w => H.ntt F w hf)
  have HNG := Lib.hid (fun w => H.ntt G w hg)
  have HAN := Lib.hid (fun w => H.sub (ntt F) (ntt G) w (R32.of_low (ntt_low _)) (R32.of_low (ntt_low _)))
  rw [ntt_sub] at HNS
  have heq := eqA (addF F G) (addF F G) fun _ _ => rfl
  have heqp := eqP (addF F fun _ => 0) (addF F fun _ => 0) fun _ _ => rfl
  have HEQ3 := Lib.hid (eqP (subF (ntt F) (ntt G)) (subF (ntt F) (ntt G)) fun _ _ => rfl)
  have heg := egA
  have hegp := egP
  have hlf := (lst_len F).2
  have hlg := (lst_len G).2
  have hls := (lst_len (addF F G)).2
  have hld := (lst_len (subF F G)).2
  have HSF : Hid ((arr .u32 256 fun _ => 0).size = (arr .u32 256 F).size) := Lib.hid (by rw [arr_size, arr_size])
  have HOF := Lib.hid (arr_one .u32 256 F)
  have HRLF := Lib.hid (fun (w : World) (g : Nat) (h : Row w g 27 (arr .u32 256 F)) => row_lst h)
  have HSG : Hid ((arr .u32 256 fun _ => 0).size = (arr .u32 256 G).size) := Lib.hid (by rw [arr_size, arr_size])
  have HOG := Lib.hid (arr_one .u32 256 G)
  have HRLG := Lib.hid (fun (w : World) (g : Nat) (h : Row w g 27 (arr .u32 256 G)) => row_lst h)
  have HSS : Hid ((arr .u32 256 fun _ => 0).size = (arr .u32 256 (addF F G)).size) := Lib.hid (by rw [arr_size, arr_size])
  have HOS := Lib.hid (arr_one .u32 256 (addF F G))
  have HRLS := Lib.hid (fun (w : World) (g : Nat) (h : Row w g 27 (arr .u32 256 (addF F G))) => row_lst h)
  have HSD : Hid ((arr .u32 256 fun _ => 0).size = (arr .u32 256 (subF F G)).size) := Lib.hid (by rw [arr_size, arr_size])
  have HOD := Lib.hid (arr_one .u32 256 (subF F G))
  have HRLD := Lib.hid (fun (w : World) (g : Nat) (h : Row w g 27 (arr .u32 256 (subF F G))) => row_lst h)
  have HSZ : Hid ((arr .u32 256 fun _ => 0).size = 256) := Lib.hid (arr_size _ _ _)
  have hi2 := infP F
  have hi3 := infP G
  have hi4 := infP (addF F G)
  have hi5 := infP (subF F G)
  have cF := arr_get .u32 256 F i hi
  have cG := arr_get .u32 256 G i hi
  have cD := arr_get .u32 256 (subF F G) i hi
  obtain ⟨X, hX⟩ : ∃ X, F i = X := ⟨_, rfl⟩
  obtain ⟨Y, hY⟩ : ∃ X, G i = X := ⟨_, rfl⟩
  obtain ⟨D, hD⟩ : ∃ X, subF F G i = X := ⟨_, rfl⟩
  have hDD : (X - Y) % 8380417 = D := by rw [← hD, ← hX, ← hY]; rfl
  have bX := hf i
  have bY := hg i
  rw [hX] at bX cF
  rw [hY] at bY cG
  rw [hD] at cD
  obtain ⟨s1, hs1⟩ : ∃ s, X - Y = s := ⟨_, rfl⟩
  obtain ⟨s2, hs2⟩ : ∃ s, s1.tmod 8380417 = s := ⟨_, rfl⟩
  have h2x : s2 = D ∨ s2 = D - 8380417 := by
    rw [hs1] at hDD
    rcases (show 0 ≤ s1 ∨ s1 < 0 by omega) with h | h
    · rw [Int.tmod_eq_emod_of_nonneg h] at hs2
      omega
    · have := Int.tmod_eq_emod (a := s1) (b := 8380417)
      rw [hs2] at this
      split at this <;> omega
  obtain ⟨s3, hs3⟩ : ∃ s, s2 + 8380417 = s := ⟨_, rfl⟩
  have bD : 0 ≤ D ∧ D < 8380417 := by omega
  have w18 : IntKind.i64.wrap (X - Y) = s1 := by rw [hs1, IntKind.wrap_i64]; omega
  have w20 : IntKind.i64.wrap (s2 + 8380417) = s3 := by rw [hs3, IntKind.wrap_i64]; omega
  have w21 : s3 % 8380417 = D := by omega
  have w22 : s3.tmod 8380417 = D := by rw [Int.tmod_eq_emod_of_nonneg (by omega)]; exact w21
  have b3 : 0 ≤ s3 := by omega
  have b4 : s3 ≤ 20000000 := by omega
  have b5 : -10000000 ≤ s2 := by omega
  have b6 : s2 ≤ 10000000 := by omega
  obtain ⟨x0, x1⟩ := bX
  obtain ⟨y0, y1⟩ := bY
  obtain ⟨d0, d1⟩ := bD
  have wX : IntKind.i64.wrap X = X := by rw [IntKind.wrap_i64]; omega
  have wY : IntKind.i64.wrap Y = Y := by rw [IntKind.wrap_i64]; omega
  have wD : IntKind.i64.wrap D = D := by rw [IntKind.wrap_i64]; omega
  have hi0 : (0 : Int) ≤ (i : Int) := by omega
  have hi1 : (i : Int) < 256 := by omega
  have hz := zeroP
  simp only [arr_lst] at HSP HSP2 HA HRA HB HAD HAZ HNS HNF HNG HAN heq heqp HEQ3 HSZ HSF HSG HSS HSD HOF HOG HOS HOD HRLF HRLG HRLS HRLD hi2 hi3 hi4 hi5 cF cG cD hz
  have HCF := Lib.hid cF
  have HCG := Lib.hid cG
  have HCD := Lib.hid cD
  generalize lst F = lf at *
  generalize lst G = lg at *
  generalize lst (addF F G) = ls at *
  generalize lst (subF F G) = ld at *
  generalize lst (ntt F) = lnf at *
  generalize lst (ntt G) = lng at *
  generalize lst (subF (ntt F) (ntt G)) = ln at *
  generalize lst (addF F fun _ => 0) = l0 at *
  generalize (lst fun _ => 0) = lz at *
  clear hf hg H lowA lowD hX hY hD hDD hs1 hs3 h2x cF cG cD hi
  go_enter Try.func6, Try.ntmps6
  obtain ⟨g, hg⟩ : ∃ g, w.heap.size = g := ⟨_, rfl⟩
  obtain ⟨wb0, hwb0⟩ : ∃ w', w.alloc (.cells #[.int .u32 a, .int .u32 b, .int .u32 c] 23) = w' := ⟨_, rfl⟩
  have pwb0 : Past w wb0 := by rw [← hwb0]; exact (Below.refl _ w).alloc (Nat.le_refl _) _
  have swb0 : wb0.heap.size = g + 1 := by rw [← hwb0, World.size_alloc]; omega
  have rwb0 : Row wb0 (g) 23 #[.int .u32 a, .int .u32 b, .int .u32 c] := by
    have := Row.new w 23 #[.int .u32 a, .int .u32 b, .int .u32 c]
    rw [hwb0, show w.heap.size = g by omega] at this
    exact this
  obtain ⟨wb1, hwb1⟩ : ∃ w', wb0.alloc (.cells #[.int .u32 a2, .int .u32 b2, .int .u32 c2] 23) = w' := ⟨_, rfl⟩
  have pwb1 : Past wb0 wb1 := by rw [← hwb1]; exact (Below.refl _ wb0).alloc (Nat.le_refl _) _
  have swb1 : wb1.heap.size = g + 1 + 1 := by rw [← hwb1, World.size_alloc]; omega
  have rwb1 : Row wb1 (g + 1) 23 #[.int .u32 a2, .int .u32 b2, .int .u32 c2] := by
    have := Row.new wb0 23 #[.int .u32 a2, .int .u32 b2, .int .u32 c2]
    rw [hwb1, show wb0.heap.size = g + 1 by omega] at this
    exact this
  go_upto_region 1 with (fail)
  try rw [hwb0]; try rw [hwb1]
  try rw [hg]
  have HPB : Hid (Past w wb1) := Lib.hid (pwb0.trans' pwb1)
  have HRB : Hid (Row wb1 (g) 23 #[.int .u32 a, .int .u32 b, .int .u32 c] ∧ Row wb1 (g + 1) 23 #[.int .u32 a2, .int .u32 b2, .int .u32 c2]) := Lib.hid ⟨rwb0.past pwb1, rwb1⟩
  clear hg hwb0 pwb0 rwb0 swb0 hwb1 pwb1 rwb1 swb1
  go_wp2_with fail
  refine (HAW.out wb1).mono ?_
  rintro e w1 ⟨rfl, hp⟩
  have H1 : Hid (Past w w1) := Lib.hid (HPB.out.trans' hp)
  have HSE : Hid (∀ w', Past w1 w' → Row w' (g) 23 #[.int .u32 a, .int .u32 b, .int .u32 c] ∧ Row w' (g + 1) 23 #[.int .u32 a2, .int .u32 b2, .int .u32 c2]) := Lib.hid (fun w' h => ⟨HRB.out.1.past (hp.trans' h), HRB.out.2.past (hp.trans' h)⟩)
  clear hp HAW HRB HPB
  obtain k0 := (HSE.out w1 (Below.refl _ _)).1.cell 0
  obtain k1 := (HSE.out w1 (Below.refl _ _)).1.cell 1
  obtain k2 := (HSE.out w1 (Below.refl _ _)).1.cell 2
  go_wp2_with fail
  refine (HSP.out w1).mono ?_
  rintro e w2 ⟨rfl, hp⟩
  have HP2 := Lib.hid hp
  clear hp k0 k1 k2
  obtain ⟨u, hu⟩ : ∃ u, w2.heap.size = u := ⟨_, rfl⟩
  have hfr := fresh_row w2 27 lz.toArray lf.toArray
  have hr0 := Row.new w2 27 lz.toArray
  have hsN := HSF.out
  have hoN := HOF.out
  rw [hu] at hfr hr0
  obtain ⟨w3, hw3⟩ : ∃ w', (w2.alloc (.cells lz.toArray 27)).setRow u lf.toArray = w' := ⟨_, rfl⟩
  rw [hw3] at hfr
  have HPw3 : Hid (Past w2 w3) := Lib.hid hfr.2
  have HROWw3 := Lib.hid hfr.1
  have HW3 := Lib.hid hw3
  clear hw3 hfr
  go_upto_region 4 with (refine wpList_store_row rfl 27 _ _ rfl u _ rfl rfl _ _ hr0 hi2 hsN hoN ?_)
  rw [HW3.out]
  clear HW3 hr0 hsN hoN hu
  obtain k0 := (HSE.out w3 (HP2.out.trans' HPw3.out)).2.cell 0
  obtain k1 := (HSE.out w3 (HP2.out.trans' HPw3.out)).2.cell 1
  obtain k2 := (HSE.out w3 (HP2.out.trans' HPw3.out)).2.cell 2
  go_wp2_with fail
  refine (HSP2.out w3).mono ?_
  rintro e w4 ⟨rfl, hp⟩
  have HP4 := Lib.hid hp
  clear hp k0 k1 k2 HSE HSP HSP2
  obtain ⟨v, hu⟩ : ∃ u, w4.heap.size = u := ⟨_, rfl⟩
  have hfr := fresh_row w4 27 lz.toArray lg.toArray
  have hr0 := Row.new w4 27 lz.toArray
  have hsN := HSG.out
  have hoN := HOG.out
  rw [hu] at hfr hr0
  obtain ⟨w5, hw3⟩ : ∃ w', (w4.alloc (.cells lz.toArray 27)).setRow v lg.toArray = w' := ⟨_, rfl⟩
  rw [hw3] at hfr
  have HPw5 : Hid (Past w4 w5) := Lib.hid hfr.2
  have HROWw5 := Lib.hid hfr.1
  have HW3 := Lib.hid hw3
  clear hw3 hfr
  go_upto_region 5 with (refine wpList_store_row rfl 27 _ _ rfl v _ rfl rfl _ _ hr0 hi3 hsN hoN ?_)
  rw [HW3.out]
  clear HW3 hr0 hsN hoN hu
  have rf := HROWw3.out.past (HP4.out.trans' HPw5.out)
  have rg := HROWw5.out.past (Below.refl _ _)
  go_wp2_with (first
    | (refine wpList_load_row rfl 27 _ rfl u rfl _ _ (0, 0) _ rf Try.underlying27 rfl hi2 ?_)
    | (refine wpList_load_row rfl 27 _ rfl v rfl _ _ (0, 0) _ rg Try.underlying27 rfl hi3 ?_))
  clear rf rg
  refine (HB.out w5).mono ?_
  rintro e w7b ⟨rfl, hp⟩
  have HPw7b := Lib.hid hp
  clear hp
  obtain ⟨q, hu⟩ : ∃ u, w7b.heap.size = u := ⟨_, rfl⟩
  have hfr := fresh_row w7b 27 lz.toArray ld.toArray
  have hr0 := Row.new w7b 27 lz.toArray
  have hsN := HSD.out
  have hoN := HOD.out
  rw [hu] at hfr hr0
  obtain ⟨w8, hw3⟩ : ∃ w', (w7b.alloc (.cells lz.toArray 27)).setRow q ld.toArray = w' := ⟨_, rfl⟩
  rw [hw3] at hfr
  have HPw8 : Hid (Past w7b w8) := Lib.hid hfr.2
  have HROWw8 := Lib.hid hfr.1
  have HW3 := Lib.hid hw3
  clear hw3 hfr
  go_upto_region 6 with (refine wpList_store_row rfl 27 _ _ rfl q _ rfl rfl _ _ hr0 hi5 hsN hoN ?_)
  rw [HW3.out]
  clear HW3 hr0 hsN hoN hu
  have HW8 : Hid (Past w w8) := Lib.hid (H1.out.trans' (HP2.out.trans' (HPw3.out.trans' ((HP4.out.trans' HPw5.out).trans' (HPw7b.out.trans' HPw8.out)))))
  have HSK : Hid (∀ w', Past w8 w' → (w'.rangeAt u 0 lf ∧ w'.rangeAt v 0 lg ∧ w'.rangeAt q 0 ld ∧ w'.cell? ⟨u, i, none⟩ = some (.int .u32 X) ∧ w'.cell? ⟨v, i, none⟩ = some (.int .u32 Y) ∧ w'.cell? ⟨q, i, none⟩ = some (.int .u32 D))) := Lib.hid (fun w' h => by
    have r3 := HROWw3.out.past ((HP4.out.trans' HPw5.out).trans' ((HPw7b.out.trans' HPw8.out).trans' h))
    have r5 := HROWw5.out.past ((HPw7b.out.trans' HPw8.out).trans' h)
    have r8 := HROWw8.out.past h
    exact ⟨HRLF.out _ _ r3, HRLG.out _ _ r5, HRLD.out _ _ r8, by rw [r3.cell]; exact HCF.out, by rw [r5.cell]; exact HCG.out, by rw [r8.cell]; exact HCD.out⟩)
  have HPD : Hid (Past w8 w8.drew) := Lib.hid (Past.drewN (Below.refl _ w8) 1)
  have hne : ¬ lz.toArray = #[] := by
    intro e
    have h1 := HSZ.out
    rw [e] at h1
    simp at h1
  have hne2 : ¬ lz = [] := by
    intro e
    have h1 := HSZ.out
    rw [e] at h1
    simp at h1
  clear hi2 hi3 hi4 hi5
  go_upto_region 7 with (fail)
  refine wp_region_held_drew (S := fun w' => w'.rangeAt u 0 lf ∧ w'.rangeAt v 0 lg ∧ w'.rangeAt q 0 ld ∧ w'.cell? ⟨u, i, none⟩ = some (.int .u32 X) ∧ w'.cell? ⟨v, i, none⟩ = some (.int .u32 Y) ∧ w'.cell? ⟨q, i, none⟩ = some (.int .u32 D)) (by kernel_rfl) (HSK.out _ HPD.out) (fun hH => ?_)
  refine held_take 0 22 rfl rfl (by kernel_rfl) (by kernel_rfl) (by kernel_rfl) (fun _ _ _ h => h) (yieldsIf_load_mid (by kernel_rfl) 27 (.tmp 7) rfl u 0 rfl lf _ (fun _ h => h.1) Try.underlying27 rfl hlf) hH ?_
  refine held_take 1 23 rfl rfl (by kernel_rfl) (by kernel_rfl) (by kernel_rfl) (fun _ _ _ h => h) (yieldsIf_load_mid (by kernel_rfl) 27 (.tmp 8) rfl v 0 rfl lg _ (fun _ h => h.2.1) Try.underlying27 rfl hlg) hH ?_
  refine held_take 3 25 rfl rfl (by kernel_rfl) (by kernel_rfl) (by kernel_rfl) (fun _ _ _ h => h) (yieldsIf_load_mid (by kernel_rfl) 27 (.tmp 7) rfl u 0 rfl lf _ (fun _ h => h.1) Try.underlying27 rfl hlf) hH ?_
  refine held_take 4 26 rfl rfl (by kernel_rfl) (by kernel_rfl) (by kernel_rfl) (fun _ _ _ h => h) (yieldsIf_load_mid (by kernel_rfl) 27 (.tmp 8) rfl v 0 rfl lg _ (fun _ h => h.2.1) Try.underlying27 rfl hlg) hH ?_
  refine wpAnyH_ready (rs := [2]) (by kernel_rfl) (by simp) ?_
  refine AllReadyH.cons rfl (fun K hK => ?_) AllReadyH.nil
  go_simp
  refine (HA.out w8.drew).mono ?_
  rintro e5 wc5 ⟨rfl, hp⟩
  have HPc5 : Hid (Past w8 wc5) := Lib.hid (HPD.out.trans' hp)
  clear hp
  refine hK.out _ _ (HSK.out _ HPc5.out) (fun hH => ?_)
  clear hK K
  refine wpAnyH_ready (rs := [5]) (by kernel_rfl) (by simp) ?_
  refine AllReadyH.cons rfl (fun K hK => ?_) AllReadyH.nil
  go_simp
  refine (HRA.out wc5).mono ?_
  rintro e6 wc6 ⟨rfl, hp⟩
  have HPc6 : Hid (Past w8 wc6) := Lib.hid (HPc5.out.trans' hp)
  clear hp
  refine hK.out _ _ (HSK.out _ HPc6.out) (fun hH => ?_)
  clear hK K
  refine held_take 6 28 (v := .bool false) rfl rfl (by kernel_rfl) (by kernel_rfl) (by kernel_rfl) (fun _ _ _ h => h) (Or.inl ⟨by kernel_rfl, fun w _ => by go_simp⟩) hH ?_
  (try simp only [List.setIfInBounds_toArray, List.set_cons_zero, List.set_cons_succ])
  refine held_take 7 29 (v := .bool false) rfl rfl (by kernel_rfl) (by kernel_rfl) (by kernel_rfl) (fun _ _ _ h => h) (Or.inl ⟨by kernel_rfl, fun w _ => by kernel_rfl⟩) hH ?_
  (try simp only [List.setIfInBounds_toArray, List.set_cons_zero, List.set_cons_succ])
  refine held_take 8 30 (v := .int .i64 (i : Int)) rfl rfl (by kernel_rfl) (by kernel_rfl) (by kernel_rfl) (fun _ _ _ h => h) (Or.inl ⟨by kernel_rfl, fun w _ => by kernel_rfl⟩) hH ?_
  (try simp only [List.setIfInBounds_toArray, List.set_cons_zero, List.set_cons_succ])
  refine held_take 9 31 (v := .pointer (some ⟨q, i, none⟩)) rfl rfl (by kernel_rfl) (by kernel_rfl) (by kernel_rfl) (fun _ _ _ h => h) (Or.inl ⟨by kernel_rfl, fun w _ => by go_simp⟩) hH ?_
  (try simp only [List.setIfInBounds_toArray, List.set_cons_zero, List.set_cons_succ])
  refine held_take 10 32 (v := .int .u32 D) rfl rfl (by kernel_rfl) (by kernel_rfl) (by kernel_rfl) (fun _ _ _ h => h) (Or.inl ⟨by kernel_rfl, fun w hSw => by
    have hcell := hSw.2.2.2.2.2
    go_simp⟩) hH ?_
  (try simp only [List.setIfInBounds_toArray, List.set_cons_zero, List.set_cons_succ])
  refine held_take 11 33 (v := .int .i64 D) rfl rfl (by kernel_rfl) (by kernel_rfl) (by kernel_rfl) (fun _ _ _ h => h) (Or.inl ⟨by kernel_rfl, fun w _ => by go_simp⟩) hH ?_
  (try simp only [List.setIfInBounds_toArray, List.set_cons_zero, List.set_cons_succ])
  refine held_take 12 34 (v := .int .i64 (i : Int)) rfl rfl (by kernel_rfl) (by kernel_rfl) (by kernel_rfl) (fun _ _ _ h => h) (Or.inl ⟨by kernel_rfl, fun w _ => by kernel_rfl⟩) hH ?_
  (try simp only [List.setIfInBounds_toArray, List.set_cons_zero, List.set_cons_succ])
  refine held_take 13 35 (v := .pointer (some ⟨u, i, none⟩)) rfl rfl (by kernel_rfl) (by kernel_rfl) (by kernel_rfl) (fun _ _ _ h => h) (Or.inl ⟨by kernel_rfl, fun w _ => by go_simp⟩) hH ?_
  (try simp only [List.setIfInBounds_toArray, List.set_cons_zero, List.set_cons_succ])
  refine held_take 14 36 (v := .int .u32 X) rfl rfl (by kernel_rfl) (by kernel_rfl) (by kernel_rfl) (fun _ _ _ h => h) (Or.inl ⟨by kernel_rfl, fun w hSw => by
    have hcell := hSw.2.2.2.1
    go_simp⟩) hH ?_
  (try simp only [List.setIfInBounds_toArray, List.set_cons_zero, List.set_cons_succ])
  refine held_take 15 37 (v := .int .i64 X) rfl rfl (by kernel_rfl) (by kernel_rfl) (by kernel_rfl) (fun _ _ _ h => h) (Or.inl ⟨by kernel_rfl, fun w _ => by go_simp⟩) hH ?_
  (try simp only [List.setIfInBounds_toArray, List.set_cons_zero, List.set_cons_succ])
  refine held_take 16 38 (v := .int .i64 (i : Int)) rfl rfl (by kernel_rfl) (by kernel_rfl) (by kernel_rfl) (fun _ _ _ h => h) (Or.inl ⟨by kernel_rfl, fun w _ => by kernel_rfl⟩) hH ?_
  (try simp only [List.setIfInBounds_toArray, List.set_cons_zero, List.set_cons_succ])
  refine held_take 17 39 (v := .pointer (some ⟨v, i, none⟩)) rfl rfl (by kernel_rfl) (by kernel_rfl) (by kernel_rfl) (fun _ _ _ h => h) (Or.inl ⟨by kernel_rfl, fun w _ => by go_simp⟩) hH ?_
  (try simp only [List.setIfInBounds_toArray, List.set_cons_zero, List.set_cons_succ])
  refine held_take 18 40 (v := .int .u32 Y) rfl rfl (by kernel_rfl) (by kernel_rfl) (by kernel_rfl) (fun _ _ _ h => h) (Or.inl ⟨by kernel_rfl, fun w hSw => by
    have hcell := hSw.2.2.2.2.1
    go_simp⟩) hH ?_
  (try simp only [List.setIfInBounds_toArray, List.set_cons_zero, List.set_cons_succ])
  refine held_take 19 41 (v := .int .i64 Y) rfl rfl (by kernel_rfl) (by kernel_rfl) (by kernel_rfl) (fun _ _ _ h => h) (Or.inl ⟨by kernel_rfl, fun w _ => by go_simp⟩) hH ?_
  (try simp only [List.setIfInBounds_toArray, List.set_cons_zero, List.set_cons_succ])
  refine held_take 20 42 (v := .int .i64 s1) rfl rfl (by kernel_rfl) (by kernel_rfl) (by kernel_rfl) (fun _ _ _ h => h) (Or.inl ⟨by kernel_rfl, fun w _ => by go_simp⟩) hH ?_
  (try simp only [List.setIfInBounds_toArray, List.set_cons_zero, List.set_cons_succ])
  refine held_take 21 43 (v := .int .i64 s2) rfl rfl (by kernel_rfl) (by kernel_rfl) (by kernel_rfl) (fun _ _ _ h => h) (Or.inl ⟨by kernel_rfl, fun w _ => by go_simp⟩) hH ?_
  (try simp only [List.setIfInBounds_toArray, List.set_cons_zero, List.set_cons_succ])
  refine held_take 22 44 (v := .int .i64 s3) rfl rfl (by kernel_rfl) (by kernel_rfl) (by kernel_rfl) (fun _ _ _ h => h) (Or.inl ⟨by kernel_rfl, fun w _ => by go_simp⟩) hH ?_
  (try simp only [List.setIfInBounds_toArray, List.set_cons_zero, List.set_cons_succ])
  refine held_take 23 45 (v := .int .i64 D) rfl rfl (by kernel_rfl) (by kernel_rfl) (by kernel_rfl) (fun _ _ _ h => h) (Or.inl ⟨by kernel_rfl, fun w _ => by go_simp⟩) hH ?_
  (try simp only [List.setIfInBounds_toArray, List.set_cons_zero, List.set_cons_succ])
  refine held_take 24 46 (v := .bool false) rfl rfl (by kernel_rfl) (by kernel_rfl) (by kernel_rfl) (fun _ _ _ h => h) (Or.inl ⟨by kernel_rfl, fun w _ => by go_simp⟩) hH ?_
  (try simp only [List.setIfInBounds_toArray, List.set_cons_zero, List.set_cons_succ])
  refine held_take 25 47 (v := .bool false) rfl rfl (by kernel_rfl) (by kernel_rfl) (by kernel_rfl) (fun _ _ _ h => h) (Or.inl ⟨by kernel_rfl, fun w _ => by kernel_rfl⟩) hH ?_
  (try simp only [List.setIfInBounds_toArray, List.set_cons_zero, List.set_cons_succ])
  refine held_take 26 48 (v := .bool false) rfl rfl (by kernel_rfl) (by kernel_rfl) (by kernel_rfl) (fun _ _ _ h => h) (Or.inl ⟨by kernel_rfl, fun w _ => by kernel_rfl⟩) hH ?_
  (try simp only [List.setIfInBounds_toArray, List.set_cons_zero, List.set_cons_succ])
  refine held_take 27 49 rfl rfl (by kernel_rfl) (by kernel_rfl) (by kernel_rfl) (fun _ _ _ h => h) (yieldsIf_load_mid (by kernel_rfl) 27 (.tmp 9) rfl q 0 rfl ld _ (fun _ h => h.2.2.1) Try.underlying27 rfl hld) hH ?_
  refine held_take 28 50 rfl rfl (by kernel_rfl) (by kernel_rfl) (by kernel_rfl) (fun _ _ _ h => h) (yieldsIf_load_mid (by kernel_rfl) 27 (.tmp 8) rfl v 0 rfl lg _ (fun _ h => h.2.1) Try.underlying27 rfl hlg) hH ?_
  refine held_take 30 52 rfl rfl (by kernel_rfl) (by kernel_rfl) (by kernel_rfl) (fun _ _ _ h => h) (yieldsIf_load_mid (by kernel_rfl) 27 (.tmp 7) rfl u 0 rfl lf _ (fun _ h => h.1) Try.underlying27 rfl hlf) hH ?_
  refine held_take 31 53 (v := .agg lz.toArray) rfl rfl (by kernel_rfl) (by kernel_rfl) (by kernel_rfl) (fun _ _ _ h => h) (Or.inl ⟨by kernel_rfl, fun w _ => by go_simp⟩) hH ?_
  (try simp only [List.setIfInBounds_toArray, List.set_cons_zero, List.set_cons_succ])
  refine wpAnyH_ready (rs := [29]) (by kernel_rfl) (by simp) ?_
  refine AllReadyH.cons rfl (fun K hK => ?_) AllReadyH.nil
  go_simp
  refine (HAD.out wc6).mono ?_
  rintro e7 wc7 ⟨rfl, hp⟩
  have HPc7 : Hid (Past w8 wc7) := Lib.hid (HPc6.out.trans' hp)
  clear hp
  refine hK.out _ _ (HSK.out _ HPc7.out) (fun hH => ?_)
  clear hK K
  refine wpAnyH_ready (rs := [32]) (by kernel_rfl) (by simp) ?_
  refine AllReadyH.cons rfl (fun K hK => ?_) AllReadyH.nil
  go_simp
  refine (HAZ.out wc7).mono ?_
  rintro e8 wc8 ⟨rfl, hp⟩
  have HPc8 : Hid (Past w8 wc8) := Lib.hid (HPc7.out.trans' hp)
  clear hp
  refine hK.out _ _ (HSK.out _ HPc8.out) (fun hH => ?_)
  clear hK K
  refine held_take 33 55 (v := .bool false) rfl rfl (by kernel_rfl) (by kernel_rfl) (by kernel_rfl) (fun _ _ _ h => h) (Or.inl ⟨by kernel_rfl, fun w _ => by go_simp⟩) hH ?_
  (try simp only [List.setIfInBounds_toArray, List.set_cons_zero, List.set_cons_succ])
  refine held_take 34 56 (v := .bool false) rfl rfl (by kernel_rfl) (by kernel_rfl) (by kernel_rfl) (fun _ _ _ h => h) (Or.inl ⟨by kernel_rfl, fun w _ => by kernel_rfl⟩) hH ?_
  (try simp only [List.setIfInBounds_toArray, List.set_cons_zero, List.set_cons_succ])
  refine wpAnyH_done (by kernel_rfl) ?_ _
  go_simp
  have HP810 : Hid (Past w8 wc8) := HPc8
  clear hH
  generalize wc8 = w10 at *
  have HSK10 : Hid (∀ w', Past w10 w' → (w'.rangeAt u 0 lf ∧ w'.rangeAt v 0 lg ∧ w'.rangeAt q 0 ld ∧ w'.cell? ⟨u, i, none⟩ = some (.int .u32 X) ∧ w'.cell? ⟨v, i, none⟩ = some (.int .u32 Y) ∧ w'.cell? ⟨q, i, none⟩ = some (.int .u32 D))) := Lib.hid (fun w' h => HSK.out _ (HP810.out.trans' h))
  have HPD10 : Hid (Past w10 w10.drew) := Lib.hid (Past.drewN (Below.refl _ w10) 1)
  have heq := HEQ3.out
  go_upto_region 9 with (fail)
  refine wp_region_held_drew (S := fun w' => w'.rangeAt u 0 lf ∧ w'.rangeAt v 0 lg ∧ w'.rangeAt q 0 ld ∧ w'.cell? ⟨u, i, none⟩ = some (.int .u32 X) ∧ w'.cell? ⟨v, i, none⟩ = some (.int .u32 Y) ∧ w'.cell? ⟨q, i, none⟩ = some (.int .u32 D)) (by kernel_rfl) (HSK10.out _ HPD10.out) (fun hH => ?_)
  refine held_take 0 57 rfl rfl (by kernel_rfl) (by kernel_rfl) (by kernel_rfl) (fun _ _ _ h => h) (yieldsIf_load_mid (by kernel_rfl) 27 (.tmp 9) rfl q 0 rfl ld _ (fun _ h => h.2.2.1) Try.underlying27 rfl hld) hH ?_
  refine held_take 2 59 rfl rfl (by kernel_rfl) (by kernel_rfl) (by kernel_rfl) (fun _ _ _ h => h) (yieldsIf_load_mid (by kernel_rfl) 27 (.tmp 7) rfl u 0 rfl lf _ (fun _ h => h.1) Try.underlying27 rfl hlf) hH ?_
  refine held_take 4 61 rfl rfl (by kernel_rfl) (by kernel_rfl) (by kernel_rfl) (fun _ _ _ h => h) (yieldsIf_load_mid (by kernel_rfl) 27 (.tmp 8) rfl v 0 rfl lg _ (fun _ h => h.2.1) Try.underlying27 rfl hlg) hH ?_
  refine wpAnyH_ready (rs := [1]) (by kernel_rfl) (by simp) ?_
  refine AllReadyH.cons rfl (fun K hK => ?_) AllReadyH.nil
  go_simp
  refine (HNS.out w10.drew).mono ?_
  rintro e1 wc1 ⟨rfl, hp⟩
  have HPc1 : Hid (Past w10 wc1) := Lib.hid (HPD10.out.trans' hp)
  clear hp
  refine hK.out _ _ (HSK10.out _ HPc1.out) (fun hH => ?_)
  clear hK K
  refine wpAnyH_ready (rs := [3]) (by kernel_rfl) (by simp) ?_
  refine AllReadyH.cons rfl (fun K hK => ?_) AllReadyH.nil
  go_simp
  refine (HNF.out wc1).mono ?_
  rintro e2 wc2 ⟨rfl, hp⟩
  have HPc2 : Hid (Past w10 wc2) := Lib.hid (HPc1.out.trans' hp)
  clear hp
  refine hK.out _ _ (HSK10.out _ HPc2.out) (fun hH => ?_)
  clear hK K
  refine wpAnyH_ready (rs := [5]) (by kernel_rfl) (by simp) ?_
  refine AllReadyH.cons rfl (fun K hK => ?_) AllReadyH.nil
  go_simp
  refine (HNG.out wc2).mono ?_
  rintro e3 wc3 ⟨rfl, hp⟩
  have HPc3 : Hid (Past w10 wc3) := Lib.hid (HPc2.out.trans' hp)
  clear hp
  refine hK.out _ _ (HSK10.out _ HPc3.out) (fun hH => ?_)
  clear hK K
  refine wpAnyH_ready (rs := [6]) (by kernel_rfl) (by simp) ?_
  refine AllReadyH.cons rfl (fun K hK => ?_) AllReadyH.nil
  go_simp
  refine (HAN.out wc3).mono ?_
  rintro e4 wc4 ⟨rfl, hp⟩
  have HPc4 : Hid (Past w10 wc4) := Lib.hid (HPc3.out.trans' hp)
  clear hp
  refine hK.out _ _ (HSK10.out _ HPc4.out) (fun hH => ?_)
  clear hK K
  refine held_take 7 64 (v := .bool true) rfl rfl (by kernel_rfl) (by kernel_rfl) (by kernel_rfl) (fun _ _ _ h => h) (Or.inl ⟨by kernel_rfl, fun w _ => by go_simp⟩) hH ?_
  (try simp only [List.setIfInBounds_toArray, List.set_cons_zero, List.set_cons_succ])
  refine held_take 8 6 (v := .bool true) rfl rfl (by kernel_rfl) (by kernel_rfl) (by kernel_rfl) (fun _ _ _ h => h) (Or.inl ⟨by kernel_rfl, fun w _ => by kernel_rfl⟩) hH ?_
  (try simp only [List.setIfInBounds_toArray, List.set_cons_zero, List.set_cons_succ])
  refine wpAnyH_done (by kernel_rfl) ?_ _
  go_simp
  go_wp2_with fail
  go_ret
  exact ⟨rfl, HW8.out.trans' (HP810.out.trans' HPc4.out)⟩

theorem walk (H : Prog17) (a b c a2 b2 c2 t : Int) (w : World) (ha : (Lit.int .u32 a).wf = true) (hb : (Lit.int .u32 b).wf = true) (hc : (Lit.int .u32 c).wf = true) (ha2 : (Lit.int .u32 a2).wf = true) (hb2 : (Lit.int .u32 b2).wf = true) (hc2 : (Lit.int .u32 c2).wf = true) (ht : (Lit.int .u8 t).wf = true) :
    Calls Try.prog 6 #[.agg #[.int .u32 a, .int .u32 b, .int .u32 c], .agg #[.int .u32 a2, .int .u32 b2, .int .u32 c2], .int .u8 t] w fun e w' => e = .returned (.bool true) ∧ Past w w' := by
  obtain ⟨t0, t1⟩ := bounds_u8 ht
  obtain ⟨i, rfl⟩ : ∃ i : Nat, t = (i : Int) := ⟨t.toNat, by omega⟩
  exact walk' H a b c a2 b2 c2 i (by omega) w ha hb hc ha2 hb2 hc2

set_option maxRecDepth 100000 in
theorem lifted (H7 : Prog17) (os : Os) (started : os.Started) (H : Type) (enc : TypeId × Value → H) :
    ReturnsInHanded {} Try.checked os 6 .any (Rows.dringSumsSpec.pre6 enc Try.prog Try.f6 Rows.dringSumsRow.domain false) (Rows.dringSumsSpec.post enc Try.prog Try.f6 false true false false) := by
  refine returnsInHanded_of_change (C := Try.checked) own started (by kernel_rfl) Try.func6
    (ChangeSpec.witness6 (enc := enc) (C := Try.checked) false ⟨#[], #[.agg #[.int .u32 0, .int .u32 0, .int .u32 0], .agg #[.int .u32 0, .int .u32 0, .int .u32 0], .int .u8 0], []⟩ 8 (by kernel_rfl) (by kernel_rfl) (by kernel_rfl) (by kernel_rfl)) ?_
  intro W base args ds gs before hval0 hW hcnd _
  have hval : ∀ (j : Nat) t v, Try.f6.params[j]? = some t → args[j]? = some v → Value.okWide Try.prog W .any base t v := hval0
  have hW' := hW
  obtain ⟨p, q, hA0, hV, rfl, hfz, hnd⟩ := hW
  have hA : DataW.TrodAll enc Try.prog W 0 (fun _ => true) true Try.f6.params.toList args.toList ds p := hA0
  rw [Try.params6] at hA hval
  obtain ⟨v0, vs0, d0, ds0, p0, q0, hargs, rfl, rfl, h0, r0⟩ := trodAll_cons hA
  obtain ⟨v1, vs1, d1, ds1, p1, q1, rfl, rfl, rfl, h1, r1⟩ := trodAll_cons r0
  obtain ⟨v2, vs2, d2, ds2, p2, q2, rfl, rfl, rfl, h2, r2⟩ := trodAll_cons r1
  obtain ⟨rfl, rfl, rfl⟩ := trodAll_nil r2
  obtain rfl : args = #[v0, v1, v2] := by cases args; simp_all
  obtain ⟨rfl, rfl⟩ := trodVars_none hV
  obtain ⟨a0, b0, c0, rfl, rfl, rfl, wa0, wb0, wc0⟩ := open3 (hval 0 23 v0 rfl rfl) h0
  obtain ⟨a1, b1, c1, rfl, rfl, rfl, wa1, wb1, wc1⟩ := open3 (hval 1 23 v1 rfl rfl) h1
  obtain ⟨a2, rfl, rfl, rfl, w2⟩ := open_int Try.underlying5 (hval 2 5 v2 rfl rfl) h2
  clear hA0 hval0
  refine (walk H7 a0 b0 c0 a1 b1 c1 a2 W wa0 wb0 wc0 wa1 wb1 wc1 w2).mono fun e W' ⟨he, bel⟩ => ?_
  subst he
  exact ⟨_, rfl, _, _, _, [], _, [], hW', trodAll_mk1 (shut_bool Try.underlying4 _), (trodAll_cons_mk (shut3 wa0 wb0 wc0) (trodAll_cons_mk (shut3 wa1 wb1 wc1) (trodAll_cons_mk (shut_int Try.underlying5 w2) trodAll_mk0))), rfl, bel.frame _, fun h => by cases h⟩

theorem over (H7 : Prog17) : Rows.dringSumsRow.holds Try.pinned (OpenSpec.ofChange Rows.dringSumsSpec) :=
  OpenClaim.holds_of_wide 6 Try.f6 rfl rfl rfl rfl rfl rfl rfl ⟨rfl, rfl, rfl, rfl, rfl⟩ rfl rfl rfl rfl rfl (by kernel_rfl) Try.func6 (by kernel_rfl)
    (of_decide_eq_true (by kernel_rfl)) (by unfold Func.isWrapper; first | (rw [if_pos (by decide +kernel)]; kernel_rfl) | (rw [if_neg (by decide +kernel)]; exact ⟨rfl, rfl⟩))
    (fun os started H enc _ => lifted H7 os started H enc)

theorem proved : Rows.DringSumsSaid := over prog17
#print axioms proved
end Go.Proofs.Ytngbmaojgfocgaa.dr.dringSums
