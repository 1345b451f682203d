/- The closure of noises. noises, at the algorithm 1. -/
import Derived.Test.YtalhdalmafhofaaGreatDoorSn16
import Derived.Test.YtalhdalmafhofaaGreatDoorM14G
import Derived.Test.YtalhdalmafhofaaGreatDoorNo16C
import Derived.Test.YtalhdalmafhofaaGreatDoorRk16
namespace Go.Proofs.YtalhdalmafhofaaGreatDoor
open Go.RowKit
set_option linter.unusedVariables false
set_option maxRecDepth 100000
set_option maxHeartbeats 4000000

theorem ncell_any (i first : Nat) (g1 g2 g3 : Nat) (A : Option Addr) (c : Nat) (xs : List Int) (w : World) (hi : i < 2) (hf : first ≤ 2) (h1 : Row w g1 3 #[.int .i64 3]) (h2 : Row w g2 25 #[.slice A 32 c]) (h3 : Row w g3 3 #[.int .i64 (first : Int)]) (hS : Sl w A 32 c xs) :
    Calls Tryz.prog 35 #[.int .i64 (i : Int), .pointer (some ⟨g1, 0, none⟩), .pointer (some ⟨g2, 0, none⟩), .pointer (some ⟨g3, 0, none⟩)] w (MkP w) := by
  obtain ⟨x, hx⟩ : ∃ x : Int, (first : Int) + (i : Int) = x := ⟨_, rfl⟩
  have HX : Hid (IntKind.i64.wrap ((first : Int) + (i : Int)) = x ∧ IntKind.u8.wrap x = x) := Lib.hid ⟨by rw [IntKind.wrap_i64]; omega, by rw [IntKind.wrap_u8]; omega⟩
  have HXR : Hid (0 ≤ x ∧ x < 256) := Lib.hid (by omega)
  have HXL : Hid (xs.length = 32) := Lib.hid (by have := hS.len; omega)
  have HNZ : Hid (∀ w, Calls Tryz.prog 15 #[.int .i64 3] w fun r w' => r = .returned (.int .i64 192) ∧ w' = w) := Lib.hid (fun w => noiseSize_any 3 w (by decide))
  obtain ⟨ys, hys⟩ : ∃ ys, bl (rout (rstate (xs ++ [x]) 136 31) 136) (Int.toNat 192) = ys := ⟨_, rfl⟩
  have HYS := Lib.hid hys
  clear hys
  obtain ⟨F, hF⟩ : ∃ F, noF ys 3 = F := ⟨_, rfl⟩
  have HFR : Hid (R16 F) := Lib.hid (by
    intro j
    rw [← hF]
    have := (noF_rng ys 3 j (by decide)).1
    omega)
  have HFE := Lib.hid hF
  have hz := zeroP
  obtain ⟨cz, hcz⟩ : ∃ cz, arr .u16 256 (fun _ => 0) = cz := ⟨_, rfl⟩
  obtain ⟨cF, hcF⟩ : ∃ cz, arr .u16 256 F = cz := ⟨_, rfl⟩
  have HKN : Hid (∀ A2 c2 w, Sl w A2 192 c2 ys → Calls Tryz.prog 7 #[.int .i64 3, .slice A2 192 c2] w fun r w' => r = .returned (.tuple #[.agg cF, .bool true]) ∧ Past w w') := Lib.hid (by intro A2 c2 w h; rw [← hcF, ← hF]; exact knoise3_any A2 c2 ys w h)
  have HIF : Hid ((Tryz.prog.info? 30).map (·.size) = some cF.size ∧ cz.size = cF.size ∧ cF.all (·.oneCell') = true) := Lib.hid (by rw [← hcF, ← hcz]; exact ⟨infP F, by rw [arr_size, arr_size], arr_one .u16 256 F⟩)
  obtain ⟨cG, hcG⟩ : ∃ cz, arr .u16 256 (ntt F) = cz := ⟨_, rfl⟩
  have HIG : Hid ((Tryz.prog.info? 30).map (·.size) = some cG.size ∧ cz.size = cG.size ∧ cG.all (·.oneCell') = true) := Lib.hid (by rw [← hcG, ← hcz]; exact ⟨infP _, by rw [arr_size, arr_size], arr_one .u16 256 _⟩)
  have HNT : Hid (∀ w, Calls Tryz.prog 36 #[.agg cF] w fun e w' => e = .returned (.agg cG) ∧ Past w w') := Lib.hid (by intro w; rw [← hcF, ← hcG]; exact pntt_any F HFR.out w)
  have HRES : Hid (∀ w', Past w w' → MkP w (.returned (.agg cG)) w') := Lib.hid (fun w' hp => ⟨ntt F, by rw [hcG], R16.of_low (ntt_low F), hp⟩)
  rw [hcz] at hz
  have HZ := Lib.hid hz
  obtain ⟨g, hg⟩ : ∃ g, w.heap.size = g := ⟨_, rfl⟩
  obtain ⟨w1, hw1⟩ : ∃ w', w.alloc (.cells cz 30) = w' := ⟨_, rfl⟩
  have hp1 : Past w w1 := by rw [← hw1]; exact (Below.refl _ _).alloc (Nat.le_refl _) _
  have hr1 : Row w1 g 30 cz := by rw [← hw1, ← hg]; exact Row.new _ _ _
  have H1 := Lib.hid (And.intro hp1 hr1)
  have HB := Lib.hid (And.intro (h1.past hp1) (And.intro (h2.past hp1) (h3.past hp1)))
  have HS := Lib.hid (hS.past hp1)
  have HW1 := Lib.hid hw1
  have HG := Lib.hid hg
  clear h1 h2 h3 hS hp1 hr1 hw1 hg hx hi hf hcz hcG hF
  go_enter Tryz.func35, Tryz.ntmps35
  go_upto_region 1 with (fail)
  rw [HW1.out]
  try rw [HG.out]
  clear HW1 hz
  obtain ⟨wd, hwd⟩ : ∃ W, W = w1.drew := ⟨_, rfl⟩
  have HPD : Hid (Past w1 wd) := Lib.hid (by rw [hwd]; exact Past.drewN (Below.refl _ w1) 1)
  have HSK : Hid (∀ w', Past w1 w' → w'.cell? ⟨g1, 0, none⟩ = some (.int .i64 3) ∧ w'.cell? ⟨g2, 0, none⟩ = some (.slice A 32 c) ∧ w'.cell? ⟨g3, 0, none⟩ = some (.int .i64 (first : Int))) := Lib.hid (fun w' h => ⟨(HB.out.1.past h).cell 0, (HB.out.2.1.past h).cell 0, (HB.out.2.2.past h).cell 0⟩)
  have HS_0 := Lib.hid (HS.out.past HPD.out)
  refine wp_region_held_drew (S := fun w' => w'.cell? ⟨g1, 0, none⟩ = some (.int .i64 3) ∧ w'.cell? ⟨g2, 0, none⟩ = some (.slice A 32 c) ∧ w'.cell? ⟨g3, 0, none⟩ = some (.int .i64 (first : Int))) (by kernel_rfl) (by rw [← hwd]; exact HSK.out _ HPD.out) (fun hH => ?_)
  change wpAnyH _ _ _ _ _ _ _ _ (World.drew _)
  rw [← hwd]
  clear hH hwd
  have hH := HSK.out _ HPD.out
  refine held_take 0 9 (v := .int .i64 3) rfl rfl (by kernel_rfl) (by kernel_rfl) (by kernel_rfl) (fun _ _ _ h => h) (Or.inl ⟨by kernel_rfl, fun w hSw => by
    have hcell := hSw.1
    go_simp⟩) hH ?_
  (try dsimp only [Act.put])
  (try simp only [List.setIfInBounds_toArray, List.set_cons_zero, List.set_cons_succ])
  refine held_take 1 10 (v := .int .i64 3) rfl rfl (by kernel_rfl) (by kernel_rfl) (by kernel_rfl) (fun _ _ _ h => h) (Or.inl ⟨by kernel_rfl, fun w hSw => by
    have hcell := hSw.1
    go_simp⟩) hH ?_
  (try dsimp only [Act.put])
  (try simp only [List.setIfInBounds_toArray, List.set_cons_zero, List.set_cons_succ])
  refine held_take 3 12 (v := .slice A 32 c) rfl rfl (by kernel_rfl) (by kernel_rfl) (by kernel_rfl) (fun _ _ _ h => h) (Or.inl ⟨by kernel_rfl, fun w hSw => by
    have hcell := hSw.2.1
    go_simp⟩) hH ?_
  (try dsimp only [Act.put])
  (try simp only [List.setIfInBounds_toArray, List.set_cons_zero, List.set_cons_succ])
  refine held_take 4 13 (v := .int .i64 (first : Int)) rfl rfl (by kernel_rfl) (by kernel_rfl) (by kernel_rfl) (fun _ _ _ h => h) (Or.inl ⟨by kernel_rfl, fun w hSw => by
    have hcell := hSw.2.2
    go_simp⟩) hH ?_
  (try dsimp only [Act.put])
  (try simp only [List.setIfInBounds_toArray, List.set_cons_zero, List.set_cons_succ])
  refine held_take 5 14 (v := .int .i64 (i : Int)) rfl rfl (by kernel_rfl) (by kernel_rfl) (by kernel_rfl) (fun _ _ _ h => h) (Or.inl ⟨by kernel_rfl, fun w _ => by kernel_rfl⟩) hH ?_
  (try dsimp only [Act.put])
  (try simp only [List.setIfInBounds_toArray, List.set_cons_zero, List.set_cons_succ])
  refine held_take 6 15 (v := .int .i64 x) rfl rfl (by kernel_rfl) (by kernel_rfl) (by kernel_rfl) (fun _ _ _ h => h) (Or.inl ⟨by kernel_rfl, fun w _ => by have hx := HX.out.1; go_simp⟩) hH ?_
  (try dsimp only [Act.put])
  (try simp only [List.setIfInBounds_toArray, List.set_cons_zero, List.set_cons_succ])
  refine held_take 7 16 (v := .int .u8 x) rfl rfl (by kernel_rfl) (by kernel_rfl) (by kernel_rfl) (fun _ _ _ h => h) (Or.inl ⟨by kernel_rfl, fun w _ => by have hx := HX.out.2; go_simp⟩) hH ?_
  (try dsimp only [Act.put])
  (try simp only [List.setIfInBounds_toArray, List.set_cons_zero, List.set_cons_succ])
  refine wpAnyH_ready (rs := [2, 8, 15]) (by kernel_rfl) (by simp) ?_
  refine AllReadyH.cons (by simp only [List.getElem?_toArray, List.getElem?_cons_succ, List.getElem?_cons_zero]; rfl) (fun K hK => ?_) (AllReadyH.cons (by simp only [List.getElem?_toArray, List.getElem?_cons_succ, List.getElem?_cons_zero]; rfl) (fun K hK => ?_) (AllReadyH.cons (by simp only [List.getElem?_toArray, List.getElem?_cons_succ, List.getElem?_cons_zero]; rfl) (fun K hK => ?_) AllReadyH.nil))
  · go_simp
    refine (HNZ.out wd).mono ?_
    rintro e2 w2 ⟨rfl, hw2⟩
    rw [hw2]
    clear hw2
    refine hK.out _ _ (HSK.out _ HPD.out) (fun hH => ?_)
    clear hK K
    refine wpAnyH_ready (rs := [8, 15]) (by kernel_rfl) (by simp) ?_
    refine AllReadyH.cons (by simp only [List.getElem?_toArray, List.getElem?_cons_succ, List.getElem?_cons_zero]; rfl) (fun K hK => ?_) (AllReadyH.cons (by simp only [List.getElem?_toArray, List.getElem?_cons_succ, List.getElem?_cons_zero]; rfl) (fun K hK => ?_) AllReadyH.nil)
    · go_simp
      obtain ⟨u17, hu⟩ : ∃ u, wd.heap.size = u := ⟨_, rfl⟩
      obtain ⟨wc1, hwc⟩ : ∃ w', wd.alloc (.cells #[.int .u8 x] 5) = w' := ⟨_, rfl⟩
      have hpp : Past wd wc1 := by rw [← hwc]; exact (Below.refl _ _).alloc (Nat.le_refl _) _
      have HPc1 : Hid (Past w1 wc1) := Lib.hid (HPD.out.trans' hpp)
      have HS_1 := Lib.hid (HS_0.out.past hpp)
      have HB_1 : Hid (Sl wc1 (some ⟨u17, 0, none⟩) 1 1 [x]) := Lib.hid (by rw [← hwc, ← hu]; exact sl_one16 _ _ HXR.out)
      try rw [hwc]
      try rw [hu]
      clear hwc hu hpp
      refine hK.out _ _ (HSK.out _ HPc1.out) (fun hH => ?_)
      clear hK K
      refine wpAnyH_ready (rs := [9, 15]) (by kernel_rfl) (by simp) ?_
      refine AllReadyH.cons (by simp only [List.getElem?_toArray, List.getElem?_cons_succ, List.getElem?_cons_zero]; rfl) (fun K hK => ?_) (AllReadyH.cons (by simp only [List.getElem?_toArray, List.getElem?_cons_succ, List.getElem?_cons_zero]; rfl) (fun K hK => ?_) AllReadyH.nil)
      · go_simp
        obtain ⟨u18, hu⟩ : ∃ u, wc1.heap.size = u := ⟨_, rfl⟩
        obtain ⟨wc2, hwc⟩ : ∃ w', wc1.alloc (.cells #[.slice A 32 c, .slice (some ⟨u17, 0, none⟩) 1 1] 25) = w' := ⟨_, rfl⟩
        have hpp : Past wc1 wc2 := by rw [← hwc]; exact (Below.refl _ _).alloc (Nat.le_refl _) _
        have HPc2 : Hid (Past w1 wc2) := Lib.hid (HPc1.out.trans' hpp)
        have HS_2 := Lib.hid (HS_1.out.past hpp)
        have HB_2 := Lib.hid (HB_1.out.past hpp)
        have HC_2 : Hid (∃ V C X, Sls wc2 (some ⟨u18, 0, none⟩) 2 2 V C X ∧ cat X 2 = xs ++ [x]) := Lib.hid (by
          obtain ⟨V, C, X, hX, hc⟩ := sls_row wc1 2 [(A, 32, c, xs), (some ⟨u17, 0, none⟩, 1, 1, [x])] rfl (by decide) 25 (by intro y hy; simp at hy; rcases hy with rfl | rfl; exact HS_1.out; exact HB_1.out) (by decide)
          rw [← hwc, ← hu]
          exact ⟨V, C, X, hX, by rw [hc]; simp⟩)
        try rw [hwc]
        try rw [hu]
        clear hwc hu hpp
        refine hK.out _ _ (HSK.out _ HPc2.out) (fun hH => ?_)
        clear hK K
        refine wpAnyH_ready (rs := [10, 15]) (by kernel_rfl) (by simp) ?_
        refine AllReadyH.cons (by simp only [List.getElem?_toArray, List.getElem?_cons_succ, List.getElem?_cons_zero]; rfl) (fun K hK => ?_) (AllReadyH.cons (by simp only [List.getElem?_toArray, List.getElem?_cons_succ, List.getElem?_cons_zero]; rfl) (fun K hK => ?_) AllReadyH.nil)
        · go_simp
          obtain ⟨V, C, X, hX, hcat⟩ := HC_2.out
          have HSH := Lib.hid (hShake256_any 192 _ 2 2 V C X wc2 hX (by decide) (by rw [hcat, List.length_append, HXL.out]; simp) (by decide))
          rw [hcat, HYS.out] at HSH
          clear hX hcat
          refine HSH.out.mono ?_
          rintro e10 wc3 ⟨A2, c2, rfl, hSl, hpp⟩
          have HPc3 : Hid (Past w1 wc3) := Lib.hid (HPc2.out.trans' hpp)
          have HS_3 := Lib.hid (HS_2.out.past hpp)
          have HC_3 := Lib.hid ((let ⟨V, C, X, h1, h2⟩ := HC_2.out; ⟨V, C, X, h1.past hpp, h2⟩ : ∃ V C X, Sls _ (some ⟨u18, 0, none⟩) 2 2 V C X ∧ cat X 2 = xs ++ [x]))
          have HD_3 := Lib.hid hSl
          clear hpp hSl HSH V C X
          refine hK.out _ _ (HSK.out _ HPc3.out) (fun hH => ?_)
          clear hK K
          refine wpAnyH_ready (rs := [11, 15]) (by kernel_rfl) (by simp) ?_
          refine AllReadyH.cons (by simp only [List.getElem?_toArray, List.getElem?_cons_succ, List.getElem?_cons_zero]; rfl) (fun K hK => ?_) (AllReadyH.cons (by simp only [List.getElem?_toArray, List.getElem?_cons_succ, List.getElem?_cons_zero]; rfl) (fun K hK => ?_) AllReadyH.nil)
          · go_simp
            refine (HKN.out A2 c2 wc3 HD_3.out).mono ?_
            rintro e11 wc4 ⟨rfl, hpp⟩
            have HPc4 : Hid (Past w1 wc4) := Lib.hid (HPc3.out.trans' hpp)
            have HS_4 := Lib.hid (HS_3.out.past hpp)
            have HD_4 := Lib.hid (HD_3.out.past hpp)
            clear hpp
            refine hK.out _ _ (HSK.out _ HPc4.out) (fun hH => ?_)
            clear hK K
            refine held_take 12 8 (v := .tuple #[.agg cF, .bool true]) rfl rfl (by kernel_rfl) (by kernel_rfl) (by kernel_rfl) (fun _ _ _ h => h) (Or.inl ⟨by kernel_rfl, fun w _ => by kernel_rfl⟩) hH ?_
            (try dsimp only [Act.put])
            (try simp only [List.setIfInBounds_toArray, List.set_cons_zero, List.set_cons_succ])
            refine held_take 13 21 (v := .agg cF) rfl rfl (by kernel_rfl) (by kernel_rfl) (by kernel_rfl) (fun _ _ _ h => h) (Or.inl ⟨by kernel_rfl, fun w _ => by kernel_rfl⟩) hH ?_
            (try dsimp only [Act.put])
            (try simp only [List.setIfInBounds_toArray, List.set_cons_zero, List.set_cons_succ])
            refine held_take 14 22 (v := .bool true) rfl rfl (by kernel_rfl) (by kernel_rfl) (by kernel_rfl) (fun _ _ _ h => h) (Or.inl ⟨by kernel_rfl, fun w _ => by kernel_rfl⟩) hH ?_
            (try dsimp only [Act.put])
            (try simp only [List.setIfInBounds_toArray, List.set_cons_zero, List.set_cons_succ])
            refine wpAnyH_ready (rs := [15]) (by kernel_rfl) (by simp) ?_
            refine AllReadyH.cons (by simp only [List.getElem?_toArray, List.getElem?_cons_succ, List.getElem?_cons_zero]; rfl) (fun K hK => ?_) AllReadyH.nil
            have hz := HZ.out
            go_simp
            obtain ⟨u6, hu⟩ : ∃ u, wc4.heap.size = u := ⟨_, rfl⟩
            obtain ⟨wc5, hwc⟩ : ∃ w', wc4.alloc (.cells cz 30) = w' := ⟨_, rfl⟩
            have hpp : Past wc4 wc5 := by rw [← hwc]; exact (Below.refl _ _).alloc (Nat.le_refl _) _
            have HPc5 : Hid (Past w1 wc5) := Lib.hid (HPc4.out.trans' hpp)
            have HS_5 := Lib.hid (HS_4.out.past hpp)
            have HR_5 : Hid (Row wc5 u6 30 cz) := Lib.hid (by rw [← hwc, ← hu]; exact Row.new _ _ _)
            have HU6 : Hid (w1.heap.size ≤ u6) := Lib.hid (by rw [← hu]; exact HPc4.out.size)
            try rw [hwc]
            try rw [hu]
            clear hwc hu hpp hz
            refine hK.out _ _ (HSK.out _ HPc5.out) (fun hH => ?_)
            clear hK K
            refine wpAnyH_ready (rs := [16]) (by kernel_rfl) (by simp) ?_
            refine AllReadyH.cons (by simp only [List.getElem?_toArray, List.getElem?_cons_succ, List.getElem?_cons_zero]; rfl) (fun K hK => ?_) AllReadyH.nil
            refine step_wanted16 rfl ?_
            refine wp_store_row 30 (.tmp 6) (.tmp 21) rfl u6 cF rfl rfl _ _ HR_5.out HIF.out.1 HIF.out.2.1 HIF.out.2.2 ?_
            obtain ⟨wz, hwz⟩ : ∃ w', wc5.setRow u6 cF = w' := ⟨_, rfl⟩
            have HPZ : Hid (Past w1 wz) := Lib.hid (by rw [← hwz]; exact below_setRow HPc5.out HU6.out _)
            have HRZ : Hid (Row wz u6 30 cF) := Lib.hid (by rw [← hwz]; exact setRow_heap _ _ _ _ _ _ HR_5.out)
            rw [hwz]
            clear hwz
            refine hK.out _ _ (HSK.out _ HPZ.out) (fun hH => ?_)
            clear hK K
            refine held_take 17 7 (v := .bool true) rfl rfl (by kernel_rfl) (by kernel_rfl) (by kernel_rfl) (fun _ _ _ h => h) (Or.inl ⟨by kernel_rfl, fun w _ => by kernel_rfl⟩) hH ?_
            (try dsimp only [Act.put])
            (try simp only [List.setIfInBounds_toArray, List.set_cons_zero, List.set_cons_succ])
            refine wpAnyH_done (by kernel_rfl) ?_ _
            go_simp
            clear hH
            have hrz := HRZ.out
            have hif := HIF.out.1
            go_wp2_with (refine wpList_load_row rfl 30 _ rfl u6 rfl _ _ (0, 0) _ hrz Tryz.underlying30 rfl hif ?_)
            refine (HNT.out wz).mono ?_
            rintro e12 w12 ⟨rfl, hp12⟩
            have hr12 : Row w12 g 30 cz := H1.out.2.past (HPZ.out.trans' hp12)
            have HP12 : Hid (Past w w12) := Lib.hid ((H1.out.1.trans' HPZ.out).trans' hp12)
            obtain ⟨hg1, hg2, hg3⟩ := HIG.out
            clear hp12 hrz hif
            go_wp2_with (refine wpList_store_row rfl 30 _ _ rfl g _ rfl rfl _ _ hr12 hg1 hg2 hg3 ?_)
            refine bodyPost_ret (results_cell_row rfl _ _ g _ cG (0, 0) _ rfl (setRow_heap w12 g cz cG _ _ hr12) Tryz.underlying30 rfl hg1) rfl ?_
            exact HRES.out _ (below_setRow HP12.out (by have := HG.out; omega) _)
          · have hz := HZ.out
            go_simp
            obtain ⟨u6, hu⟩ : ∃ u, wc3.heap.size = u := ⟨_, rfl⟩
            obtain ⟨wc6, hwc⟩ : ∃ w', wc3.alloc (.cells cz 30) = w' := ⟨_, rfl⟩
            have hpp : Past wc3 wc6 := by rw [← hwc]; exact (Below.refl _ _).alloc (Nat.le_refl _) _
            have HPc6 : Hid (Past w1 wc6) := Lib.hid (HPc3.out.trans' hpp)
            have HS_6 := Lib.hid (HS_3.out.past hpp)
            have HD_6 := Lib.hid (HD_3.out.past hpp)
            have HR_6 : Hid (Row wc6 u6 30 cz) := Lib.hid (by rw [← hwc, ← hu]; exact Row.new _ _ _)
            have HU6 : Hid (w1.heap.size ≤ u6) := Lib.hid (by rw [← hu]; exact HPc3.out.size)
            try rw [hwc]
            try rw [hu]
            clear hwc hu hpp hz
            refine hK.out _ _ (HSK.out _ HPc6.out) (fun hH => ?_)
            clear hK K
            refine wpAnyH_ready (rs := [11]) (by kernel_rfl) (by simp) ?_
            refine AllReadyH.cons (by simp only [List.getElem?_toArray, List.getElem?_cons_succ, List.getElem?_cons_zero]; rfl) (fun K hK => ?_) AllReadyH.nil
            go_simp
            refine (HKN.out A2 c2 wc6 HD_6.out).mono ?_
            rintro e11 wc7 ⟨rfl, hpp⟩
            have HPc7 : Hid (Past w1 wc7) := Lib.hid (HPc6.out.trans' hpp)
            have HS_7 := Lib.hid (HS_6.out.past hpp)
            have HD_7 := Lib.hid (HD_6.out.past hpp)
            have HR_7 := Lib.hid (HR_6.out.past hpp)
            clear hpp
            refine hK.out _ _ (HSK.out _ HPc7.out) (fun hH => ?_)
            clear hK K
            refine held_take 12 8 (v := .tuple #[.agg cF, .bool true]) rfl rfl (by kernel_rfl) (by kernel_rfl) (by kernel_rfl) (fun _ _ _ h => h) (Or.inl ⟨by kernel_rfl, fun w _ => by kernel_rfl⟩) hH ?_
            (try dsimp only [Act.put])
            (try simp only [List.setIfInBounds_toArray, List.set_cons_zero, List.set_cons_succ])
            refine held_take 13 21 (v := .agg cF) rfl rfl (by kernel_rfl) (by kernel_rfl) (by kernel_rfl) (fun _ _ _ h => h) (Or.inl ⟨by kernel_rfl, fun w _ => by kernel_rfl⟩) hH ?_
            (try dsimp only [Act.put])
            (try simp only [List.setIfInBounds_toArray, List.set_cons_zero, List.set_cons_succ])
            refine held_take 14 22 (v := .bool true) rfl rfl (by kernel_rfl) (by kernel_rfl) (by kernel_rfl) (fun _ _ _ h => h) (Or.inl ⟨by kernel_rfl, fun w _ => by kernel_rfl⟩) hH ?_
            (try dsimp only [Act.put])
            (try simp only [List.setIfInBounds_toArray, List.set_cons_zero, List.set_cons_succ])
            refine wpAnyH_ready (rs := [16]) (by kernel_rfl) (by simp) ?_
            refine AllReadyH.cons (by simp only [List.getElem?_toArray, List.getElem?_cons_succ, List.getElem?_cons_zero]; rfl) (fun K hK => ?_) AllReadyH.nil
            refine step_wanted16 rfl ?_
            refine wp_store_row 30 (.tmp 6) (.tmp 21) rfl u6 cF rfl rfl _ _ HR_7.out HIF.out.1 HIF.out.2.1 HIF.out.2.2 ?_
            obtain ⟨wz, hwz⟩ : ∃ w', wc7.setRow u6 cF = w' := ⟨_, rfl⟩
            have HPZ : Hid (Past w1 wz) := Lib.hid (by rw [← hwz]; exact below_setRow HPc7.out HU6.out _)
            have HRZ : Hid (Row wz u6 30 cF) := Lib.hid (by rw [← hwz]; exact setRow_heap _ _ _ _ _ _ HR_7.out)
            rw [hwz]
            clear hwz
            refine hK.out _ _ (HSK.out _ HPZ.out) (fun hH => ?_)
            clear hK K
            refine held_take 17 7 (v := .bool true) rfl rfl (by kernel_rfl) (by kernel_rfl) (by kernel_rfl) (fun _ _ _ h => h) (Or.inl ⟨by kernel_rfl, fun w _ => by kernel_rfl⟩) hH ?_
            (try dsimp only [Act.put])
            (try simp only [List.setIfInBounds_toArray, List.set_cons_zero, List.set_cons_succ])
            refine wpAnyH_done (by kernel_rfl) ?_ _
            go_simp
            clear hH
            have hrz := HRZ.out
            have hif := HIF.out.1
            go_wp2_with (refine wpList_load_row rfl 30 _ rfl u6 rfl _ _ (0, 0) _ hrz Tryz.underlying30 rfl hif ?_)
            refine (HNT.out wz).mono ?_
            rintro e12 w12 ⟨rfl, hp12⟩
            have hr12 : Row w12 g 30 cz := H1.out.2.past (HPZ.out.trans' hp12)
            have HP12 : Hid (Past w w12) := Lib.hid ((H1.out.1.trans' HPZ.out).trans' hp12)
            obtain ⟨hg1, hg2, hg3⟩ := HIG.out
            clear hp12 hrz hif
            go_wp2_with (refine wpList_store_row rfl 30 _ _ rfl g _ rfl rfl _ _ hr12 hg1 hg2 hg3 ?_)
            refine bodyPost_ret (results_cell_row rfl _ _ g _ cG (0, 0) _ rfl (setRow_heap w12 g cz cG _ _ hr12) Tryz.underlying30 rfl hg1) rfl ?_
            exact HRES.out _ (below_setRow HP12.out (by have := HG.out; omega) _)
        · have hz := HZ.out
          go_simp
          obtain ⟨u6, hu⟩ : ∃ u, wc2.heap.size = u := ⟨_, rfl⟩
          obtain ⟨wc8, hwc⟩ : ∃ w', wc2.alloc (.cells cz 30) = w' := ⟨_, rfl⟩
          have hpp : Past wc2 wc8 := by rw [← hwc]; exact (Below.refl _ _).alloc (Nat.le_refl _) _
          have HPc8 : Hid (Past w1 wc8) := Lib.hid (HPc2.out.trans' hpp)
          have HS_8 := Lib.hid (HS_2.out.past hpp)
          have HC_8 := Lib.hid ((let ⟨V, C, X, h1, h2⟩ := HC_2.out; ⟨V, C, X, h1.past hpp, h2⟩ : ∃ V C X, Sls _ (some ⟨u18, 0, none⟩) 2 2 V C X ∧ cat X 2 = xs ++ [x]))
          have HR_8 : Hid (Row wc8 u6 30 cz) := Lib.hid (by rw [← hwc, ← hu]; exact Row.new _ _ _)
          have HU6 : Hid (w1.heap.size ≤ u6) := Lib.hid (by rw [← hu]; exact HPc2.out.size)
          try rw [hwc]
          try rw [hu]
          clear hwc hu hpp hz
          refine hK.out _ _ (HSK.out _ HPc8.out) (fun hH => ?_)
          clear hK K
          refine wpAnyH_ready (rs := [10]) (by kernel_rfl) (by simp) ?_
          refine AllReadyH.cons (by simp only [List.getElem?_toArray, List.getElem?_cons_succ, List.getElem?_cons_zero]; rfl) (fun K hK => ?_) AllReadyH.nil
          go_simp
          obtain ⟨V, C, X, hX, hcat⟩ := HC_8.out
          have HSH := Lib.hid (hShake256_any 192 _ 2 2 V C X wc8 hX (by decide) (by rw [hcat, List.length_append, HXL.out]; simp) (by decide))
          rw [hcat, HYS.out] at HSH
          clear hX hcat
          refine HSH.out.mono ?_
          rintro e10 wc9 ⟨A2, c2, rfl, hSl, hpp⟩
          have HPc9 : Hid (Past w1 wc9) := Lib.hid (HPc8.out.trans' hpp)
          have HS_9 := Lib.hid (HS_8.out.past hpp)
          have HC_9 := Lib.hid ((let ⟨V, C, X, h1, h2⟩ := HC_8.out; ⟨V, C, X, h1.past hpp, h2⟩ : ∃ V C X, Sls _ (some ⟨u18, 0, none⟩) 2 2 V C X ∧ cat X 2 = xs ++ [x]))
          have HR_9 := Lib.hid (HR_8.out.past hpp)
          have HD_9 := Lib.hid hSl
          clear hpp hSl HSH V C X
          refine hK.out _ _ (HSK.out _ HPc9.out) (fun hH => ?_)
          clear hK K
          refine wpAnyH_ready (rs := [11]) (by kernel_rfl) (by simp) ?_
          refine AllReadyH.cons (by simp only [List.getElem?_toArray, List.getElem?_cons_succ, List.getElem?_cons_zero]; rfl) (fun K hK => ?_) AllReadyH.nil
          go_simp
          refine (HKN.out A2 c2 wc9 HD_9.out).mono ?_
          rintro e11 wc10 ⟨rfl, hpp⟩
          have HPc10 : Hid (Past w1 wc10) := Lib.hid (HPc9.out.trans' hpp)
          have HS_10 := Lib.hid (HS_9.out.past hpp)
          have HR_10 := Lib.hid (HR_9.out.past hpp)
          have HD_10 := Lib.hid (HD_9.out.past hpp)
          clear hpp
          refine hK.out _ _ (HSK.out _ HPc10.out) (fun hH => ?_)
          clear hK K
          refine held_take 12 8 (v := .tuple #[.agg cF, .bool true]) rfl rfl (by kernel_rfl) (by kernel_rfl) (by kernel_rfl) (fun _ _ _ h => h) (Or.inl ⟨by kernel_rfl, fun w _ => by kernel_rfl⟩) hH ?_
          (try dsimp only [Act.put])
          (try simp only [List.setIfInBounds_toArray, List.set_cons_zero, List.set_cons_succ])
          refine held_take 13 21 (v := .agg cF) rfl rfl (by kernel_rfl) (by kernel_rfl) (by kernel_rfl) (fun _ _ _ h => h) (Or.inl ⟨by kernel_rfl, fun w _ => by kernel_rfl⟩) hH ?_
          (try dsimp only [Act.put])
          (try simp only [List.setIfInBounds_toArray, List.set_cons_zero, List.set_cons_succ])
          refine held_take 14 22 (v := .bool true) rfl rfl (by kernel_rfl) (by kernel_rfl) (by kernel_rfl) (fun _ _ _ h => h) (Or.inl ⟨by kernel_rfl, fun w _ => by kernel_rfl⟩) hH ?_
          (try dsimp only [Act.put])
          (try simp only [List.setIfInBounds_toArray, List.set_cons_zero, List.set_cons_succ])
          refine wpAnyH_ready (rs := [16]) (by kernel_rfl) (by simp) ?_
          refine AllReadyH.cons (by simp only [List.getElem?_toArray, List.getElem?_cons_succ, List.getElem?_cons_zero]; rfl) (fun K hK => ?_) AllReadyH.nil
          refine step_wanted16 rfl ?_
          refine wp_store_row 30 (.tmp 6) (.tmp 21) rfl u6 cF rfl rfl _ _ HR_10.out HIF.out.1 HIF.out.2.1 HIF.out.2.2 ?_
          obtain ⟨wz, hwz⟩ : ∃ w', wc10.setRow u6 cF = w' := ⟨_, rfl⟩
          have HPZ : Hid (Past w1 wz) := Lib.hid (by rw [← hwz]; exact below_setRow HPc10.out HU6.out _)
          have HRZ : Hid (Row wz u6 30 cF) := Lib.hid (by rw [← hwz]; exact setRow_heap _ _ _ _ _ _ HR_10.out)
          rw [hwz]
          clear hwz
          refine hK.out _ _ (HSK.out _ HPZ.out) (fun hH => ?_)
          clear hK K
          refine held_take 17 7 (v := .bool true) rfl rfl (by kernel_rfl) (by kernel_rfl) (by kernel_rfl) (fun _ _ _ h => h) (Or.inl ⟨by kernel_rfl, fun w _ => by kernel_rfl⟩) hH ?_
          (try dsimp only [Act.put])
          (try simp only [List.setIfInBounds_toArray, List.set_cons_zero, List.set_cons_succ])
          refine wpAnyH_done (by kernel_rfl) ?_ _
          go_simp
          clear hH
          have hrz := HRZ.out
          have hif := HIF.out.1
          go_wp2_with (refine wpList_load_row rfl 30 _ rfl u6 rfl _ _ (0, 0) _ hrz Tryz.underlying30 rfl hif ?_)
          refine (HNT.out wz).mono ?_
          rintro e12 w12 ⟨rfl, hp12⟩
          have hr12 : Row w12 g 30 cz := H1.out.2.past (HPZ.out.trans' hp12)
          have HP12 : Hid (Past w w12) := Lib.hid ((H1.out.1.trans' HPZ.out).trans' hp12)
          obtain ⟨hg1, hg2, hg3⟩ := HIG.out
          clear hp12 hrz hif
          go_wp2_with (refine wpList_store_row rfl 30 _ _ rfl g _ rfl rfl _ _ hr12 hg1 hg2 hg3 ?_)
          refine bodyPost_ret (results_cell_row rfl _ _ g _ cG (0, 0) _ rfl (setRow_heap w12 g cz cG _ _ hr12) Tryz.underlying30 rfl hg1) rfl ?_
          exact HRES.out _ (below_setRow HP12.out (by have := HG.out; omega) _)
      · have hz := HZ.out
        go_simp
        obtain ⟨u6, hu⟩ : ∃ u, wc1.heap.size = u := ⟨_, rfl⟩
        obtain ⟨wc11, hwc⟩ : ∃ w', wc1.alloc (.cells cz 30) = w' := ⟨_, rfl⟩
        have hpp : Past wc1 wc11 := by rw [← hwc]; exact (Below.refl _ _).alloc (Nat.le_refl _) _
        have HPc11 : Hid (Past w1 wc11) := Lib.hid (HPc1.out.trans' hpp)
        have HS_11 := Lib.hid (HS_1.out.past hpp)
        have HB_11 := Lib.hid (HB_1.out.past hpp)
        have HR_11 : Hid (Row wc11 u6 30 cz) := Lib.hid (by rw [← hwc, ← hu]; exact Row.new _ _ _)
        have HU6 : Hid (w1.heap.size ≤ u6) := Lib.hid (by rw [← hu]; exact HPc1.out.size)
        try rw [hwc]
        try rw [hu]
        clear hwc hu hpp hz
        refine hK.out _ _ (HSK.out _ HPc11.out) (fun hH => ?_)
        clear hK K
        refine wpAnyH_ready (rs := [9]) (by kernel_rfl) (by simp) ?_
        refine AllReadyH.cons (by simp only [List.getElem?_toArray, List.getElem?_cons_succ, List.getElem?_cons_zero]; rfl) (fun K hK => ?_) AllReadyH.nil
        go_simp
        obtain ⟨u18, hu⟩ : ∃ u, wc11.heap.size = u := ⟨_, rfl⟩
        obtain ⟨wc12, hwc⟩ : ∃ w', wc11.alloc (.cells #[.slice A 32 c, .slice (some ⟨u17, 0, none⟩) 1 1] 25) = w' := ⟨_, rfl⟩
        have hpp : Past wc11 wc12 := by rw [← hwc]; exact (Below.refl _ _).alloc (Nat.le_refl _) _
        have HPc12 : Hid (Past w1 wc12) := Lib.hid (HPc11.out.trans' hpp)
        have HS_12 := Lib.hid (HS_11.out.past hpp)
        have HB_12 := Lib.hid (HB_11.out.past hpp)
        have HR_12 := Lib.hid (HR_11.out.past hpp)
        have HC_12 : Hid (∃ V C X, Sls wc12 (some ⟨u18, 0, none⟩) 2 2 V C X ∧ cat X 2 = xs ++ [x]) := Lib.hid (by
          obtain ⟨V, C, X, hX, hc⟩ := sls_row wc11 2 [(A, 32, c, xs), (some ⟨u17, 0, none⟩, 1, 1, [x])] rfl (by decide) 25 (by intro y hy; simp at hy; rcases hy with rfl | rfl; exact HS_11.out; exact HB_11.out) (by decide)
          rw [← hwc, ← hu]
          exact ⟨V, C, X, hX, by rw [hc]; simp⟩)
        try rw [hwc]
        try rw [hu]
        clear hwc hu hpp
        refine hK.out _ _ (HSK.out _ HPc12.out) (fun hH => ?_)
        clear hK K
        refine wpAnyH_ready (rs := [10]) (by kernel_rfl) (by simp) ?_
        refine AllReadyH.cons (by simp only [List.getElem?_toArray, List.getElem?_cons_succ, List.getElem?_cons_zero]; rfl) (fun K hK => ?_) AllReadyH.nil
        go_simp
        obtain ⟨V, C, X, hX, hcat⟩ := HC_12.out
        have HSH := Lib.hid (hShake256_any 192 _ 2 2 V C X wc12 hX (by decide) (by rw [hcat, List.length_append, HXL.out]; simp) (by decide))
        rw [hcat, HYS.out] at HSH
        clear hX hcat
        refine HSH.out.mono ?_
        rintro e10 wc13 ⟨A2, c2, rfl, hSl, hpp⟩
        have HPc13 : Hid (Past w1 wc13) := Lib.hid (HPc12.out.trans' hpp)
        have HS_13 := Lib.hid (HS_12.out.past hpp)
        have HR_13 := Lib.hid (HR_12.out.past hpp)
        have HC_13 := Lib.hid ((let ⟨V, C, X, h1, h2⟩ := HC_12.out; ⟨V, C, X, h1.past hpp, h2⟩ : ∃ V C X, Sls _ (some ⟨u18, 0, none⟩) 2 2 V C X ∧ cat X 2 = xs ++ [x]))
        have HD_13 := Lib.hid hSl
        clear hpp hSl HSH V C X
        refine hK.out _ _ (HSK.out _ HPc13.out) (fun hH => ?_)
        clear hK K
        refine wpAnyH_ready (rs := [11]) (by kernel_rfl) (by simp) ?_
        refine AllReadyH.cons (by simp only [List.getElem?_toArray, List.getElem?_cons_succ, List.getElem?_cons_zero]; rfl) (fun K hK => ?_) AllReadyH.nil
        go_simp
        refine (HKN.out A2 c2 wc13 HD_13.out).mono ?_
        rintro e11 wc14 ⟨rfl, hpp⟩
        have HPc14 : Hid (Past w1 wc14) := Lib.hid (HPc13.out.trans' hpp)
        have HS_14 := Lib.hid (HS_13.out.past hpp)
        have HR_14 := Lib.hid (HR_13.out.past hpp)
        have HD_14 := Lib.hid (HD_13.out.past hpp)
        clear hpp
        refine hK.out _ _ (HSK.out _ HPc14.out) (fun hH => ?_)
        clear hK K
        refine held_take 12 8 (v := .tuple #[.agg cF, .bool true]) rfl rfl (by kernel_rfl) (by kernel_rfl) (by kernel_rfl) (fun _ _ _ h => h) (Or.inl ⟨by kernel_rfl, fun w _ => by kernel_rfl⟩) hH ?_
        (try dsimp only [Act.put])
        (try simp only [List.setIfInBounds_toArray, List.set_cons_zero, List.set_cons_succ])
        refine held_take 13 21 (v := .agg cF) rfl rfl (by kernel_rfl) (by kernel_rfl) (by kernel_rfl) (fun _ _ _ h => h) (Or.inl ⟨by kernel_rfl, fun w _ => by kernel_rfl⟩) hH ?_
        (try dsimp only [Act.put])
        (try simp only [List.setIfInBounds_toArray, List.set_cons_zero, List.set_cons_succ])
        refine held_take 14 22 (v := .bool true) rfl rfl (by kernel_rfl) (by kernel_rfl) (by kernel_rfl) (fun _ _ _ h => h) (Or.inl ⟨by kernel_rfl, fun w _ => by kernel_rfl⟩) hH ?_
        (try dsimp only [Act.put])
        (try simp only [List.setIfInBounds_toArray, List.set_cons_zero, List.set_cons_succ])
        refine wpAnyH_ready (rs := [16]) (by kernel_rfl) (by simp) ?_
        refine AllReadyH.cons (by simp only [List.getElem?_toArray, List.getElem?_cons_succ, List.getElem?_cons_zero]; rfl) (fun K hK => ?_) AllReadyH.nil
        refine step_wanted16 rfl ?_
        refine wp_store_row 30 (.tmp 6) (.tmp 21) rfl u6 cF rfl rfl _ _ HR_14.out HIF.out.1 HIF.out.2.1 HIF.out.2.2 ?_
        obtain ⟨wz, hwz⟩ : ∃ w', wc14.setRow u6 cF = w' := ⟨_, rfl⟩
        have HPZ : Hid (Past w1 wz) := Lib.hid (by rw [← hwz]; exact below_setRow HPc14.out HU6.out _)
        have HRZ : Hid (Row wz u6 30 cF) := Lib.hid (by rw [← hwz]; exact setRow_heap _ _ _ _ _ _ HR_14.out)
        rw [hwz]
        clear hwz
        refine hK.out _ _ (HSK.out _ HPZ.out) (fun hH => ?_)
        clear hK K
        refine held_take 17 7 (v := .bool true) rfl rfl (by kernel_rfl) (by kernel_rfl) (by kernel_rfl) (fun _ _ _ h => h) (Or.inl ⟨by kernel_rfl, fun w _ => by kernel_rfl⟩) hH ?_
        (try dsimp only [Act.put])
        (try simp only [List.setIfInBounds_toArray, List.set_cons_zero, List.set_cons_succ])
        refine wpAnyH_done (by kernel_rfl) ?_ _
        go_simp
        clear hH
        have hrz := HRZ.out
        have hif := HIF.out.1
        go_wp2_with (refine wpList_load_row rfl 30 _ rfl u6 rfl _ _ (0, 0) _ hrz Tryz.underlying30 rfl hif ?_)
        refine (HNT.out wz).mono ?_
        rintro e12 w12 ⟨rfl, hp12⟩
        have hr12 : Row w12 g 30 cz := H1.out.2.past (HPZ.out.trans' hp12)
        have HP12 : Hid (Past w w12) := Lib.hid ((H1.out.1.trans' HPZ.out).trans' hp12)
        obtain ⟨hg1, hg2, hg3⟩ := HIG.out
        clear hp12 hrz hif
        go_wp2_with (refine wpList_store_row rfl 30 _ _ rfl g _ rfl rfl _ _ hr12 hg1 hg2 hg3 ?_)
        refine bodyPost_ret (results_cell_row rfl _ _ g _ cG (0, 0) _ rfl (setRow_heap w12 g cz cG _ _ hr12) Tryz.underlying30 rfl hg1) rfl ?_
        exact HRES.out _ (below_setRow HP12.out (by have := HG.out; omega) _)
    · have hz := HZ.out
      go_simp
      obtain ⟨u6, hu⟩ : ∃ u, wd.heap.size = u := ⟨_, rfl⟩
      obtain ⟨wc15, hwc⟩ : ∃ w', wd.alloc (.cells cz 30) = w' := ⟨_, rfl⟩
      have hpp : Past wd wc15 := by rw [← hwc]; exact (Below.refl _ _).alloc (Nat.le_refl _) _
      have HPc15 : Hid (Past w1 wc15) := Lib.hid (HPD.out.trans' hpp)
      have HS_15 := Lib.hid (HS_0.out.past hpp)
      have HR_15 : Hid (Row wc15 u6 30 cz) := Lib.hid (by rw [← hwc, ← hu]; exact Row.new _ _ _)
      have HU6 : Hid (w1.heap.size ≤ u6) := Lib.hid (by rw [← hu]; exact HPD.out.size)
      try rw [hwc]
      try rw [hu]
      clear hwc hu hpp hz
      refine hK.out _ _ (HSK.out _ HPc15.out) (fun hH => ?_)
      clear hK K
      refine wpAnyH_ready (rs := [8]) (by kernel_rfl) (by simp) ?_
      refine AllReadyH.cons (by simp only [List.getElem?_toArray, List.getElem?_cons_succ, List.getElem?_cons_zero]; rfl) (fun K hK => ?_) AllReadyH.nil
      go_simp
      obtain ⟨u17, hu⟩ : ∃ u, wc15.heap.size = u := ⟨_, rfl⟩
      obtain ⟨wc16, hwc⟩ : ∃ w', wc15.alloc (.cells #[.int .u8 x] 5) = w' := ⟨_, rfl⟩
      have hpp : Past wc15 wc16 := by rw [← hwc]; exact (Below.refl _ _).alloc (Nat.le_refl _) _
      have HPc16 : Hid (Past w1 wc16) := Lib.hid (HPc15.out.trans' hpp)
      have HS_16 := Lib.hid (HS_15.out.past hpp)
      have HR_16 := Lib.hid (HR_15.out.past hpp)
      have HB_16 : Hid (Sl wc16 (some ⟨u17, 0, none⟩) 1 1 [x]) := Lib.hid (by rw [← hwc, ← hu]; exact sl_one16 _ _ HXR.out)
      try rw [hwc]
      try rw [hu]
      clear hwc hu hpp
      refine hK.out _ _ (HSK.out _ HPc16.out) (fun hH => ?_)
      clear hK K
      refine wpAnyH_ready (rs := [9]) (by kernel_rfl) (by simp) ?_
      refine AllReadyH.cons (by simp only [List.getElem?_toArray, List.getElem?_cons_succ, List.getElem?_cons_zero]; rfl) (fun K hK => ?_) AllReadyH.nil
      go_simp
      obtain ⟨u18, hu⟩ : ∃ u, wc16.heap.size = u := ⟨_, rfl⟩
      obtain ⟨wc17, hwc⟩ : ∃ w', wc16.alloc (.cells #[.slice A 32 c, .slice (some ⟨u17, 0, none⟩) 1 1] 25) = w' := ⟨_, rfl⟩
      have hpp : Past wc16 wc17 := by rw [← hwc]; exact (Below.refl _ _).alloc (Nat.le_refl _) _
      have HPc17 : Hid (Past w1 wc17) := Lib.hid (HPc16.out.trans' hpp)
      have HS_17 := Lib.hid (HS_16.out.past hpp)
      have HR_17 := Lib.hid (HR_16.out.past hpp)
      have HB_17 := Lib.hid (HB_16.out.past hpp)
      have HC_17 : Hid (∃ V C X, Sls wc17 (some ⟨u18, 0, none⟩) 2 2 V C X ∧ cat X 2 = xs ++ [x]) := Lib.hid (by
        obtain ⟨V, C, X, hX, hc⟩ := sls_row wc16 2 [(A, 32, c, xs), (some ⟨u17, 0, none⟩, 1, 1, [x])] rfl (by decide) 25 (by intro y hy; simp at hy; rcases hy with rfl | rfl; exact HS_16.out; exact HB_16.out) (by decide)
        rw [← hwc, ← hu]
        exact ⟨V, C, X, hX, by rw [hc]; simp⟩)
      try rw [hwc]
      try rw [hu]
      clear hwc hu hpp
      refine hK.out _ _ (HSK.out _ HPc17.out) (fun hH => ?_)
      clear hK K
      refine wpAnyH_ready (rs := [10]) (by kernel_rfl) (by simp) ?_
      refine AllReadyH.cons (by simp only [List.getElem?_toArray, List.getElem?_cons_succ, List.getElem?_cons_zero]; rfl) (fun K hK => ?_) AllReadyH.nil
      go_simp
      obtain ⟨V, C, X, hX, hcat⟩ := HC_17.out
      have HSH := Lib.hid (hShake256_any 192 _ 2 2 V C X wc17 hX (by decide) (by rw [hcat, List.length_append, HXL.out]; simp) (by decide))
      rw [hcat, HYS.out] at HSH
      clear hX hcat
      refine HSH.out.mono ?_
      rintro e10 wc18 ⟨A2, c2, rfl, hSl, hpp⟩
      have HPc18 : Hid (Past w1 wc18) := Lib.hid (HPc17.out.trans' hpp)
      have HS_18 := Lib.hid (HS_17.out.past hpp)
      have HR_18 := Lib.hid (HR_17.out.past hpp)
      have HC_18 := Lib.hid ((let ⟨V, C, X, h1, h2⟩ := HC_17.out; ⟨V, C, X, h1.past hpp, h2⟩ : ∃ V C X, Sls _ (some ⟨u18, 0, none⟩) 2 2 V C X ∧ cat X 2 = xs ++ [x]))
      have HD_18 := Lib.hid hSl
      clear hpp hSl HSH V C X
      refine hK.out _ _ (HSK.out _ HPc18.out) (fun hH => ?_)
      clear hK K
      refine wpAnyH_ready (rs := [11]) (by kernel_rfl) (by simp) ?_
      refine AllReadyH.cons (by simp only [List.getElem?_toArray, List.getElem?_cons_succ, List.getElem?_cons_zero]; rfl) (fun K hK => ?_) AllReadyH.nil
      go_simp
      refine (HKN.out A2 c2 wc18 HD_18.out).mono ?_
      rintro e11 wc19 ⟨rfl, hpp⟩
      have HPc19 : Hid (Past w1 wc19) := Lib.hid (HPc18.out.trans' hpp)
      have HS_19 := Lib.hid (HS_18.out.past hpp)
      have HR_19 := Lib.hid (HR_18.out.past hpp)
      have HD_19 := Lib.hid (HD_18.out.past hpp)
      clear hpp
      refine hK.out _ _ (HSK.out _ HPc19.out) (fun hH => ?_)
      clear hK K
      refine held_take 12 8 (v := .tuple #[.agg cF, .bool true]) rfl rfl (by kernel_rfl) (by kernel_rfl) (by kernel_rfl) (fun _ _ _ h => h) (Or.inl ⟨by kernel_rfl, fun w _ => by kernel_rfl⟩) hH ?_
      (try dsimp only [Act.put])
      (try simp only [List.setIfInBounds_toArray, List.set_cons_zero, List.set_cons_succ])
      refine held_take 13 21 (v := .agg cF) rfl rfl (by kernel_rfl) (by kernel_rfl) (by kernel_rfl) (fun _ _ _ h => h) (Or.inl ⟨by kernel_rfl, fun w _ => by kernel_rfl⟩) hH ?_
      (try dsimp only [Act.put])
      (try simp only [List.setIfInBounds_toArray, List.set_cons_zero, List.set_cons_succ])
      refine held_take 14 22 (v := .bool true) rfl rfl (by kernel_rfl) (by kernel_rfl) (by kernel_rfl) (fun _ _ _ h => h) (Or.inl ⟨by kernel_rfl, fun w _ => by kernel_rfl⟩) hH ?_
      (try dsimp only [Act.put])
      (try simp only [List.setIfInBounds_toArray, List.set_cons_zero, List.set_cons_succ])
      refine wpAnyH_ready (rs := [16]) (by kernel_rfl) (by simp) ?_
      refine AllReadyH.cons (by simp only [List.getElem?_toArray, List.getElem?_cons_succ, List.getElem?_cons_zero]; rfl) (fun K hK => ?_) AllReadyH.nil
      refine step_wanted16 rfl ?_
      refine wp_store_row 30 (.tmp 6) (.tmp 21) rfl u6 cF rfl rfl _ _ HR_19.out HIF.out.1 HIF.out.2.1 HIF.out.2.2 ?_
      obtain ⟨wz, hwz⟩ : ∃ w', wc19.setRow u6 cF = w' := ⟨_, rfl⟩
      have HPZ : Hid (Past w1 wz) := Lib.hid (by rw [← hwz]; exact below_setRow HPc19.out HU6.out _)
      have HRZ : Hid (Row wz u6 30 cF) := Lib.hid (by rw [← hwz]; exact setRow_heap _ _ _ _ _ _ HR_19.out)
      rw [hwz]
      clear hwz
      refine hK.out _ _ (HSK.out _ HPZ.out) (fun hH => ?_)
      clear hK K
      refine held_take 17 7 (v := .bool true) rfl rfl (by kernel_rfl) (by kernel_rfl) (by kernel_rfl) (fun _ _ _ h => h) (Or.inl ⟨by kernel_rfl, fun w _ => by kernel_rfl⟩) hH ?_
      (try dsimp only [Act.put])
      (try simp only [List.setIfInBounds_toArray, List.set_cons_zero, List.set_cons_succ])
      refine wpAnyH_done (by kernel_rfl) ?_ _
      go_simp
      clear hH
      have hrz := HRZ.out
      have hif := HIF.out.1
      go_wp2_with (refine wpList_load_row rfl 30 _ rfl u6 rfl _ _ (0, 0) _ hrz Tryz.underlying30 rfl hif ?_)
      refine (HNT.out wz).mono ?_
      rintro e12 w12 ⟨rfl, hp12⟩
      have hr12 : Row w12 g 30 cz := H1.out.2.past (HPZ.out.trans' hp12)
      have HP12 : Hid (Past w w12) := Lib.hid ((H1.out.1.trans' HPZ.out).trans' hp12)
      obtain ⟨hg1, hg2, hg3⟩ := HIG.out
      clear hp12 hrz hif
      go_wp2_with (refine wpList_store_row rfl 30 _ _ rfl g _ rfl rfl _ _ hr12 hg1 hg2 hg3 ?_)
      refine bodyPost_ret (results_cell_row rfl _ _ g _ cG (0, 0) _ rfl (setRow_heap w12 g cz cG _ _ hr12) Tryz.underlying30 rfl hg1) rfl ?_
      exact HRES.out _ (below_setRow HP12.out (by have := HG.out; omega) _)
  · go_simp
    obtain ⟨u17, hu⟩ : ∃ u, wd.heap.size = u := ⟨_, rfl⟩
    obtain ⟨wc20, hwc⟩ : ∃ w', wd.alloc (.cells #[.int .u8 x] 5) = w' := ⟨_, rfl⟩
    have hpp : Past wd wc20 := by rw [← hwc]; exact (Below.refl _ _).alloc (Nat.le_refl _) _
    have HPc20 : Hid (Past w1 wc20) := Lib.hid (HPD.out.trans' hpp)
    have HS_20 := Lib.hid (HS_0.out.past hpp)
    have HB_20 : Hid (Sl wc20 (some ⟨u17, 0, none⟩) 1 1 [x]) := Lib.hid (by rw [← hwc, ← hu]; exact sl_one16 _ _ HXR.out)
    try rw [hwc]
    try rw [hu]
    clear hwc hu hpp
    refine hK.out _ _ (HSK.out _ HPc20.out) (fun hH => ?_)
    clear hK K
    refine wpAnyH_ready (rs := [2, 9, 15]) (by kernel_rfl) (by simp) ?_
    refine AllReadyH.cons (by simp only [List.getElem?_toArray, List.getElem?_cons_succ, List.getElem?_cons_zero]; rfl) (fun K hK => ?_) (AllReadyH.cons (by simp only [List.getElem?_toArray, List.getElem?_cons_succ, List.getElem?_cons_zero]; rfl) (fun K hK => ?_) (AllReadyH.cons (by simp only [List.getElem?_toArray, List.getElem?_cons_succ, List.getElem?_cons_zero]; rfl) (fun K hK => ?_) AllReadyH.nil))
    · go_simp
      refine (HNZ.out wc20).mono ?_
      rintro e2 w2 ⟨rfl, hw2⟩
      rw [hw2]
      clear hw2
      refine hK.out _ _ (HSK.out _ HPc20.out) (fun hH => ?_)
      clear hK K
      refine wpAnyH_ready (rs := [9, 15]) (by kernel_rfl) (by simp) ?_
      refine AllReadyH.cons (by simp only [List.getElem?_toArray, List.getElem?_cons_succ, List.getElem?_cons_zero]; rfl) (fun K hK => ?_) (AllReadyH.cons (by simp only [List.getElem?_toArray, List.getElem?_cons_succ, List.getElem?_cons_zero]; rfl) (fun K hK => ?_) AllReadyH.nil)
      · go_simp
        obtain ⟨u18, hu⟩ : ∃ u, wc20.heap.size = u := ⟨_, rfl⟩
        obtain ⟨wc21, hwc⟩ : ∃ w', wc20.alloc (.cells #[.slice A 32 c, .slice (some ⟨u17, 0, none⟩) 1 1] 25) = w' := ⟨_, rfl⟩
        have hpp : Past wc20 wc21 := by rw [← hwc]; exact (Below.refl _ _).alloc (Nat.le_refl _) _
        have HPc21 : Hid (Past w1 wc21) := Lib.hid (HPc20.out.trans' hpp)
        have HS_21 := Lib.hid (HS_20.out.past hpp)
        have HB_21 := Lib.hid (HB_20.out.past hpp)
        have HC_21 : Hid (∃ V C X, Sls wc21 (some ⟨u18, 0, none⟩) 2 2 V C X ∧ cat X 2 = xs ++ [x]) := Lib.hid (by
          obtain ⟨V, C, X, hX, hc⟩ := sls_row wc20 2 [(A, 32, c, xs), (some ⟨u17, 0, none⟩, 1, 1, [x])] rfl (by decide) 25 (by intro y hy; simp at hy; rcases hy with rfl | rfl; exact HS_20.out; exact HB_20.out) (by decide)
          rw [← hwc, ← hu]
          exact ⟨V, C, X, hX, by rw [hc]; simp⟩)
        try rw [hwc]
        try rw [hu]
        clear hwc hu hpp
        refine hK.out _ _ (HSK.out _ HPc21.out) (fun hH => ?_)
        clear hK K
        refine wpAnyH_ready (rs := [10, 15]) (by kernel_rfl) (by simp) ?_
        refine AllReadyH.cons (by simp only [List.getElem?_toArray, List.getElem?_cons_succ, List.getElem?_cons_zero]; rfl) (fun K hK => ?_) (AllReadyH.cons (by simp only [List.getElem?_toArray, List.getElem?_cons_succ, List.getElem?_cons_zero]; rfl) (fun K hK => ?_) AllReadyH.nil)
        · go_simp
          obtain ⟨V, C, X, hX, hcat⟩ := HC_21.out
          have HSH := Lib.hid (hShake256_any 192 _ 2 2 V C X wc21 hX (by decide) (by rw [hcat, List.length_append, HXL.out]; simp) (by decide))
          rw [hcat, HYS.out] at HSH
          clear hX hcat
          refine HSH.out.mono ?_
          rintro e10 wc22 ⟨A2, c2, rfl, hSl, hpp⟩
          have HPc22 : Hid (Past w1 wc22) := Lib.hid (HPc21.out.trans' hpp)
          have HS_22 := Lib.hid (HS_21.out.past hpp)
          have HC_22 := Lib.hid ((let ⟨V, C, X, h1, h2⟩ := HC_21.out; ⟨V, C, X, h1.past hpp, h2⟩ : ∃ V C X, Sls _ (some ⟨u18, 0, none⟩) 2 2 V C X ∧ cat X 2 = xs ++ [x]))
          have HD_22 := Lib.hid hSl
          clear hpp hSl HSH V C X
          refine hK.out _ _ (HSK.out _ HPc22.out) (fun hH => ?_)
          clear hK K
          refine wpAnyH_ready (rs := [11, 15]) (by kernel_rfl) (by simp) ?_
          refine AllReadyH.cons (by simp only [List.getElem?_toArray, List.getElem?_cons_succ, List.getElem?_cons_zero]; rfl) (fun K hK => ?_) (AllReadyH.cons (by simp only [List.getElem?_toArray, List.getElem?_cons_succ, List.getElem?_cons_zero]; rfl) (fun K hK => ?_) AllReadyH.nil)
          · go_simp
            refine (HKN.out A2 c2 wc22 HD_22.out).mono ?_
            rintro e11 wc23 ⟨rfl, hpp⟩
            have HPc23 : Hid (Past w1 wc23) := Lib.hid (HPc22.out.trans' hpp)
            have HS_23 := Lib.hid (HS_22.out.past hpp)
            have HD_23 := Lib.hid (HD_22.out.past hpp)
            clear hpp
            refine hK.out _ _ (HSK.out _ HPc23.out) (fun hH => ?_)
            clear hK K
            refine held_take 12 8 (v := .tuple #[.agg cF, .bool true]) rfl rfl (by kernel_rfl) (by kernel_rfl) (by kernel_rfl) (fun _ _ _ h => h) (Or.inl ⟨by kernel_rfl, fun w _ => by kernel_rfl⟩) hH ?_
            (try dsimp only [Act.put])
            (try simp only [List.setIfInBounds_toArray, List.set_cons_zero, List.set_cons_succ])
            refine held_take 13 21 (v := .agg cF) rfl rfl (by kernel_rfl) (by kernel_rfl) (by kernel_rfl) (fun _ _ _ h => h) (Or.inl ⟨by kernel_rfl, fun w _ => by kernel_rfl⟩) hH ?_
            (try dsimp only [Act.put])
            (try simp only [List.setIfInBounds_toArray, List.set_cons_zero, List.set_cons_succ])
            refine held_take 14 22 (v := .bool true) rfl rfl (by kernel_rfl) (by kernel_rfl) (by kernel_rfl) (fun _ _ _ h => h) (Or.inl ⟨by kernel_rfl, fun w _ => by kernel_rfl⟩) hH ?_
            (try dsimp only [Act.put])
            (try simp only [List.setIfInBounds_toArray, List.set_cons_zero, List.set_cons_succ])
            refine wpAnyH_ready (rs := [15]) (by kernel_rfl) (by simp) ?_
            refine AllReadyH.cons (by simp only [List.getElem?_toArray, List.getElem?_cons_succ, List.getElem?_cons_zero]; rfl) (fun K hK => ?_) AllReadyH.nil
            have hz := HZ.out
            go_simp
            obtain ⟨u6, hu⟩ : ∃ u, wc23.heap.size = u := ⟨_, rfl⟩
            obtain ⟨wc24, hwc⟩ : ∃ w', wc23.alloc (.cells cz 30) = w' := ⟨_, rfl⟩
            have hpp : Past wc23 wc24 := by rw [← hwc]; exact (Below.refl _ _).alloc (Nat.le_refl _) _
            have HPc24 : Hid (Past w1 wc24) := Lib.hid (HPc23.out.trans' hpp)
            have HS_24 := Lib.hid (HS_23.out.past hpp)
            have HR_24 : Hid (Row wc24 u6 30 cz) := Lib.hid (by rw [← hwc, ← hu]; exact Row.new _ _ _)
            have HU6 : Hid (w1.heap.size ≤ u6) := Lib.hid (by rw [← hu]; exact HPc23.out.size)
            try rw [hwc]
            try rw [hu]
            clear hwc hu hpp hz
            refine hK.out _ _ (HSK.out _ HPc24.out) (fun hH => ?_)
            clear hK K
            refine wpAnyH_ready (rs := [16]) (by kernel_rfl) (by simp) ?_
            refine AllReadyH.cons (by simp only [List.getElem?_toArray, List.getElem?_cons_succ, List.getElem?_cons_zero]; rfl) (fun K hK => ?_) AllReadyH.nil
            refine step_wanted16 rfl ?_
            refine wp_store_row 30 (.tmp 6) (.tmp 21) rfl u6 cF rfl rfl _ _ HR_24.out HIF.out.1 HIF.out.2.1 HIF.out.2.2 ?_
            obtain ⟨wz, hwz⟩ : ∃ w', wc24.setRow u6 cF = w' := ⟨_, rfl⟩
            have HPZ : Hid (Past w1 wz) := Lib.hid (by rw [← hwz]; exact below_setRow HPc24.out HU6.out _)
            have HRZ : Hid (Row wz u6 30 cF) := Lib.hid (by rw [← hwz]; exact setRow_heap _ _ _ _ _ _ HR_24.out)
            rw [hwz]
            clear hwz
            refine hK.out _ _ (HSK.out _ HPZ.out) (fun hH => ?_)
            clear hK K
            refine held_take 17 7 (v := .bool true) rfl rfl (by kernel_rfl) (by kernel_rfl) (by kernel_rfl) (fun _ _ _ h => h) (Or.inl ⟨by kernel_rfl, fun w _ => by kernel_rfl⟩) hH ?_
            (try dsimp only [Act.put])
            (try simp only [List.setIfInBounds_toArray, List.set_cons_zero, List.set_cons_succ])
            refine wpAnyH_done (by kernel_rfl) ?_ _
            go_simp
            clear hH
            have hrz := HRZ.out
            have hif := HIF.out.1
            go_wp2_with (refine wpList_load_row rfl 30 _ rfl u6 rfl _ _ (0, 0) _ hrz Tryz.underlying30 rfl hif ?_)
            refine (HNT.out wz).mono ?_
            rintro e12 w12 ⟨rfl, hp12⟩
            have hr12 : Row w12 g 30 cz := H1.out.2.past (HPZ.out.trans' hp12)
            have HP12 : Hid (Past w w12) := Lib.hid ((H1.out.1.trans' HPZ.out).trans' hp12)
            obtain ⟨hg1, hg2, hg3⟩ := HIG.out
            clear hp12 hrz hif
            go_wp2_with (refine wpList_store_row rfl 30 _ _ rfl g _ rfl rfl _ _ hr12 hg1 hg2 hg3 ?_)
            refine bodyPost_ret (results_cell_row rfl _ _ g _ cG (0, 0) _ rfl (setRow_heap w12 g cz cG _ _ hr12) Tryz.underlying30 rfl hg1) rfl ?_
            exact HRES.out _ (below_setRow HP12.out (by have := HG.out; omega) _)
          · have hz := HZ.out
            go_simp
            obtain ⟨u6, hu⟩ : ∃ u, wc22.heap.size = u := ⟨_, rfl⟩
            obtain ⟨wc25, hwc⟩ : ∃ w', wc22.alloc (.cells cz 30) = w' := ⟨_, rfl⟩
            have hpp : Past wc22 wc25 := by rw [← hwc]; exact (Below.refl _ _).alloc (Nat.le_refl _) _
            have HPc25 : Hid (Past w1 wc25) := Lib.hid (HPc22.out.trans' hpp)
            have HS_25 := Lib.hid (HS_22.out.past hpp)
            have HD_25 := Lib.hid (HD_22.out.past hpp)
            have HR_25 : Hid (Row wc25 u6 30 cz) := Lib.hid (by rw [← hwc, ← hu]; exact Row.new _ _ _)
            have HU6 : Hid (w1.heap.size ≤ u6) := Lib.hid (by rw [← hu]; exact HPc22.out.size)
            try rw [hwc]
            try rw [hu]
            clear hwc hu hpp hz
            refine hK.out _ _ (HSK.out _ HPc25.out) (fun hH => ?_)
            clear hK K
            refine wpAnyH_ready (rs := [11]) (by kernel_rfl) (by simp) ?_
            refine AllReadyH.cons (by simp only [List.getElem?_toArray, List.getElem?_cons_succ, List.getElem?_cons_zero]; rfl) (fun K hK => ?_) AllReadyH.nil
            go_simp
            refine (HKN.out A2 c2 wc25 HD_25.out).mono ?_
            rintro e11 wc26 ⟨rfl, hpp⟩
            have HPc26 : Hid (Past w1 wc26) := Lib.hid (HPc25.out.trans' hpp)
            have HS_26 := Lib.hid (HS_25.out.past hpp)
            have HD_26 := Lib.hid (HD_25.out.past hpp)
            have HR_26 := Lib.hid (HR_25.out.past hpp)
            clear hpp
            refine hK.out _ _ (HSK.out _ HPc26.out) (fun hH => ?_)
            clear hK K
            refine held_take 12 8 (v := .tuple #[.agg cF, .bool true]) rfl rfl (by kernel_rfl) (by kernel_rfl) (by kernel_rfl) (fun _ _ _ h => h) (Or.inl ⟨by kernel_rfl, fun w _ => by kernel_rfl⟩) hH ?_
            (try dsimp only [Act.put])
            (try simp only [List.setIfInBounds_toArray, List.set_cons_zero, List.set_cons_succ])
            refine held_take 13 21 (v := .agg cF) rfl rfl (by kernel_rfl) (by kernel_rfl) (by kernel_rfl) (fun _ _ _ h => h) (Or.inl ⟨by kernel_rfl, fun w _ => by kernel_rfl⟩) hH ?_
            (try dsimp only [Act.put])
            (try simp only [List.setIfInBounds_toArray, List.set_cons_zero, List.set_cons_succ])
            refine held_take 14 22 (v := .bool true) rfl rfl (by kernel_rfl) (by kernel_rfl) (by kernel_rfl) (fun _ _ _ h => h) (Or.inl ⟨by kernel_rfl, fun w _ => by kernel_rfl⟩) hH ?_
            (try dsimp only [Act.put])
            (try simp only [List.setIfInBounds_toArray, List.set_cons_zero, List.set_cons_succ])
            refine wpAnyH_ready (rs := [16]) (by kernel_rfl) (by simp) ?_
            refine AllReadyH.cons (by simp only [List.getElem?_toArray, List.getElem?_cons_succ, List.getElem?_cons_zero]; rfl) (fun K hK => ?_) AllReadyH.nil
            refine step_wanted16 rfl ?_
            refine wp_store_row 30 (.tmp 6) (.tmp 21) rfl u6 cF rfl rfl _ _ HR_26.out HIF.out.1 HIF.out.2.1 HIF.out.2.2 ?_
            obtain ⟨wz, hwz⟩ : ∃ w', wc26.setRow u6 cF = w' := ⟨_, rfl⟩
            have HPZ : Hid (Past w1 wz) := Lib.hid (by rw [← hwz]; exact below_setRow HPc26.out HU6.out _)
            have HRZ : Hid (Row wz u6 30 cF) := Lib.hid (by rw [← hwz]; exact setRow_heap _ _ _ _ _ _ HR_26.out)
            rw [hwz]
            clear hwz
            refine hK.out _ _ (HSK.out _ HPZ.out) (fun hH => ?_)
            clear hK K
            refine held_take 17 7 (v := .bool true) rfl rfl (by kernel_rfl) (by kernel_rfl) (by kernel_rfl) (fun _ _ _ h => h) (Or.inl ⟨by kernel_rfl, fun w _ => by kernel_rfl⟩) hH ?_
            (try dsimp only [Act.put])
            (try simp only [List.setIfInBounds_toArray, List.set_cons_zero, List.set_cons_succ])
            refine wpAnyH_done (by kernel_rfl) ?_ _
            go_simp
            clear hH
            have hrz := HRZ.out
            have hif := HIF.out.1
            go_wp2_with (refine wpList_load_row rfl 30 _ rfl u6 rfl _ _ (0, 0) _ hrz Tryz.underlying30 rfl hif ?_)
            refine (HNT.out wz).mono ?_
            rintro e12 w12 ⟨rfl, hp12⟩
            have hr12 : Row w12 g 30 cz := H1.out.2.past (HPZ.out.trans' hp12)
            have HP12 : Hid (Past w w12) := Lib.hid ((H1.out.1.trans' HPZ.out).trans' hp12)
            obtain ⟨hg1, hg2, hg3⟩ := HIG.out
            clear hp12 hrz hif
            go_wp2_with (refine wpList_store_row rfl 30 _ _ rfl g _ rfl rfl _ _ hr12 hg1 hg2 hg3 ?_)
            refine bodyPost_ret (results_cell_row rfl _ _ g _ cG (0, 0) _ rfl (setRow_heap w12 g cz cG _ _ hr12) Tryz.underlying30 rfl hg1) rfl ?_
            exact HRES.out _ (below_setRow HP12.out (by have := HG.out; omega) _)
        · have hz := HZ.out
          go_simp
          obtain ⟨u6, hu⟩ : ∃ u, wc21.heap.size = u := ⟨_, rfl⟩
          obtain ⟨wc27, hwc⟩ : ∃ w', wc21.alloc (.cells cz 30) = w' := ⟨_, rfl⟩
          have hpp : Past wc21 wc27 := by rw [← hwc]; exact (Below.refl _ _).alloc (Nat.le_refl _) _
          have HPc27 : Hid (Past w1 wc27) := Lib.hid (HPc21.out.trans' hpp)
          have HS_27 := Lib.hid (HS_21.out.past hpp)
          have HC_27 := Lib.hid ((let ⟨V, C, X, h1, h2⟩ := HC_21.out; ⟨V, C, X, h1.past hpp, h2⟩ : ∃ V C X, Sls _ (some ⟨u18, 0, none⟩) 2 2 V C X ∧ cat X 2 = xs ++ [x]))
          have HR_27 : Hid (Row wc27 u6 30 cz) := Lib.hid (by rw [← hwc, ← hu]; exact Row.new _ _ _)
          have HU6 : Hid (w1.heap.size ≤ u6) := Lib.hid (by rw [← hu]; exact HPc21.out.size)
          try rw [hwc]
          try rw [hu]
          clear hwc hu hpp hz
          refine hK.out _ _ (HSK.out _ HPc27.out) (fun hH => ?_)
          clear hK K
          refine wpAnyH_ready (rs := [10]) (by kernel_rfl) (by simp) ?_
          refine AllReadyH.cons (by simp only [List.getElem?_toArray, List.getElem?_cons_succ, List.getElem?_cons_zero]; rfl) (fun K hK => ?_) AllReadyH.nil
          go_simp
          obtain ⟨V, C, X, hX, hcat⟩ := HC_27.out
          have HSH := Lib.hid (hShake256_any 192 _ 2 2 V C X wc27 hX (by decide) (by rw [hcat, List.length_append, HXL.out]; simp) (by decide))
          rw [hcat, HYS.out] at HSH
          clear hX hcat
          refine HSH.out.mono ?_
          rintro e10 wc28 ⟨A2, c2, rfl, hSl, hpp⟩
          have HPc28 : Hid (Past w1 wc28) := Lib.hid (HPc27.out.trans' hpp)
          have HS_28 := Lib.hid (HS_27.out.past hpp)
          have HC_28 := Lib.hid ((let ⟨V, C, X, h1, h2⟩ := HC_27.out; ⟨V, C, X, h1.past hpp, h2⟩ : ∃ V C X, Sls _ (some ⟨u18, 0, none⟩) 2 2 V C X ∧ cat X 2 = xs ++ [x]))
          have HR_28 := Lib.hid (HR_27.out.past hpp)
          have HD_28 := Lib.hid hSl
          clear hpp hSl HSH V C X
          refine hK.out _ _ (HSK.out _ HPc28.out) (fun hH => ?_)
          clear hK K
          refine wpAnyH_ready (rs := [11]) (by kernel_rfl) (by simp) ?_
          refine AllReadyH.cons (by simp only [List.getElem?_toArray, List.getElem?_cons_succ, List.getElem?_cons_zero]; rfl) (fun K hK => ?_) AllReadyH.nil
          go_simp
          refine (HKN.out A2 c2 wc28 HD_28.out).mono ?_
          rintro e11 wc29 ⟨rfl, hpp⟩
          have HPc29 : Hid (Past w1 wc29) := Lib.hid (HPc28.out.trans' hpp)
          have HS_29 := Lib.hid (HS_28.out.past hpp)
          have HR_29 := Lib.hid (HR_28.out.past hpp)
          have HD_29 := Lib.hid (HD_28.out.past hpp)
          clear hpp
          refine hK.out _ _ (HSK.out _ HPc29.out) (fun hH => ?_)
          clear hK K
          refine held_take 12 8 (v := .tuple #[.agg cF, .bool true]) rfl rfl (by kernel_rfl) (by kernel_rfl) (by kernel_rfl) (fun _ _ _ h => h) (Or.inl ⟨by kernel_rfl, fun w _ => by kernel_rfl⟩) hH ?_
          (try dsimp only [Act.put])
          (try simp only [List.setIfInBounds_toArray, List.set_cons_zero, List.set_cons_succ])
          refine held_take 13 21 (v := .agg cF) rfl rfl (by kernel_rfl) (by kernel_rfl) (by kernel_rfl) (fun _ _ _ h => h) (Or.inl ⟨by kernel_rfl, fun w _ => by kernel_rfl⟩) hH ?_
          (try dsimp only [Act.put])
          (try simp only [List.setIfInBounds_toArray, List.set_cons_zero, List.set_cons_succ])
          refine held_take 14 22 (v := .bool true) rfl rfl (by kernel_rfl) (by kernel_rfl) (by kernel_rfl) (fun _ _ _ h => h) (Or.inl ⟨by kernel_rfl, fun w _ => by kernel_rfl⟩) hH ?_
          (try dsimp only [Act.put])
          (try simp only [List.setIfInBounds_toArray, List.set_cons_zero, List.set_cons_succ])
          refine wpAnyH_ready (rs := [16]) (by kernel_rfl) (by simp) ?_
          refine AllReadyH.cons (by simp only [List.getElem?_toArray, List.getElem?_cons_succ, List.getElem?_cons_zero]; rfl) (fun K hK => ?_) AllReadyH.nil
          refine step_wanted16 rfl ?_
          refine wp_store_row 30 (.tmp 6) (.tmp 21) rfl u6 cF rfl rfl _ _ HR_29.out HIF.out.1 HIF.out.2.1 HIF.out.2.2 ?_
          obtain ⟨wz, hwz⟩ : ∃ w', wc29.setRow u6 cF = w' := ⟨_, rfl⟩
          have HPZ : Hid (Past w1 wz) := Lib.hid (by rw [← hwz]; exact below_setRow HPc29.out HU6.out _)
          have HRZ : Hid (Row wz u6 30 cF) := Lib.hid (by rw [← hwz]; exact setRow_heap _ _ _ _ _ _ HR_29.out)
          rw [hwz]
          clear hwz
          refine hK.out _ _ (HSK.out _ HPZ.out) (fun hH => ?_)
          clear hK K
          refine held_take 17 7 (v := .bool true) rfl rfl (by kernel_rfl) (by kernel_rfl) (by kernel_rfl) (fun _ _ _ h => h) (Or.inl ⟨by kernel_rfl, fun w _ => by kernel_rfl⟩) hH ?_
          (try dsimp only [Act.put])
          (try simp only [List.setIfInBounds_toArray, List.set_cons_zero, List.set_cons_succ])
          refine wpAnyH_done (by kernel_rfl) ?_ _
          go_simp
          clear hH
          have hrz := HRZ.out
          have hif := HIF.out.1
          go_wp2_with (refine wpList_load_row rfl 30 _ rfl u6 rfl _ _ (0, 0) _ hrz Tryz.underlying30 rfl hif ?_)
          refine (HNT.out wz).mono ?_
          rintro e12 w12 ⟨rfl, hp12⟩
          have hr12 : Row w12 g 30 cz := H1.out.2.past (HPZ.out.trans' hp12)
          have HP12 : Hid (Past w w12) := Lib.hid ((H1.out.1.trans' HPZ.out).trans' hp12)
          obtain ⟨hg1, hg2, hg3⟩ := HIG.out
          clear hp12 hrz hif
          go_wp2_with (refine wpList_store_row rfl 30 _ _ rfl g _ rfl rfl _ _ hr12 hg1 hg2 hg3 ?_)
          refine bodyPost_ret (results_cell_row rfl _ _ g _ cG (0, 0) _ rfl (setRow_heap w12 g cz cG _ _ hr12) Tryz.underlying30 rfl hg1) rfl ?_
          exact HRES.out _ (below_setRow HP12.out (by have := HG.out; omega) _)
      · have hz := HZ.out
        go_simp
        obtain ⟨u6, hu⟩ : ∃ u, wc20.heap.size = u := ⟨_, rfl⟩
        obtain ⟨wc30, hwc⟩ : ∃ w', wc20.alloc (.cells cz 30) = w' := ⟨_, rfl⟩
        have hpp : Past wc20 wc30 := by rw [← hwc]; exact (Below.refl _ _).alloc (Nat.le_refl _) _
        have HPc30 : Hid (Past w1 wc30) := Lib.hid (HPc20.out.trans' hpp)
        have HS_30 := Lib.hid (HS_20.out.past hpp)
        have HB_30 := Lib.hid (HB_20.out.past hpp)
        have HR_30 : Hid (Row wc30 u6 30 cz) := Lib.hid (by rw [← hwc, ← hu]; exact Row.new _ _ _)
        have HU6 : Hid (w1.heap.size ≤ u6) := Lib.hid (by rw [← hu]; exact HPc20.out.size)
        try rw [hwc]
        try rw [hu]
        clear hwc hu hpp hz
        refine hK.out _ _ (HSK.out _ HPc30.out) (fun hH => ?_)
        clear hK K
        refine wpAnyH_ready (rs := [9]) (by kernel_rfl) (by simp) ?_
        refine AllReadyH.cons (by simp only [List.getElem?_toArray, List.getElem?_cons_succ, List.getElem?_cons_zero]; rfl) (fun K hK => ?_) AllReadyH.nil
        go_simp
        obtain ⟨u18, hu⟩ : ∃ u, wc30.heap.size = u := ⟨_, rfl⟩
        obtain ⟨wc31, hwc⟩ : ∃ w', wc30.alloc (.cells #[.slice A 32 c, .slice (some ⟨u17, 0, none⟩) 1 1] 25) = w' := ⟨_, rfl⟩
        have hpp : Past wc30 wc31 := by rw [← hwc]; exact (Below.refl _ _).alloc (Nat.le_refl _) _
        have HPc31 : Hid (Past w1 wc31) := Lib.hid (HPc30.out.trans' hpp)
        have HS_31 := Lib.hid (HS_30.out.past hpp)
        have HB_31 := Lib.hid (HB_30.out.past hpp)
        have HR_31 := Lib.hid (HR_30.out.past hpp)
        have HC_31 : Hid (∃ V C X, Sls wc31 (some ⟨u18, 0, none⟩) 2 2 V C X ∧ cat X 2 = xs ++ [x]) := Lib.hid (by
          obtain ⟨V, C, X, hX, hc⟩ := sls_row wc30 2 [(A, 32, c, xs), (some ⟨u17, 0, none⟩, 1, 1, [x])] rfl (by decide) 25 (by intro y hy; simp at hy; rcases hy with rfl | rfl; exact HS_30.out; exact HB_30.out) (by decide)
          rw [← hwc, ← hu]
          exact ⟨V, C, X, hX, by rw [hc]; simp⟩)
        try rw [hwc]
        try rw [hu]
        clear hwc hu hpp
        refine hK.out _ _ (HSK.out _ HPc31.out) (fun hH => ?_)
        clear hK K
        refine wpAnyH_ready (rs := [10]) (by kernel_rfl) (by simp) ?_
        refine AllReadyH.cons (by simp only [List.getElem?_toArray, List.getElem?_cons_succ, List.getElem?_cons_zero]; rfl) (fun K hK => ?_) AllReadyH.nil
        go_simp
        obtain ⟨V, C, X, hX, hcat⟩ := HC_31.out
        have HSH := Lib.hid (hShake256_any 192 _ 2 2 V C X wc31 hX (by decide) (by rw [hcat, List.length_append, HXL.out]; simp) (by decide))
        rw [hcat, HYS.out] at HSH
        clear hX hcat
        refine HSH.out.mono ?_
        rintro e10 wc32 ⟨A2, c2, rfl, hSl, hpp⟩
        have HPc32 : Hid (Past w1 wc32) := Lib.hid (HPc31.out.trans' hpp)
        have HS_32 := Lib.hid (HS_31.out.past hpp)
        have HR_32 := Lib.hid (HR_31.out.past hpp)
        have HC_32 := Lib.hid ((let ⟨V, C, X, h1, h2⟩ := HC_31.out; ⟨V, C, X, h1.past hpp, h2⟩ : ∃ V C X, Sls _ (some ⟨u18, 0, none⟩) 2 2 V C X ∧ cat X 2 = xs ++ [x]))
        have HD_32 := Lib.hid hSl
        clear hpp hSl HSH V C X
        refine hK.out _ _ (HSK.out _ HPc32.out) (fun hH => ?_)
        clear hK K
        refine wpAnyH_ready (rs := [11]) (by kernel_rfl) (by simp) ?_
        refine AllReadyH.cons (by simp only [List.getElem?_toArray, List.getElem?_cons_succ, List.getElem?_cons_zero]; rfl) (fun K hK => ?_) AllReadyH.nil
        go_simp
        refine (HKN.out A2 c2 wc32 HD_32.out).mono ?_
        rintro e11 wc33 ⟨rfl, hpp⟩
        have HPc33 : Hid (Past w1 wc33) := Lib.hid (HPc32.out.trans' hpp)
        have HS_33 := Lib.hid (HS_32.out.past hpp)
        have HR_33 := Lib.hid (HR_32.out.past hpp)
        have HD_33 := Lib.hid (HD_32.out.past hpp)
        clear hpp
        refine hK.out _ _ (HSK.out _ HPc33.out) (fun hH => ?_)
        clear hK K
        refine held_take 12 8 (v := .tuple #[.agg cF, .bool true]) rfl rfl (by kernel_rfl) (by kernel_rfl) (by kernel_rfl) (fun _ _ _ h => h) (Or.inl ⟨by kernel_rfl, fun w _ => by kernel_rfl⟩) hH ?_
        (try dsimp only [Act.put])
        (try simp only [List.setIfInBounds_toArray, List.set_cons_zero, List.set_cons_succ])
        refine held_take 13 21 (v := .agg cF) rfl rfl (by kernel_rfl) (by kernel_rfl) (by kernel_rfl) (fun _ _ _ h => h) (Or.inl ⟨by kernel_rfl, fun w _ => by kernel_rfl⟩) hH ?_
        (try dsimp only [Act.put])
        (try simp only [List.setIfInBounds_toArray, List.set_cons_zero, List.set_cons_succ])
        refine held_take 14 22 (v := .bool true) rfl rfl (by kernel_rfl) (by kernel_rfl) (by kernel_rfl) (fun _ _ _ h => h) (Or.inl ⟨by kernel_rfl, fun w _ => by kernel_rfl⟩) hH ?_
        (try dsimp only [Act.put])
        (try simp only [List.setIfInBounds_toArray, List.set_cons_zero, List.set_cons_succ])
        refine wpAnyH_ready (rs := [16]) (by kernel_rfl) (by simp) ?_
        refine AllReadyH.cons (by simp only [List.getElem?_toArray, List.getElem?_cons_succ, List.getElem?_cons_zero]; rfl) (fun K hK => ?_) AllReadyH.nil
        refine step_wanted16 rfl ?_
        refine wp_store_row 30 (.tmp 6) (.tmp 21) rfl u6 cF rfl rfl _ _ HR_33.out HIF.out.1 HIF.out.2.1 HIF.out.2.2 ?_
        obtain ⟨wz, hwz⟩ : ∃ w', wc33.setRow u6 cF = w' := ⟨_, rfl⟩
        have HPZ : Hid (Past w1 wz) := Lib.hid (by rw [← hwz]; exact below_setRow HPc33.out HU6.out _)
        have HRZ : Hid (Row wz u6 30 cF) := Lib.hid (by rw [← hwz]; exact setRow_heap _ _ _ _ _ _ HR_33.out)
        rw [hwz]
        clear hwz
        refine hK.out _ _ (HSK.out _ HPZ.out) (fun hH => ?_)
        clear hK K
        refine held_take 17 7 (v := .bool true) rfl rfl (by kernel_rfl) (by kernel_rfl) (by kernel_rfl) (fun _ _ _ h => h) (Or.inl ⟨by kernel_rfl, fun w _ => by kernel_rfl⟩) hH ?_
        (try dsimp only [Act.put])
        (try simp only [List.setIfInBounds_toArray, List.set_cons_zero, List.set_cons_succ])
        refine wpAnyH_done (by kernel_rfl) ?_ _
        go_simp
        clear hH
        have hrz := HRZ.out
        have hif := HIF.out.1
        go_wp2_with (refine wpList_load_row rfl 30 _ rfl u6 rfl _ _ (0, 0) _ hrz Tryz.underlying30 rfl hif ?_)
        refine (HNT.out wz).mono ?_
        rintro e12 w12 ⟨rfl, hp12⟩
        have hr12 : Row w12 g 30 cz := H1.out.2.past (HPZ.out.trans' hp12)
        have HP12 : Hid (Past w w12) := Lib.hid ((H1.out.1.trans' HPZ.out).trans' hp12)
        obtain ⟨hg1, hg2, hg3⟩ := HIG.out
        clear hp12 hrz hif
        go_wp2_with (refine wpList_store_row rfl 30 _ _ rfl g _ rfl rfl _ _ hr12 hg1 hg2 hg3 ?_)
        refine bodyPost_ret (results_cell_row rfl _ _ g _ cG (0, 0) _ rfl (setRow_heap w12 g cz cG _ _ hr12) Tryz.underlying30 rfl hg1) rfl ?_
        exact HRES.out _ (below_setRow HP12.out (by have := HG.out; omega) _)
    · go_simp
      obtain ⟨u18, hu⟩ : ∃ u, wc20.heap.size = u := ⟨_, rfl⟩
      obtain ⟨wc34, hwc⟩ : ∃ w', wc20.alloc (.cells #[.slice A 32 c, .slice (some ⟨u17, 0, none⟩) 1 1] 25) = w' := ⟨_, rfl⟩
      have hpp : Past wc20 wc34 := by rw [← hwc]; exact (Below.refl _ _).alloc (Nat.le_refl _) _
      have HPc34 : Hid (Past w1 wc34) := Lib.hid (HPc20.out.trans' hpp)
      have HS_34 := Lib.hid (HS_20.out.past hpp)
      have HB_34 := Lib.hid (HB_20.out.past hpp)
      have HC_34 : Hid (∃ V C X, Sls wc34 (some ⟨u18, 0, none⟩) 2 2 V C X ∧ cat X 2 = xs ++ [x]) := Lib.hid (by
        obtain ⟨V, C, X, hX, hc⟩ := sls_row wc20 2 [(A, 32, c, xs), (some ⟨u17, 0, none⟩, 1, 1, [x])] rfl (by decide) 25 (by intro y hy; simp at hy; rcases hy with rfl | rfl; exact HS_20.out; exact HB_20.out) (by decide)
        rw [← hwc, ← hu]
        exact ⟨V, C, X, hX, by rw [hc]; simp⟩)
      try rw [hwc]
      try rw [hu]
      clear hwc hu hpp
      refine hK.out _ _ (HSK.out _ HPc34.out) (fun hH => ?_)
      clear hK K
      refine wpAnyH_ready (rs := [2, 15]) (by kernel_rfl) (by simp) ?_
      refine AllReadyH.cons (by simp only [List.getElem?_toArray, List.getElem?_cons_succ, List.getElem?_cons_zero]; rfl) (fun K hK => ?_) (AllReadyH.cons (by simp only [List.getElem?_toArray, List.getElem?_cons_succ, List.getElem?_cons_zero]; rfl) (fun K hK => ?_) AllReadyH.nil)
      · go_simp
        refine (HNZ.out wc34).mono ?_
        rintro e2 w2 ⟨rfl, hw2⟩
        rw [hw2]
        clear hw2
        refine hK.out _ _ (HSK.out _ HPc34.out) (fun hH => ?_)
        clear hK K
        refine wpAnyH_ready (rs := [10, 15]) (by kernel_rfl) (by simp) ?_
        refine AllReadyH.cons (by simp only [List.getElem?_toArray, List.getElem?_cons_succ, List.getElem?_cons_zero]; rfl) (fun K hK => ?_) (AllReadyH.cons (by simp only [List.getElem?_toArray, List.getElem?_cons_succ, List.getElem?_cons_zero]; rfl) (fun K hK => ?_) AllReadyH.nil)
        · go_simp
          obtain ⟨V, C, X, hX, hcat⟩ := HC_34.out
          have HSH := Lib.hid (hShake256_any 192 _ 2 2 V C X wc34 hX (by decide) (by rw [hcat, List.length_append, HXL.out]; simp) (by decide))
          rw [hcat, HYS.out] at HSH
          clear hX hcat
          refine HSH.out.mono ?_
          rintro e10 wc35 ⟨A2, c2, rfl, hSl, hpp⟩
          have HPc35 : Hid (Past w1 wc35) := Lib.hid (HPc34.out.trans' hpp)
          have HS_35 := Lib.hid (HS_34.out.past hpp)
          have HC_35 := Lib.hid ((let ⟨V, C, X, h1, h2⟩ := HC_34.out; ⟨V, C, X, h1.past hpp, h2⟩ : ∃ V C X, Sls _ (some ⟨u18, 0, none⟩) 2 2 V C X ∧ cat X 2 = xs ++ [x]))
          have HD_35 := Lib.hid hSl
          clear hpp hSl HSH V C X
          refine hK.out _ _ (HSK.out _ HPc35.out) (fun hH => ?_)
          clear hK K
          refine wpAnyH_ready (rs := [11, 15]) (by kernel_rfl) (by simp) ?_
          refine AllReadyH.cons (by simp only [List.getElem?_toArray, List.getElem?_cons_succ, List.getElem?_cons_zero]; rfl) (fun K hK => ?_) (AllReadyH.cons (by simp only [List.getElem?_toArray, List.getElem?_cons_succ, List.getElem?_cons_zero]; rfl) (fun K hK => ?_) AllReadyH.nil)
          · go_simp
            refine (HKN.out A2 c2 wc35 HD_35.out).mono ?_
            rintro e11 wc36 ⟨rfl, hpp⟩
            have HPc36 : Hid (Past w1 wc36) := Lib.hid (HPc35.out.trans' hpp)
            have HS_36 := Lib.hid (HS_35.out.past hpp)
            have HD_36 := Lib.hid (HD_35.out.past hpp)
            clear hpp
            refine hK.out _ _ (HSK.out _ HPc36.out) (fun hH => ?_)
            clear hK K
            refine held_take 12 8 (v := .tuple #[.agg cF, .bool true]) rfl rfl (by kernel_rfl) (by kernel_rfl) (by kernel_rfl) (fun _ _ _ h => h) (Or.inl ⟨by kernel_rfl, fun w _ => by kernel_rfl⟩) hH ?_
            (try dsimp only [Act.put])
            (try simp only [List.setIfInBounds_toArray, List.set_cons_zero, List.set_cons_succ])
            refine held_take 13 21 (v := .agg cF) rfl rfl (by kernel_rfl) (by kernel_rfl) (by kernel_rfl) (fun _ _ _ h => h) (Or.inl ⟨by kernel_rfl, fun w _ => by kernel_rfl⟩) hH ?_
            (try dsimp only [Act.put])
            (try simp only [List.setIfInBounds_toArray, List.set_cons_zero, List.set_cons_succ])
            refine held_take 14 22 (v := .bool true) rfl rfl (by kernel_rfl) (by kernel_rfl) (by kernel_rfl) (fun _ _ _ h => h) (Or.inl ⟨by kernel_rfl, fun w _ => by kernel_rfl⟩) hH ?_
            (try dsimp only [Act.put])
            (try simp only [List.setIfInBounds_toArray, List.set_cons_zero, List.set_cons_succ])
            refine wpAnyH_ready (rs := [15]) (by kernel_rfl) (by simp) ?_
            refine AllReadyH.cons (by simp only [List.getElem?_toArray, List.getElem?_cons_succ, List.getElem?_cons_zero]; rfl) (fun K hK => ?_) AllReadyH.nil
            have hz := HZ.out
            go_simp
            obtain ⟨u6, hu⟩ : ∃ u, wc36.heap.size = u := ⟨_, rfl⟩
            obtain ⟨wc37, hwc⟩ : ∃ w', wc36.alloc (.cells cz 30) = w' := ⟨_, rfl⟩
            have hpp : Past wc36 wc37 := by rw [← hwc]; exact (Below.refl _ _).alloc (Nat.le_refl _) _
            have HPc37 : Hid (Past w1 wc37) := Lib.hid (HPc36.out.trans' hpp)
            have HS_37 := Lib.hid (HS_36.out.past hpp)
            have HR_37 : Hid (Row wc37 u6 30 cz) := Lib.hid (by rw [← hwc, ← hu]; exact Row.new _ _ _)
            have HU6 : Hid (w1.heap.size ≤ u6) := Lib.hid (by rw [← hu]; exact HPc36.out.size)
            try rw [hwc]
            try rw [hu]
            clear hwc hu hpp hz
            refine hK.out _ _ (HSK.out _ HPc37.out) (fun hH => ?_)
            clear hK K
            refine wpAnyH_ready (rs := [16]) (by kernel_rfl) (by simp) ?_
            refine AllReadyH.cons (by simp only [List.getElem?_toArray, List.getElem?_cons_succ, List.getElem?_cons_zero]; rfl) (fun K hK => ?_) AllReadyH.nil
            refine step_wanted16 rfl ?_
            refine wp_store_row 30 (.tmp 6) (.tmp 21) rfl u6 cF rfl rfl _ _ HR_37.out HIF.out.1 HIF.out.2.1 HIF.out.2.2 ?_
            obtain ⟨wz, hwz⟩ : ∃ w', wc37.setRow u6 cF = w' := ⟨_, rfl⟩
            have HPZ : Hid (Past w1 wz) := Lib.hid (by rw [← hwz]; exact below_setRow HPc37.out HU6.out _)
            have HRZ : Hid (Row wz u6 30 cF) := Lib.hid (by rw [← hwz]; exact setRow_heap _ _ _ _ _ _ HR_37.out)
            rw [hwz]
            clear hwz
            refine hK.out _ _ (HSK.out _ HPZ.out) (fun hH => ?_)
            clear hK K
            refine held_take 17 7 (v := .bool true) rfl rfl (by kernel_rfl) (by kernel_rfl) (by kernel_rfl) (fun _ _ _ h => h) (Or.inl ⟨by kernel_rfl, fun w _ => by kernel_rfl⟩) hH ?_
            (try dsimp only [Act.put])
            (try simp only [List.setIfInBounds_toArray, List.set_cons_zero, List.set_cons_succ])
            refine wpAnyH_done (by kernel_rfl) ?_ _
            go_simp
            clear hH
            have hrz := HRZ.out
            have hif := HIF.out.1
            go_wp2_with (refine wpList_load_row rfl 30 _ rfl u6 rfl _ _ (0, 0) _ hrz Tryz.underlying30 rfl hif ?_)
            refine (HNT.out wz).mono ?_
            rintro e12 w12 ⟨rfl, hp12⟩
            have hr12 : Row w12 g 30 cz := H1.out.2.past (HPZ.out.trans' hp12)
            have HP12 : Hid (Past w w12) := Lib.hid ((H1.out.1.trans' HPZ.out).trans' hp12)
            obtain ⟨hg1, hg2, hg3⟩ := HIG.out
            clear hp12 hrz hif
            go_wp2_with (refine wpList_store_row rfl 30 _ _ rfl g _ rfl rfl _ _ hr12 hg1 hg2 hg3 ?_)
            refine bodyPost_ret (results_cell_row rfl _ _ g _ cG (0, 0) _ rfl (setRow_heap w12 g cz cG _ _ hr12) Tryz.underlying30 rfl hg1) rfl ?_
            exact HRES.out _ (below_setRow HP12.out (by have := HG.out; omega) _)
          · have hz := HZ.out
            go_simp
            obtain ⟨u6, hu⟩ : ∃ u, wc35.heap.size = u := ⟨_, rfl⟩
            obtain ⟨wc38, hwc⟩ : ∃ w', wc35.alloc (.cells cz 30) = w' := ⟨_, rfl⟩
            have hpp : Past wc35 wc38 := by rw [← hwc]; exact (Below.refl _ _).alloc (Nat.le_refl _) _
            have HPc38 : Hid (Past w1 wc38) := Lib.hid (HPc35.out.trans' hpp)
            have HS_38 := Lib.hid (HS_35.out.past hpp)
            have HD_38 := Lib.hid (HD_35.out.past hpp)
            have HR_38 : Hid (Row wc38 u6 30 cz) := Lib.hid (by rw [← hwc, ← hu]; exact Row.new _ _ _)
            have HU6 : Hid (w1.heap.size ≤ u6) := Lib.hid (by rw [← hu]; exact HPc35.out.size)
            try rw [hwc]
            try rw [hu]
            clear hwc hu hpp hz
            refine hK.out _ _ (HSK.out _ HPc38.out) (fun hH => ?_)
            clear hK K
            refine wpAnyH_ready (rs := [11]) (by kernel_rfl) (by simp) ?_
            refine AllReadyH.cons (by simp only [List.getElem?_toArray, List.getElem?_cons_succ, List.getElem?_cons_zero]; rfl) (fun K hK => ?_) AllReadyH.nil
            go_simp
            refine (HKN.out A2 c2 wc38 HD_38.out).mono ?_
            rintro e11 wc39 ⟨rfl, hpp⟩
            have HPc39 : Hid (Past w1 wc39) := Lib.hid (HPc38.out.trans' hpp)
            have HS_39 := Lib.hid (HS_38.out.past hpp)
            have HD_39 := Lib.hid (HD_38.out.past hpp)
            have HR_39 := Lib.hid (HR_38.out.past hpp)
            clear hpp
            refine hK.out _ _ (HSK.out _ HPc39.out) (fun hH => ?_)
            clear hK K
            refine held_take 12 8 (v := .tuple #[.agg cF, .bool true]) rfl rfl (by kernel_rfl) (by kernel_rfl) (by kernel_rfl) (fun _ _ _ h => h) (Or.inl ⟨by kernel_rfl, fun w _ => by kernel_rfl⟩) hH ?_
            (try dsimp only [Act.put])
            (try simp only [List.setIfInBounds_toArray, List.set_cons_zero, List.set_cons_succ])
            refine held_take 13 21 (v := .agg cF) rfl rfl (by kernel_rfl) (by kernel_rfl) (by kernel_rfl) (fun _ _ _ h => h) (Or.inl ⟨by kernel_rfl, fun w _ => by kernel_rfl⟩) hH ?_
            (try dsimp only [Act.put])
            (try simp only [List.setIfInBounds_toArray, List.set_cons_zero, List.set_cons_succ])
            refine held_take 14 22 (v := .bool true) rfl rfl (by kernel_rfl) (by kernel_rfl) (by kernel_rfl) (fun _ _ _ h => h) (Or.inl ⟨by kernel_rfl, fun w _ => by kernel_rfl⟩) hH ?_
            (try dsimp only [Act.put])
            (try simp only [List.setIfInBounds_toArray, List.set_cons_zero, List.set_cons_succ])
            refine wpAnyH_ready (rs := [16]) (by kernel_rfl) (by simp) ?_
            refine AllReadyH.cons (by simp only [List.getElem?_toArray, List.getElem?_cons_succ, List.getElem?_cons_zero]; rfl) (fun K hK => ?_) AllReadyH.nil
            refine step_wanted16 rfl ?_
            refine wp_store_row 30 (.tmp 6) (.tmp 21) rfl u6 cF rfl rfl _ _ HR_39.out HIF.out.1 HIF.out.2.1 HIF.out.2.2 ?_
            obtain ⟨wz, hwz⟩ : ∃ w', wc39.setRow u6 cF = w' := ⟨_, rfl⟩
            have HPZ : Hid (Past w1 wz) := Lib.hid (by rw [← hwz]; exact below_setRow HPc39.out HU6.out _)
            have HRZ : Hid (Row wz u6 30 cF) := Lib.hid (by rw [← hwz]; exact setRow_heap _ _ _ _ _ _ HR_39.out)
            rw [hwz]
            clear hwz
            refine hK.out _ _ (HSK.out _ HPZ.out) (fun hH => ?_)
            clear hK K
            refine held_take 17 7 (v := .bool true) rfl rfl (by kernel_rfl) (by kernel_rfl) (by kernel_rfl) (fun _ _ _ h => h) (Or.inl ⟨by kernel_rfl, fun w _ => by kernel_rfl⟩) hH ?_
            (try dsimp only [Act.put])
            (try simp only [List.setIfInBounds_toArray, List.set_cons_zero, List.set_cons_succ])
            refine wpAnyH_done (by kernel_rfl) ?_ _
            go_simp
            clear hH
            have hrz := HRZ.out
            have hif := HIF.out.1
            go_wp2_with (refine wpList_load_row rfl 30 _ rfl u6 rfl _ _ (0, 0) _ hrz Tryz.underlying30 rfl hif ?_)
            refine (HNT.out wz).mono ?_
            rintro e12 w12 ⟨rfl, hp12⟩
            have hr12 : Row w12 g 30 cz := H1.out.2.past (HPZ.out.trans' hp12)
            have HP12 : Hid (Past w w12) := Lib.hid ((H1.out.1.trans' HPZ.out).trans' hp12)
            obtain ⟨hg1, hg2, hg3⟩ := HIG.out
            clear hp12 hrz hif
            go_wp2_with (refine wpList_store_row rfl 30 _ _ rfl g _ rfl rfl _ _ hr12 hg1 hg2 hg3 ?_)
            refine bodyPost_ret (results_cell_row rfl _ _ g _ cG (0, 0) _ rfl (setRow_heap w12 g cz cG _ _ hr12) Tryz.underlying30 rfl hg1) rfl ?_
            exact HRES.out _ (below_setRow HP12.out (by have := HG.out; omega) _)
        · have hz := HZ.out
          go_simp
          obtain ⟨u6, hu⟩ : ∃ u, wc34.heap.size = u := ⟨_, rfl⟩
          obtain ⟨wc40, hwc⟩ : ∃ w', wc34.alloc (.cells cz 30) = w' := ⟨_, rfl⟩
          have hpp : Past wc34 wc40 := by rw [← hwc]; exact (Below.refl _ _).alloc (Nat.le_refl _) _
          have HPc40 : Hid (Past w1 wc40) := Lib.hid (HPc34.out.trans' hpp)
          have HS_40 := Lib.hid (HS_34.out.past hpp)
          have HC_40 := Lib.hid ((let ⟨V, C, X, h1, h2⟩ := HC_34.out; ⟨V, C, X, h1.past hpp, h2⟩ : ∃ V C X, Sls _ (some ⟨u18, 0, none⟩) 2 2 V C X ∧ cat X 2 = xs ++ [x]))
          have HR_40 : Hid (Row wc40 u6 30 cz) := Lib.hid (by rw [← hwc, ← hu]; exact Row.new _ _ _)
          have HU6 : Hid (w1.heap.size ≤ u6) := Lib.hid (by rw [← hu]; exact HPc34.out.size)
          try rw [hwc]
          try rw [hu]
          clear hwc hu hpp hz
          refine hK.out _ _ (HSK.out _ HPc40.out) (fun hH => ?_)
          clear hK K
          refine wpAnyH_ready (rs := [10]) (by kernel_rfl) (by simp) ?_
          refine AllReadyH.cons (by simp only [List.getElem?_toArray, List.getElem?_cons_succ, List.getElem?_cons_zero]; rfl) (fun K hK => ?_) AllReadyH.nil
          go_simp
          obtain ⟨V, C, X, hX, hcat⟩ := HC_40.out
          have HSH := Lib.hid (hShake256_any 192 _ 2 2 V C X wc40 hX (by decide) (by rw [hcat, List.length_append, HXL.out]; simp) (by decide))
          rw [hcat, HYS.out] at HSH
          clear hX hcat
          refine HSH.out.mono ?_
          rintro e10 wc41 ⟨A2, c2, rfl, hSl, hpp⟩
          have HPc41 : Hid (Past w1 wc41) := Lib.hid (HPc40.out.trans' hpp)
          have HS_41 := Lib.hid (HS_40.out.past hpp)
          have HC_41 := Lib.hid ((let ⟨V, C, X, h1, h2⟩ := HC_40.out; ⟨V, C, X, h1.past hpp, h2⟩ : ∃ V C X, Sls _ (some ⟨u18, 0, none⟩) 2 2 V C X ∧ cat X 2 = xs ++ [x]))
          have HR_41 := Lib.hid (HR_40.out.past hpp)
          have HD_41 := Lib.hid hSl
          clear hpp hSl HSH V C X
          refine hK.out _ _ (HSK.out _ HPc41.out) (fun hH => ?_)
          clear hK K
          refine wpAnyH_ready (rs := [11]) (by kernel_rfl) (by simp) ?_
          refine AllReadyH.cons (by simp only [List.getElem?_toArray, List.getElem?_cons_succ, List.getElem?_cons_zero]; rfl) (fun K hK => ?_) AllReadyH.nil
          go_simp
          refine (HKN.out A2 c2 wc41 HD_41.out).mono ?_
          rintro e11 wc42 ⟨rfl, hpp⟩
          have HPc42 : Hid (Past w1 wc42) := Lib.hid (HPc41.out.trans' hpp)
          have HS_42 := Lib.hid (HS_41.out.past hpp)
          have HR_42 := Lib.hid (HR_41.out.past hpp)
          have HD_42 := Lib.hid (HD_41.out.past hpp)
          clear hpp
          refine hK.out _ _ (HSK.out _ HPc42.out) (fun hH => ?_)
          clear hK K
          refine held_take 12 8 (v := .tuple #[.agg cF, .bool true]) rfl rfl (by kernel_rfl) (by kernel_rfl) (by kernel_rfl) (fun _ _ _ h => h) (Or.inl ⟨by kernel_rfl, fun w _ => by kernel_rfl⟩) hH ?_
          (try dsimp only [Act.put])
          (try simp only [List.setIfInBounds_toArray, List.set_cons_zero, List.set_cons_succ])
          refine held_take 13 21 (v := .agg cF) rfl rfl (by kernel_rfl) (by kernel_rfl) (by kernel_rfl) (fun _ _ _ h => h) (Or.inl ⟨by kernel_rfl, fun w _ => by kernel_rfl⟩) hH ?_
          (try dsimp only [Act.put])
          (try simp only [List.setIfInBounds_toArray, List.set_cons_zero, List.set_cons_succ])
          refine held_take 14 22 (v := .bool true) rfl rfl (by kernel_rfl) (by kernel_rfl) (by kernel_rfl) (fun _ _ _ h => h) (Or.inl ⟨by kernel_rfl, fun w _ => by kernel_rfl⟩) hH ?_
          (try dsimp only [Act.put])
          (try simp only [List.setIfInBounds_toArray, List.set_cons_zero, List.set_cons_succ])
          refine wpAnyH_ready (rs := [16]) (by kernel_rfl) (by simp) ?_
          refine AllReadyH.cons (by simp only [List.getElem?_toArray, List.getElem?_cons_succ, List.getElem?_cons_zero]; rfl) (fun K hK => ?_) AllReadyH.nil
          refine step_wanted16 rfl ?_
          refine wp_store_row 30 (.tmp 6) (.tmp 21) rfl u6 cF rfl rfl _ _ HR_42.out HIF.out.1 HIF.out.2.1 HIF.out.2.2 ?_
          obtain ⟨wz, hwz⟩ : ∃ w', wc42.setRow u6 cF = w' := ⟨_, rfl⟩
          have HPZ : Hid (Past w1 wz) := Lib.hid (by rw [← hwz]; exact below_setRow HPc42.out HU6.out _)
          have HRZ : Hid (Row wz u6 30 cF) := Lib.hid (by rw [← hwz]; exact setRow_heap _ _ _ _ _ _ HR_42.out)
          rw [hwz]
          clear hwz
          refine hK.out _ _ (HSK.out _ HPZ.out) (fun hH => ?_)
          clear hK K
          refine held_take 17 7 (v := .bool true) rfl rfl (by kernel_rfl) (by kernel_rfl) (by kernel_rfl) (fun _ _ _ h => h) (Or.inl ⟨by kernel_rfl, fun w _ => by kernel_rfl⟩) hH ?_
          (try dsimp only [Act.put])
          (try simp only [List.setIfInBounds_toArray, List.set_cons_zero, List.set_cons_succ])
          refine wpAnyH_done (by kernel_rfl) ?_ _
          go_simp
          clear hH
          have hrz := HRZ.out
          have hif := HIF.out.1
          go_wp2_with (refine wpList_load_row rfl 30 _ rfl u6 rfl _ _ (0, 0) _ hrz Tryz.underlying30 rfl hif ?_)
          refine (HNT.out wz).mono ?_
          rintro e12 w12 ⟨rfl, hp12⟩
          have hr12 : Row w12 g 30 cz := H1.out.2.past (HPZ.out.trans' hp12)
          have HP12 : Hid (Past w w12) := Lib.hid ((H1.out.1.trans' HPZ.out).trans' hp12)
          obtain ⟨hg1, hg2, hg3⟩ := HIG.out
          clear hp12 hrz hif
          go_wp2_with (refine wpList_store_row rfl 30 _ _ rfl g _ rfl rfl _ _ hr12 hg1 hg2 hg3 ?_)
          refine bodyPost_ret (results_cell_row rfl _ _ g _ cG (0, 0) _ rfl (setRow_heap w12 g cz cG _ _ hr12) Tryz.underlying30 rfl hg1) rfl ?_
          exact HRES.out _ (below_setRow HP12.out (by have := HG.out; omega) _)
      · have hz := HZ.out
        go_simp
        obtain ⟨u6, hu⟩ : ∃ u, wc34.heap.size = u := ⟨_, rfl⟩
        obtain ⟨wc43, hwc⟩ : ∃ w', wc34.alloc (.cells cz 30) = w' := ⟨_, rfl⟩
        have hpp : Past wc34 wc43 := by rw [← hwc]; exact (Below.refl _ _).alloc (Nat.le_refl _) _
        have HPc43 : Hid (Past w1 wc43) := Lib.hid (HPc34.out.trans' hpp)
        have HS_43 := Lib.hid (HS_34.out.past hpp)
        have HC_43 := Lib.hid ((let ⟨V, C, X, h1, h2⟩ := HC_34.out; ⟨V, C, X, h1.past hpp, h2⟩ : ∃ V C X, Sls _ (some ⟨u18, 0, none⟩) 2 2 V C X ∧ cat X 2 = xs ++ [x]))
        have HR_43 : Hid (Row wc43 u6 30 cz) := Lib.hid (by rw [← hwc, ← hu]; exact Row.new _ _ _)
        have HU6 : Hid (w1.heap.size ≤ u6) := Lib.hid (by rw [← hu]; exact HPc34.out.size)
        try rw [hwc]
        try rw [hu]
        clear hwc hu hpp hz
        refine hK.out _ _ (HSK.out _ HPc43.out) (fun hH => ?_)
        clear hK K
        refine wpAnyH_ready (rs := [2]) (by kernel_rfl) (by simp) ?_
        refine AllReadyH.cons (by simp only [List.getElem?_toArray, List.getElem?_cons_succ, List.getElem?_cons_zero]; rfl) (fun K hK => ?_) AllReadyH.nil
        go_simp
        refine (HNZ.out wc43).mono ?_
        rintro e2 w2 ⟨rfl, hw2⟩
        rw [hw2]
        clear hw2
        refine hK.out _ _ (HSK.out _ HPc43.out) (fun hH => ?_)
        clear hK K
        refine wpAnyH_ready (rs := [10]) (by kernel_rfl) (by simp) ?_
        refine AllReadyH.cons (by simp only [List.getElem?_toArray, List.getElem?_cons_succ, List.getElem?_cons_zero]; rfl) (fun K hK => ?_) AllReadyH.nil
        go_simp
        obtain ⟨V, C, X, hX, hcat⟩ := HC_43.out
        have HSH := Lib.hid (hShake256_any 192 _ 2 2 V C X wc43 hX (by decide) (by rw [hcat, List.length_append, HXL.out]; simp) (by decide))
        rw [hcat, HYS.out] at HSH
        clear hX hcat
        refine HSH.out.mono ?_
        rintro e10 wc44 ⟨A2, c2, rfl, hSl, hpp⟩
        have HPc44 : Hid (Past w1 wc44) := Lib.hid (HPc43.out.trans' hpp)
        have HS_44 := Lib.hid (HS_43.out.past hpp)
        have HC_44 := Lib.hid ((let ⟨V, C, X, h1, h2⟩ := HC_43.out; ⟨V, C, X, h1.past hpp, h2⟩ : ∃ V C X, Sls _ (some ⟨u18, 0, none⟩) 2 2 V C X ∧ cat X 2 = xs ++ [x]))
        have HR_44 := Lib.hid (HR_43.out.past hpp)
        have HD_44 := Lib.hid hSl
        clear hpp hSl HSH V C X
        refine hK.out _ _ (HSK.out _ HPc44.out) (fun hH => ?_)
        clear hK K
        refine wpAnyH_ready (rs := [11]) (by kernel_rfl) (by simp) ?_
        refine AllReadyH.cons (by simp only [List.getElem?_toArray, List.getElem?_cons_succ, List.getElem?_cons_zero]; rfl) (fun K hK => ?_) AllReadyH.nil
        go_simp
        refine (HKN.out A2 c2 wc44 HD_44.out).mono ?_
        rintro e11 wc45 ⟨rfl, hpp⟩
        have HPc45 : Hid (Past w1 wc45) := Lib.hid (HPc44.out.trans' hpp)
        have HS_45 := Lib.hid (HS_44.out.past hpp)
        have HR_45 := Lib.hid (HR_44.out.past hpp)
        have HD_45 := Lib.hid (HD_44.out.past hpp)
        clear hpp
        refine hK.out _ _ (HSK.out _ HPc45.out) (fun hH => ?_)
        clear hK K
        refine held_take 12 8 (v := .tuple #[.agg cF, .bool true]) rfl rfl (by kernel_rfl) (by kernel_rfl) (by kernel_rfl) (fun _ _ _ h => h) (Or.inl ⟨by kernel_rfl, fun w _ => by kernel_rfl⟩) hH ?_
        (try dsimp only [Act.put])
        (try simp only [List.setIfInBounds_toArray, List.set_cons_zero, List.set_cons_succ])
        refine held_take 13 21 (v := .agg cF) rfl rfl (by kernel_rfl) (by kernel_rfl) (by kernel_rfl) (fun _ _ _ h => h) (Or.inl ⟨by kernel_rfl, fun w _ => by kernel_rfl⟩) hH ?_
        (try dsimp only [Act.put])
        (try simp only [List.setIfInBounds_toArray, List.set_cons_zero, List.set_cons_succ])
        refine held_take 14 22 (v := .bool true) rfl rfl (by kernel_rfl) (by kernel_rfl) (by kernel_rfl) (fun _ _ _ h => h) (Or.inl ⟨by kernel_rfl, fun w _ => by kernel_rfl⟩) hH ?_
        (try dsimp only [Act.put])
        (try simp only [List.setIfInBounds_toArray, List.set_cons_zero, List.set_cons_succ])
        refine wpAnyH_ready (rs := [16]) (by kernel_rfl) (by simp) ?_
        refine AllReadyH.cons (by simp only [List.getElem?_toArray, List.getElem?_cons_succ, List.getElem?_cons_zero]; rfl) (fun K hK => ?_) AllReadyH.nil
        refine step_wanted16 rfl ?_
        refine wp_store_row 30 (.tmp 6) (.tmp 21) rfl u6 cF rfl rfl _ _ HR_45.out HIF.out.1 HIF.out.2.1 HIF.out.2.2 ?_
        obtain ⟨wz, hwz⟩ : ∃ w', wc45.setRow u6 cF = w' := ⟨_, rfl⟩
        have HPZ : Hid (Past w1 wz) := Lib.hid (by rw [← hwz]; exact below_setRow HPc45.out HU6.out _)
        have HRZ : Hid (Row wz u6 30 cF) := Lib.hid (by rw [← hwz]; exact setRow_heap _ _ _ _ _ _ HR_45.out)
        rw [hwz]
        clear hwz
        refine hK.out _ _ (HSK.out _ HPZ.out) (fun hH => ?_)
        clear hK K
        refine held_take 17 7 (v := .bool true) rfl rfl (by kernel_rfl) (by kernel_rfl) (by kernel_rfl) (fun _ _ _ h => h) (Or.inl ⟨by kernel_rfl, fun w _ => by kernel_rfl⟩) hH ?_
        (try dsimp only [Act.put])
        (try simp only [List.setIfInBounds_toArray, List.set_cons_zero, List.set_cons_succ])
        refine wpAnyH_done (by kernel_rfl) ?_ _
        go_simp
        clear hH
        have hrz := HRZ.out
        have hif := HIF.out.1
        go_wp2_with (refine wpList_load_row rfl 30 _ rfl u6 rfl _ _ (0, 0) _ hrz Tryz.underlying30 rfl hif ?_)
        refine (HNT.out wz).mono ?_
        rintro e12 w12 ⟨rfl, hp12⟩
        have hr12 : Row w12 g 30 cz := H1.out.2.past (HPZ.out.trans' hp12)
        have HP12 : Hid (Past w w12) := Lib.hid ((H1.out.1.trans' HPZ.out).trans' hp12)
        obtain ⟨hg1, hg2, hg3⟩ := HIG.out
        clear hp12 hrz hif
        go_wp2_with (refine wpList_store_row rfl 30 _ _ rfl g _ rfl rfl _ _ hr12 hg1 hg2 hg3 ?_)
        refine bodyPost_ret (results_cell_row rfl _ _ g _ cG (0, 0) _ rfl (setRow_heap w12 g cz cG _ _ hr12) Tryz.underlying30 rfl hg1) rfl ?_
        exact HRES.out _ (below_setRow HP12.out (by have := HG.out; omega) _)
    · have hz := HZ.out
      go_simp
      obtain ⟨u6, hu⟩ : ∃ u, wc20.heap.size = u := ⟨_, rfl⟩
      obtain ⟨wc46, hwc⟩ : ∃ w', wc20.alloc (.cells cz 30) = w' := ⟨_, rfl⟩
      have hpp : Past wc20 wc46 := by rw [← hwc]; exact (Below.refl _ _).alloc (Nat.le_refl _) _
      have HPc46 : Hid (Past w1 wc46) := Lib.hid (HPc20.out.trans' hpp)
      have HS_46 := Lib.hid (HS_20.out.past hpp)
      have HB_46 := Lib.hid (HB_20.out.past hpp)
      have HR_46 : Hid (Row wc46 u6 30 cz) := Lib.hid (by rw [← hwc, ← hu]; exact Row.new _ _ _)
      have HU6 : Hid (w1.heap.size ≤ u6) := Lib.hid (by rw [← hu]; exact HPc20.out.size)
      try rw [hwc]
      try rw [hu]
      clear hwc hu hpp hz
      refine hK.out _ _ (HSK.out _ HPc46.out) (fun hH => ?_)
      clear hK K
      refine wpAnyH_ready (rs := [2, 9]) (by kernel_rfl) (by simp) ?_
      refine AllReadyH.cons (by simp only [List.getElem?_toArray, List.getElem?_cons_succ, List.getElem?_cons_zero]; rfl) (fun K hK => ?_) (AllReadyH.cons (by simp only [List.getElem?_toArray, List.getElem?_cons_succ, List.getElem?_cons_zero]; rfl) (fun K hK => ?_) AllReadyH.nil)
      · go_simp
        refine (HNZ.out wc46).mono ?_
        rintro e2 w2 ⟨rfl, hw2⟩
        rw [hw2]
        clear hw2
        refine hK.out _ _ (HSK.out _ HPc46.out) (fun hH => ?_)
        clear hK K
        refine wpAnyH_ready (rs := [9]) (by kernel_rfl) (by simp) ?_
        refine AllReadyH.cons (by simp only [List.getElem?_toArray, List.getElem?_cons_succ, List.getElem?_cons_zero]; rfl) (fun K hK => ?_) AllReadyH.nil
        go_simp
        obtain ⟨u18, hu⟩ : ∃ u, wc46.heap.size = u := ⟨_, rfl⟩
        obtain ⟨wc47, hwc⟩ : ∃ w', wc46.alloc (.cells #[.slice A 32 c, .slice (some ⟨u17, 0, none⟩) 1 1] 25) = w' := ⟨_, rfl⟩
        have hpp : Past wc46 wc47 := by rw [← hwc]; exact (Below.refl _ _).alloc (Nat.le_refl _) _
        have HPc47 : Hid (Past w1 wc47) := Lib.hid (HPc46.out.trans' hpp)
        have HS_47 := Lib.hid (HS_46.out.past hpp)
        have HB_47 := Lib.hid (HB_46.out.past hpp)
        have HR_47 := Lib.hid (HR_46.out.past hpp)
        have HC_47 : Hid (∃ V C X, Sls wc47 (some ⟨u18, 0, none⟩) 2 2 V C X ∧ cat X 2 = xs ++ [x]) := Lib.hid (by
          obtain ⟨V, C, X, hX, hc⟩ := sls_row wc46 2 [(A, 32, c, xs), (some ⟨u17, 0, none⟩, 1, 1, [x])] rfl (by decide) 25 (by intro y hy; simp at hy; rcases hy with rfl | rfl; exact HS_46.out; exact HB_46.out) (by decide)
          rw [← hwc, ← hu]
          exact ⟨V, C, X, hX, by rw [hc]; simp⟩)
        try rw [hwc]
        try rw [hu]
        clear hwc hu hpp
        refine hK.out _ _ (HSK.out _ HPc47.out) (fun hH => ?_)
        clear hK K
        refine wpAnyH_ready (rs := [10]) (by kernel_rfl) (by simp) ?_
        refine AllReadyH.cons (by simp only [List.getElem?_toArray, List.getElem?_cons_succ, List.getElem?_cons_zero]; rfl) (fun K hK => ?_) AllReadyH.nil
        go_simp
        obtain ⟨V, C, X, hX, hcat⟩ := HC_47.out
        have HSH := Lib.hid (hShake256_any 192 _ 2 2 V C X wc47 hX (by decide) (by rw [hcat, List.length_append, HXL.out]; simp) (by decide))
        rw [hcat, HYS.out] at HSH
        clear hX hcat
        refine HSH.out.mono ?_
        rintro e10 wc48 ⟨A2, c2, rfl, hSl, hpp⟩
        have HPc48 : Hid (Past w1 wc48) := Lib.hid (HPc47.out.trans' hpp)
        have HS_48 := Lib.hid (HS_47.out.past hpp)
        have HR_48 := Lib.hid (HR_47.out.past hpp)
        have HC_48 := Lib.hid ((let ⟨V, C, X, h1, h2⟩ := HC_47.out; ⟨V, C, X, h1.past hpp, h2⟩ : ∃ V C X, Sls _ (some ⟨u18, 0, none⟩) 2 2 V C X ∧ cat X 2 = xs ++ [x]))
        have HD_48 := Lib.hid hSl
        clear hpp hSl HSH V C X
        refine hK.out _ _ (HSK.out _ HPc48.out) (fun hH => ?_)
        clear hK K
        refine wpAnyH_ready (rs := [11]) (by kernel_rfl) (by simp) ?_
        refine AllReadyH.cons (by simp only [List.getElem?_toArray, List.getElem?_cons_succ, List.getElem?_cons_zero]; rfl) (fun K hK => ?_) AllReadyH.nil
        go_simp
        refine (HKN.out A2 c2 wc48 HD_48.out).mono ?_
        rintro e11 wc49 ⟨rfl, hpp⟩
        have HPc49 : Hid (Past w1 wc49) := Lib.hid (HPc48.out.trans' hpp)
        have HS_49 := Lib.hid (HS_48.out.past hpp)
        have HR_49 := Lib.hid (HR_48.out.past hpp)
        have HD_49 := Lib.hid (HD_48.out.past hpp)
        clear hpp
        refine hK.out _ _ (HSK.out _ HPc49.out) (fun hH => ?_)
        clear hK K
        refine held_take 12 8 (v := .tuple #[.agg cF, .bool true]) rfl rfl (by kernel_rfl) (by kernel_rfl) (by kernel_rfl) (fun _ _ _ h => h) (Or.inl ⟨by kernel_rfl, fun w _ => by kernel_rfl⟩) hH ?_
        (try dsimp only [Act.put])
        (try simp only [List.setIfInBounds_toArray, List.set_cons_zero, List.set_cons_succ])
        refine held_take 13 21 (v := .agg cF) rfl rfl (by kernel_rfl) (by kernel_rfl) (by kernel_rfl) (fun _ _ _ h => h) (Or.inl ⟨by kernel_rfl, fun w _ => by kernel_rfl⟩) hH ?_
        (try dsimp only [Act.put])
        (try simp only [List.setIfInBounds_toArray, List.set_cons_zero, List.set_cons_succ])
        refine held_take 14 22 (v := .bool true) rfl rfl (by kernel_rfl) (by kernel_rfl) (by kernel_rfl) (fun _ _ _ h => h) (Or.inl ⟨by kernel_rfl, fun w _ => by kernel_rfl⟩) hH ?_
        (try dsimp only [Act.put])
        (try simp only [List.setIfInBounds_toArray, List.set_cons_zero, List.set_cons_succ])
        refine wpAnyH_ready (rs := [16]) (by kernel_rfl) (by simp) ?_
        refine AllReadyH.cons (by simp only [List.getElem?_toArray, List.getElem?_cons_succ, List.getElem?_cons_zero]; rfl) (fun K hK => ?_) AllReadyH.nil
        refine step_wanted16 rfl ?_
        refine wp_store_row 30 (.tmp 6) (.tmp 21) rfl u6 cF rfl rfl _ _ HR_49.out HIF.out.1 HIF.out.2.1 HIF.out.2.2 ?_
        obtain ⟨wz, hwz⟩ : ∃ w', wc49.setRow u6 cF = w' := ⟨_, rfl⟩
        have HPZ : Hid (Past w1 wz) := Lib.hid (by rw [← hwz]; exact below_setRow HPc49.out HU6.out _)
        have HRZ : Hid (Row wz u6 30 cF) := Lib.hid (by rw [← hwz]; exact setRow_heap _ _ _ _ _ _ HR_49.out)
        rw [hwz]
        clear hwz
        refine hK.out _ _ (HSK.out _ HPZ.out) (fun hH => ?_)
        clear hK K
        refine held_take 17 7 (v := .bool true) rfl rfl (by kernel_rfl) (by kernel_rfl) (by kernel_rfl) (fun _ _ _ h => h) (Or.inl ⟨by kernel_rfl, fun w _ => by kernel_rfl⟩) hH ?_
        (try dsimp only [Act.put])
        (try simp only [List.setIfInBounds_toArray, List.set_cons_zero, List.set_cons_succ])
        refine wpAnyH_done (by kernel_rfl) ?_ _
        go_simp
        clear hH
        have hrz := HRZ.out
        have hif := HIF.out.1
        go_wp2_with (refine wpList_load_row rfl 30 _ rfl u6 rfl _ _ (0, 0) _ hrz Tryz.underlying30 rfl hif ?_)
        refine (HNT.out wz).mono ?_
        rintro e12 w12 ⟨rfl, hp12⟩
        have hr12 : Row w12 g 30 cz := H1.out.2.past (HPZ.out.trans' hp12)
        have HP12 : Hid (Past w w12) := Lib.hid ((H1.out.1.trans' HPZ.out).trans' hp12)
        obtain ⟨hg1, hg2, hg3⟩ := HIG.out
        clear hp12 hrz hif
        go_wp2_with (refine wpList_store_row rfl 30 _ _ rfl g _ rfl rfl _ _ hr12 hg1 hg2 hg3 ?_)
        refine bodyPost_ret (results_cell_row rfl _ _ g _ cG (0, 0) _ rfl (setRow_heap w12 g cz cG _ _ hr12) Tryz.underlying30 rfl hg1) rfl ?_
        exact HRES.out _ (below_setRow HP12.out (by have := HG.out; omega) _)
      · go_simp
        obtain ⟨u18, hu⟩ : ∃ u, wc46.heap.size = u := ⟨_, rfl⟩
        obtain ⟨wc50, hwc⟩ : ∃ w', wc46.alloc (.cells #[.slice A 32 c, .slice (some ⟨u17, 0, none⟩) 1 1] 25) = w' := ⟨_, rfl⟩
        have hpp : Past wc46 wc50 := by rw [← hwc]; exact (Below.refl _ _).alloc (Nat.le_refl _) _
        have HPc50 : Hid (Past w1 wc50) := Lib.hid (HPc46.out.trans' hpp)
        have HS_50 := Lib.hid (HS_46.out.past hpp)
        have HB_50 := Lib.hid (HB_46.out.past hpp)
        have HR_50 := Lib.hid (HR_46.out.past hpp)
        have HC_50 : Hid (∃ V C X, Sls wc50 (some ⟨u18, 0, none⟩) 2 2 V C X ∧ cat X 2 = xs ++ [x]) := Lib.hid (by
          obtain ⟨V, C, X, hX, hc⟩ := sls_row wc46 2 [(A, 32, c, xs), (some ⟨u17, 0, none⟩, 1, 1, [x])] rfl (by decide) 25 (by intro y hy; simp at hy; rcases hy with rfl | rfl; exact HS_46.out; exact HB_46.out) (by decide)
          rw [← hwc, ← hu]
          exact ⟨V, C, X, hX, by rw [hc]; simp⟩)
        try rw [hwc]
        try rw [hu]
        clear hwc hu hpp
        refine hK.out _ _ (HSK.out _ HPc50.out) (fun hH => ?_)
        clear hK K
        refine wpAnyH_ready (rs := [2]) (by kernel_rfl) (by simp) ?_
        refine AllReadyH.cons (by simp only [List.getElem?_toArray, List.getElem?_cons_succ, List.getElem?_cons_zero]; rfl) (fun K hK => ?_) AllReadyH.nil
        go_simp
        refine (HNZ.out wc50).mono ?_
        rintro e2 w2 ⟨rfl, hw2⟩
        rw [hw2]
        clear hw2
        refine hK.out _ _ (HSK.out _ HPc50.out) (fun hH => ?_)
        clear hK K
        refine wpAnyH_ready (rs := [10]) (by kernel_rfl) (by simp) ?_
        refine AllReadyH.cons (by simp only [List.getElem?_toArray, List.getElem?_cons_succ, List.getElem?_cons_zero]; rfl) (fun K hK => ?_) AllReadyH.nil
        go_simp
        obtain ⟨V, C, X, hX, hcat⟩ := HC_50.out
        have HSH := Lib.hid (hShake256_any 192 _ 2 2 V C X wc50 hX (by decide) (by rw [hcat, List.length_append, HXL.out]; simp) (by decide))
        rw [hcat, HYS.out] at HSH
        clear hX hcat
        refine HSH.out.mono ?_
        rintro e10 wc51 ⟨A2, c2, rfl, hSl, hpp⟩
        have HPc51 : Hid (Past w1 wc51) := Lib.hid (HPc50.out.trans' hpp)
        have HS_51 := Lib.hid (HS_50.out.past hpp)
        have HR_51 := Lib.hid (HR_50.out.past hpp)
        have HC_51 := Lib.hid ((let ⟨V, C, X, h1, h2⟩ := HC_50.out; ⟨V, C, X, h1.past hpp, h2⟩ : ∃ V C X, Sls _ (some ⟨u18, 0, none⟩) 2 2 V C X ∧ cat X 2 = xs ++ [x]))
        have HD_51 := Lib.hid hSl
        clear hpp hSl HSH V C X
        refine hK.out _ _ (HSK.out _ HPc51.out) (fun hH => ?_)
        clear hK K
        refine wpAnyH_ready (rs := [11]) (by kernel_rfl) (by simp) ?_
        refine AllReadyH.cons (by simp only [List.getElem?_toArray, List.getElem?_cons_succ, List.getElem?_cons_zero]; rfl) (fun K hK => ?_) AllReadyH.nil
        go_simp
        refine (HKN.out A2 c2 wc51 HD_51.out).mono ?_
        rintro e11 wc52 ⟨rfl, hpp⟩
        have HPc52 : Hid (Past w1 wc52) := Lib.hid (HPc51.out.trans' hpp)
        have HS_52 := Lib.hid (HS_51.out.past hpp)
        have HR_52 := Lib.hid (HR_51.out.past hpp)
        have HD_52 := Lib.hid (HD_51.out.past hpp)
        clear hpp
        refine hK.out _ _ (HSK.out _ HPc52.out) (fun hH => ?_)
        clear hK K
        refine held_take 12 8 (v := .tuple #[.agg cF, .bool true]) rfl rfl (by kernel_rfl) (by kernel_rfl) (by kernel_rfl) (fun _ _ _ h => h) (Or.inl ⟨by kernel_rfl, fun w _ => by kernel_rfl⟩) hH ?_
        (try dsimp only [Act.put])
        (try simp only [List.setIfInBounds_toArray, List.set_cons_zero, List.set_cons_succ])
        refine held_take 13 21 (v := .agg cF) rfl rfl (by kernel_rfl) (by kernel_rfl) (by kernel_rfl) (fun _ _ _ h => h) (Or.inl ⟨by kernel_rfl, fun w _ => by kernel_rfl⟩) hH ?_
        (try dsimp only [Act.put])
        (try simp only [List.setIfInBounds_toArray, List.set_cons_zero, List.set_cons_succ])
        refine held_take 14 22 (v := .bool true) rfl rfl (by kernel_rfl) (by kernel_rfl) (by kernel_rfl) (fun _ _ _ h => h) (Or.inl ⟨by kernel_rfl, fun w _ => by kernel_rfl⟩) hH ?_
        (try dsimp only [Act.put])
        (try simp only [List.setIfInBounds_toArray, List.set_cons_zero, List.set_cons_succ])
        refine wpAnyH_ready (rs := [16]) (by kernel_rfl) (by simp) ?_
        refine AllReadyH.cons (by simp only [List.getElem?_toArray, List.getElem?_cons_succ, List.getElem?_cons_zero]; rfl) (fun K hK => ?_) AllReadyH.nil
        refine step_wanted16 rfl ?_
        refine wp_store_row 30 (.tmp 6) (.tmp 21) rfl u6 cF rfl rfl _ _ HR_52.out HIF.out.1 HIF.out.2.1 HIF.out.2.2 ?_
        obtain ⟨wz, hwz⟩ : ∃ w', wc52.setRow u6 cF = w' := ⟨_, rfl⟩
        have HPZ : Hid (Past w1 wz) := Lib.hid (by rw [← hwz]; exact below_setRow HPc52.out HU6.out _)
        have HRZ : Hid (Row wz u6 30 cF) := Lib.hid (by rw [← hwz]; exact setRow_heap _ _ _ _ _ _ HR_52.out)
        rw [hwz]
        clear hwz
        refine hK.out _ _ (HSK.out _ HPZ.out) (fun hH => ?_)
        clear hK K
        refine held_take 17 7 (v := .bool true) rfl rfl (by kernel_rfl) (by kernel_rfl) (by kernel_rfl) (fun _ _ _ h => h) (Or.inl ⟨by kernel_rfl, fun w _ => by kernel_rfl⟩) hH ?_
        (try dsimp only [Act.put])
        (try simp only [List.setIfInBounds_toArray, List.set_cons_zero, List.set_cons_succ])
        refine wpAnyH_done (by kernel_rfl) ?_ _
        go_simp
        clear hH
        have hrz := HRZ.out
        have hif := HIF.out.1
        go_wp2_with (refine wpList_load_row rfl 30 _ rfl u6 rfl _ _ (0, 0) _ hrz Tryz.underlying30 rfl hif ?_)
        refine (HNT.out wz).mono ?_
        rintro e12 w12 ⟨rfl, hp12⟩
        have hr12 : Row w12 g 30 cz := H1.out.2.past (HPZ.out.trans' hp12)
        have HP12 : Hid (Past w w12) := Lib.hid ((H1.out.1.trans' HPZ.out).trans' hp12)
        obtain ⟨hg1, hg2, hg3⟩ := HIG.out
        clear hp12 hrz hif
        go_wp2_with (refine wpList_store_row rfl 30 _ _ rfl g _ rfl rfl _ _ hr12 hg1 hg2 hg3 ?_)
        refine bodyPost_ret (results_cell_row rfl _ _ g _ cG (0, 0) _ rfl (setRow_heap w12 g cz cG _ _ hr12) Tryz.underlying30 rfl hg1) rfl ?_
        exact HRES.out _ (below_setRow HP12.out (by have := HG.out; omega) _)
  · have hz := HZ.out
    go_simp
    obtain ⟨u6, hu⟩ : ∃ u, wd.heap.size = u := ⟨_, rfl⟩
    obtain ⟨wc53, hwc⟩ : ∃ w', wd.alloc (.cells cz 30) = w' := ⟨_, rfl⟩
    have hpp : Past wd wc53 := by rw [← hwc]; exact (Below.refl _ _).alloc (Nat.le_refl _) _
    have HPc53 : Hid (Past w1 wc53) := Lib.hid (HPD.out.trans' hpp)
    have HS_53 := Lib.hid (HS_0.out.past hpp)
    have HR_53 : Hid (Row wc53 u6 30 cz) := Lib.hid (by rw [← hwc, ← hu]; exact Row.new _ _ _)
    have HU6 : Hid (w1.heap.size ≤ u6) := Lib.hid (by rw [← hu]; exact HPD.out.size)
    try rw [hwc]
    try rw [hu]
    clear hwc hu hpp hz
    refine hK.out _ _ (HSK.out _ HPc53.out) (fun hH => ?_)
    clear hK K
    refine wpAnyH_ready (rs := [2, 8]) (by kernel_rfl) (by simp) ?_
    refine AllReadyH.cons (by simp only [List.getElem?_toArray, List.getElem?_cons_succ, List.getElem?_cons_zero]; rfl) (fun K hK => ?_) (AllReadyH.cons (by simp only [List.getElem?_toArray, List.getElem?_cons_succ, List.getElem?_cons_zero]; rfl) (fun K hK => ?_) AllReadyH.nil)
    · go_simp
      refine (HNZ.out wc53).mono ?_
      rintro e2 w2 ⟨rfl, hw2⟩
      rw [hw2]
      clear hw2
      refine hK.out _ _ (HSK.out _ HPc53.out) (fun hH => ?_)
      clear hK K
      refine wpAnyH_ready (rs := [8]) (by kernel_rfl) (by simp) ?_
      refine AllReadyH.cons (by simp only [List.getElem?_toArray, List.getElem?_cons_succ, List.getElem?_cons_zero]; rfl) (fun K hK => ?_) AllReadyH.nil
      go_simp
      obtain ⟨u17, hu⟩ : ∃ u, wc53.heap.size = u := ⟨_, rfl⟩
      obtain ⟨wc54, hwc⟩ : ∃ w', wc53.alloc (.cells #[.int .u8 x] 5) = w' := ⟨_, rfl⟩
      have hpp : Past wc53 wc54 := by rw [← hwc]; exact (Below.refl _ _).alloc (Nat.le_refl _) _
      have HPc54 : Hid (Past w1 wc54) := Lib.hid (HPc53.out.trans' hpp)
      have HS_54 := Lib.hid (HS_53.out.past hpp)
      have HR_54 := Lib.hid (HR_53.out.past hpp)
      have HB_54 : Hid (Sl wc54 (some ⟨u17, 0, none⟩) 1 1 [x]) := Lib.hid (by rw [← hwc, ← hu]; exact sl_one16 _ _ HXR.out)
      try rw [hwc]
      try rw [hu]
      clear hwc hu hpp
      refine hK.out _ _ (HSK.out _ HPc54.out) (fun hH => ?_)
      clear hK K
      refine wpAnyH_ready (rs := [9]) (by kernel_rfl) (by simp) ?_
      refine AllReadyH.cons (by simp only [List.getElem?_toArray, List.getElem?_cons_succ, List.getElem?_cons_zero]; rfl) (fun K hK => ?_) AllReadyH.nil
      go_simp
      obtain ⟨u18, hu⟩ : ∃ u, wc54.heap.size = u := ⟨_, rfl⟩
      obtain ⟨wc55, hwc⟩ : ∃ w', wc54.alloc (.cells #[.slice A 32 c, .slice (some ⟨u17, 0, none⟩) 1 1] 25) = w' := ⟨_, rfl⟩
      have hpp : Past wc54 wc55 := by rw [← hwc]; exact (Below.refl _ _).alloc (Nat.le_refl _) _
      have HPc55 : Hid (Past w1 wc55) := Lib.hid (HPc54.out.trans' hpp)
      have HS_55 := Lib.hid (HS_54.out.past hpp)
      have HR_55 := Lib.hid (HR_54.out.past hpp)
      have HB_55 := Lib.hid (HB_54.out.past hpp)
      have HC_55 : Hid (∃ V C X, Sls wc55 (some ⟨u18, 0, none⟩) 2 2 V C X ∧ cat X 2 = xs ++ [x]) := Lib.hid (by
        obtain ⟨V, C, X, hX, hc⟩ := sls_row wc54 2 [(A, 32, c, xs), (some ⟨u17, 0, none⟩, 1, 1, [x])] rfl (by decide) 25 (by intro y hy; simp at hy; rcases hy with rfl | rfl; exact HS_54.out; exact HB_54.out) (by decide)
        rw [← hwc, ← hu]
        exact ⟨V, C, X, hX, by rw [hc]; simp⟩)
      try rw [hwc]
      try rw [hu]
      clear hwc hu hpp
      refine hK.out _ _ (HSK.out _ HPc55.out) (fun hH => ?_)
      clear hK K
      refine wpAnyH_ready (rs := [10]) (by kernel_rfl) (by simp) ?_
      refine AllReadyH.cons (by simp only [List.getElem?_toArray, List.getElem?_cons_succ, List.getElem?_cons_zero]; rfl) (fun K hK => ?_) AllReadyH.nil
      go_simp
      obtain ⟨V, C, X, hX, hcat⟩ := HC_55.out
      have HSH := Lib.hid (hShake256_any 192 _ 2 2 V C X wc55 hX (by decide) (by rw [hcat, List.length_append, HXL.out]; simp) (by decide))
      rw [hcat, HYS.out] at HSH
      clear hX hcat
      refine HSH.out.mono ?_
      rintro e10 wc56 ⟨A2, c2, rfl, hSl, hpp⟩
      have HPc56 : Hid (Past w1 wc56) := Lib.hid (HPc55.out.trans' hpp)
      have HS_56 := Lib.hid (HS_55.out.past hpp)
      have HR_56 := Lib.hid (HR_55.out.past hpp)
      have HC_56 := Lib.hid ((let ⟨V, C, X, h1, h2⟩ := HC_55.out; ⟨V, C, X, h1.past hpp, h2⟩ : ∃ V C X, Sls _ (some ⟨u18, 0, none⟩) 2 2 V C X ∧ cat X 2 = xs ++ [x]))
      have HD_56 := Lib.hid hSl
      clear hpp hSl HSH V C X
      refine hK.out _ _ (HSK.out _ HPc56.out) (fun hH => ?_)
      clear hK K
      refine wpAnyH_ready (rs := [11]) (by kernel_rfl) (by simp) ?_
      refine AllReadyH.cons (by simp only [List.getElem?_toArray, List.getElem?_cons_succ, List.getElem?_cons_zero]; rfl) (fun K hK => ?_) AllReadyH.nil
      go_simp
      refine (HKN.out A2 c2 wc56 HD_56.out).mono ?_
      rintro e11 wc57 ⟨rfl, hpp⟩
      have HPc57 : Hid (Past w1 wc57) := Lib.hid (HPc56.out.trans' hpp)
      have HS_57 := Lib.hid (HS_56.out.past hpp)
      have HR_57 := Lib.hid (HR_56.out.past hpp)
      have HD_57 := Lib.hid (HD_56.out.past hpp)
      clear hpp
      refine hK.out _ _ (HSK.out _ HPc57.out) (fun hH => ?_)
      clear hK K
      refine held_take 12 8 (v := .tuple #[.agg cF, .bool true]) rfl rfl (by kernel_rfl) (by kernel_rfl) (by kernel_rfl) (fun _ _ _ h => h) (Or.inl ⟨by kernel_rfl, fun w _ => by kernel_rfl⟩) hH ?_
      (try dsimp only [Act.put])
      (try simp only [List.setIfInBounds_toArray, List.set_cons_zero, List.set_cons_succ])
      refine held_take 13 21 (v := .agg cF) rfl rfl (by kernel_rfl) (by kernel_rfl) (by kernel_rfl) (fun _ _ _ h => h) (Or.inl ⟨by kernel_rfl, fun w _ => by kernel_rfl⟩) hH ?_
      (try dsimp only [Act.put])
      (try simp only [List.setIfInBounds_toArray, List.set_cons_zero, List.set_cons_succ])
      refine held_take 14 22 (v := .bool true) rfl rfl (by kernel_rfl) (by kernel_rfl) (by kernel_rfl) (fun _ _ _ h => h) (Or.inl ⟨by kernel_rfl, fun w _ => by kernel_rfl⟩) hH ?_
      (try dsimp only [Act.put])
      (try simp only [List.setIfInBounds_toArray, List.set_cons_zero, List.set_cons_succ])
      refine wpAnyH_ready (rs := [16]) (by kernel_rfl) (by simp) ?_
      refine AllReadyH.cons (by simp only [List.getElem?_toArray, List.getElem?_cons_succ, List.getElem?_cons_zero]; rfl) (fun K hK => ?_) AllReadyH.nil
      refine step_wanted16 rfl ?_
      refine wp_store_row 30 (.tmp 6) (.tmp 21) rfl u6 cF rfl rfl _ _ HR_57.out HIF.out.1 HIF.out.2.1 HIF.out.2.2 ?_
      obtain ⟨wz, hwz⟩ : ∃ w', wc57.setRow u6 cF = w' := ⟨_, rfl⟩
      have HPZ : Hid (Past w1 wz) := Lib.hid (by rw [← hwz]; exact below_setRow HPc57.out HU6.out _)
      have HRZ : Hid (Row wz u6 30 cF) := Lib.hid (by rw [← hwz]; exact setRow_heap _ _ _ _ _ _ HR_57.out)
      rw [hwz]
      clear hwz
      refine hK.out _ _ (HSK.out _ HPZ.out) (fun hH => ?_)
      clear hK K
      refine held_take 17 7 (v := .bool true) rfl rfl (by kernel_rfl) (by kernel_rfl) (by kernel_rfl) (fun _ _ _ h => h) (Or.inl ⟨by kernel_rfl, fun w _ => by kernel_rfl⟩) hH ?_
      (try dsimp only [Act.put])
      (try simp only [List.setIfInBounds_toArray, List.set_cons_zero, List.set_cons_succ])
      refine wpAnyH_done (by kernel_rfl) ?_ _
      go_simp
      clear hH
      have hrz := HRZ.out
      have hif := HIF.out.1
      go_wp2_with (refine wpList_load_row rfl 30 _ rfl u6 rfl _ _ (0, 0) _ hrz Tryz.underlying30 rfl hif ?_)
      refine (HNT.out wz).mono ?_
      rintro e12 w12 ⟨rfl, hp12⟩
      have hr12 : Row w12 g 30 cz := H1.out.2.past (HPZ.out.trans' hp12)
      have HP12 : Hid (Past w w12) := Lib.hid ((H1.out.1.trans' HPZ.out).trans' hp12)
      obtain ⟨hg1, hg2, hg3⟩ := HIG.out
      clear hp12 hrz hif
      go_wp2_with (refine wpList_store_row rfl 30 _ _ rfl g _ rfl rfl _ _ hr12 hg1 hg2 hg3 ?_)
      refine bodyPost_ret (results_cell_row rfl _ _ g _ cG (0, 0) _ rfl (setRow_heap w12 g cz cG _ _ hr12) Tryz.underlying30 rfl hg1) rfl ?_
      exact HRES.out _ (below_setRow HP12.out (by have := HG.out; omega) _)
    · go_simp
      obtain ⟨u17, hu⟩ : ∃ u, wc53.heap.size = u := ⟨_, rfl⟩
      obtain ⟨wc58, hwc⟩ : ∃ w', wc53.alloc (.cells #[.int .u8 x] 5) = w' := ⟨_, rfl⟩
      have hpp : Past wc53 wc58 := by rw [← hwc]; exact (Below.refl _ _).alloc (Nat.le_refl _) _
      have HPc58 : Hid (Past w1 wc58) := Lib.hid (HPc53.out.trans' hpp)
      have HS_58 := Lib.hid (HS_53.out.past hpp)
      have HR_58 := Lib.hid (HR_53.out.past hpp)
      have HB_58 : Hid (Sl wc58 (some ⟨u17, 0, none⟩) 1 1 [x]) := Lib.hid (by rw [← hwc, ← hu]; exact sl_one16 _ _ HXR.out)
      try rw [hwc]
      try rw [hu]
      clear hwc hu hpp
      refine hK.out _ _ (HSK.out _ HPc58.out) (fun hH => ?_)
      clear hK K
      refine wpAnyH_ready (rs := [2, 9]) (by kernel_rfl) (by simp) ?_
      refine AllReadyH.cons (by simp only [List.getElem?_toArray, List.getElem?_cons_succ, List.getElem?_cons_zero]; rfl) (fun K hK => ?_) (AllReadyH.cons (by simp only [List.getElem?_toArray, List.getElem?_cons_succ, List.getElem?_cons_zero]; rfl) (fun K hK => ?_) AllReadyH.nil)
      · go_simp
        refine (HNZ.out wc58).mono ?_
        rintro e2 w2 ⟨rfl, hw2⟩
        rw [hw2]
        clear hw2
        refine hK.out _ _ (HSK.out _ HPc58.out) (fun hH => ?_)
        clear hK K
        refine wpAnyH_ready (rs := [9]) (by kernel_rfl) (by simp) ?_
        refine AllReadyH.cons (by simp only [List.getElem?_toArray, List.getElem?_cons_succ, List.getElem?_cons_zero]; rfl) (fun K hK => ?_) AllReadyH.nil
        go_simp
        obtain ⟨u18, hu⟩ : ∃ u, wc58.heap.size = u := ⟨_, rfl⟩
        obtain ⟨wc59, hwc⟩ : ∃ w', wc58.alloc (.cells #[.slice A 32 c, .slice (some ⟨u17, 0, none⟩) 1 1] 25) = w' := ⟨_, rfl⟩
        have hpp : Past wc58 wc59 := by rw [← hwc]; exact (Below.refl _ _).alloc (Nat.le_refl _) _
        have HPc59 : Hid (Past w1 wc59) := Lib.hid (HPc58.out.trans' hpp)
        have HS_59 := Lib.hid (HS_58.out.past hpp)
        have HR_59 := Lib.hid (HR_58.out.past hpp)
        have HB_59 := Lib.hid (HB_58.out.past hpp)
        have HC_59 : Hid (∃ V C X, Sls wc59 (some ⟨u18, 0, none⟩) 2 2 V C X ∧ cat X 2 = xs ++ [x]) := Lib.hid (by
          obtain ⟨V, C, X, hX, hc⟩ := sls_row wc58 2 [(A, 32, c, xs), (some ⟨u17, 0, none⟩, 1, 1, [x])] rfl (by decide) 25 (by intro y hy; simp at hy; rcases hy with rfl | rfl; exact HS_58.out; exact HB_58.out) (by decide)
          rw [← hwc, ← hu]
          exact ⟨V, C, X, hX, by rw [hc]; simp⟩)
        try rw [hwc]
        try rw [hu]
        clear hwc hu hpp
        refine hK.out _ _ (HSK.out _ HPc59.out) (fun hH => ?_)
        clear hK K
        refine wpAnyH_ready (rs := [10]) (by kernel_rfl) (by simp) ?_
        refine AllReadyH.cons (by simp only [List.getElem?_toArray, List.getElem?_cons_succ, List.getElem?_cons_zero]; rfl) (fun K hK => ?_) AllReadyH.nil
        go_simp
        obtain ⟨V, C, X, hX, hcat⟩ := HC_59.out
        have HSH := Lib.hid (hShake256_any 192 _ 2 2 V C X wc59 hX (by decide) (by rw [hcat, List.length_append, HXL.out]; simp) (by decide))
        rw [hcat, HYS.out] at HSH
        clear hX hcat
        refine HSH.out.mono ?_
        rintro e10 wc60 ⟨A2, c2, rfl, hSl, hpp⟩
        have HPc60 : Hid (Past w1 wc60) := Lib.hid (HPc59.out.trans' hpp)
        have HS_60 := Lib.hid (HS_59.out.past hpp)
        have HR_60 := Lib.hid (HR_59.out.past hpp)
        have HC_60 := Lib.hid ((let ⟨V, C, X, h1, h2⟩ := HC_59.out; ⟨V, C, X, h1.past hpp, h2⟩ : ∃ V C X, Sls _ (some ⟨u18, 0, none⟩) 2 2 V C X ∧ cat X 2 = xs ++ [x]))
        have HD_60 := Lib.hid hSl
        clear hpp hSl HSH V C X
        refine hK.out _ _ (HSK.out _ HPc60.out) (fun hH => ?_)
        clear hK K
        refine wpAnyH_ready (rs := [11]) (by kernel_rfl) (by simp) ?_
        refine AllReadyH.cons (by simp only [List.getElem?_toArray, List.getElem?_cons_succ, List.getElem?_cons_zero]; rfl) (fun K hK => ?_) AllReadyH.nil
        go_simp
        refine (HKN.out A2 c2 wc60 HD_60.out).mono ?_
        rintro e11 wc61 ⟨rfl, hpp⟩
        have HPc61 : Hid (Past w1 wc61) := Lib.hid (HPc60.out.trans' hpp)
        have HS_61 := Lib.hid (HS_60.out.past hpp)
        have HR_61 := Lib.hid (HR_60.out.past hpp)
        have HD_61 := Lib.hid (HD_60.out.past hpp)
        clear hpp
        refine hK.out _ _ (HSK.out _ HPc61.out) (fun hH => ?_)
        clear hK K
        refine held_take 12 8 (v := .tuple #[.agg cF, .bool true]) rfl rfl (by kernel_rfl) (by kernel_rfl) (by kernel_rfl) (fun _ _ _ h => h) (Or.inl ⟨by kernel_rfl, fun w _ => by kernel_rfl⟩) hH ?_
        (try dsimp only [Act.put])
        (try simp only [List.setIfInBounds_toArray, List.set_cons_zero, List.set_cons_succ])
        refine held_take 13 21 (v := .agg cF) rfl rfl (by kernel_rfl) (by kernel_rfl) (by kernel_rfl) (fun _ _ _ h => h) (Or.inl ⟨by kernel_rfl, fun w _ => by kernel_rfl⟩) hH ?_
        (try dsimp only [Act.put])
        (try simp only [List.setIfInBounds_toArray, List.set_cons_zero, List.set_cons_succ])
        refine held_take 14 22 (v := .bool true) rfl rfl (by kernel_rfl) (by kernel_rfl) (by kernel_rfl) (fun _ _ _ h => h) (Or.inl ⟨by kernel_rfl, fun w _ => by kernel_rfl⟩) hH ?_
        (try dsimp only [Act.put])
        (try simp only [List.setIfInBounds_toArray, List.set_cons_zero, List.set_cons_succ])
        refine wpAnyH_ready (rs := [16]) (by kernel_rfl) (by simp) ?_
        refine AllReadyH.cons (by simp only [List.getElem?_toArray, List.getElem?_cons_succ, List.getElem?_cons_zero]; rfl) (fun K hK => ?_) AllReadyH.nil
        refine step_wanted16 rfl ?_
        refine wp_store_row 30 (.tmp 6) (.tmp 21) rfl u6 cF rfl rfl _ _ HR_61.out HIF.out.1 HIF.out.2.1 HIF.out.2.2 ?_
        obtain ⟨wz, hwz⟩ : ∃ w', wc61.setRow u6 cF = w' := ⟨_, rfl⟩
        have HPZ : Hid (Past w1 wz) := Lib.hid (by rw [← hwz]; exact below_setRow HPc61.out HU6.out _)
        have HRZ : Hid (Row wz u6 30 cF) := Lib.hid (by rw [← hwz]; exact setRow_heap _ _ _ _ _ _ HR_61.out)
        rw [hwz]
        clear hwz
        refine hK.out _ _ (HSK.out _ HPZ.out) (fun hH => ?_)
        clear hK K
        refine held_take 17 7 (v := .bool true) rfl rfl (by kernel_rfl) (by kernel_rfl) (by kernel_rfl) (fun _ _ _ h => h) (Or.inl ⟨by kernel_rfl, fun w _ => by kernel_rfl⟩) hH ?_
        (try dsimp only [Act.put])
        (try simp only [List.setIfInBounds_toArray, List.set_cons_zero, List.set_cons_succ])
        refine wpAnyH_done (by kernel_rfl) ?_ _
        go_simp
        clear hH
        have hrz := HRZ.out
        have hif := HIF.out.1
        go_wp2_with (refine wpList_load_row rfl 30 _ rfl u6 rfl _ _ (0, 0) _ hrz Tryz.underlying30 rfl hif ?_)
        refine (HNT.out wz).mono ?_
        rintro e12 w12 ⟨rfl, hp12⟩
        have hr12 : Row w12 g 30 cz := H1.out.2.past (HPZ.out.trans' hp12)
        have HP12 : Hid (Past w w12) := Lib.hid ((H1.out.1.trans' HPZ.out).trans' hp12)
        obtain ⟨hg1, hg2, hg3⟩ := HIG.out
        clear hp12 hrz hif
        go_wp2_with (refine wpList_store_row rfl 30 _ _ rfl g _ rfl rfl _ _ hr12 hg1 hg2 hg3 ?_)
        refine bodyPost_ret (results_cell_row rfl _ _ g _ cG (0, 0) _ rfl (setRow_heap w12 g cz cG _ _ hr12) Tryz.underlying30 rfl hg1) rfl ?_
        exact HRES.out _ (below_setRow HP12.out (by have := HG.out; omega) _)
      · go_simp
        obtain ⟨u18, hu⟩ : ∃ u, wc58.heap.size = u := ⟨_, rfl⟩
        obtain ⟨wc62, hwc⟩ : ∃ w', wc58.alloc (.cells #[.slice A 32 c, .slice (some ⟨u17, 0, none⟩) 1 1] 25) = w' := ⟨_, rfl⟩
        have hpp : Past wc58 wc62 := by rw [← hwc]; exact (Below.refl _ _).alloc (Nat.le_refl _) _
        have HPc62 : Hid (Past w1 wc62) := Lib.hid (HPc58.out.trans' hpp)
        have HS_62 := Lib.hid (HS_58.out.past hpp)
        have HR_62 := Lib.hid (HR_58.out.past hpp)
        have HB_62 := Lib.hid (HB_58.out.past hpp)
        have HC_62 : Hid (∃ V C X, Sls wc62 (some ⟨u18, 0, none⟩) 2 2 V C X ∧ cat X 2 = xs ++ [x]) := Lib.hid (by
          obtain ⟨V, C, X, hX, hc⟩ := sls_row wc58 2 [(A, 32, c, xs), (some ⟨u17, 0, none⟩, 1, 1, [x])] rfl (by decide) 25 (by intro y hy; simp at hy; rcases hy with rfl | rfl; exact HS_58.out; exact HB_58.out) (by decide)
          rw [← hwc, ← hu]
          exact ⟨V, C, X, hX, by rw [hc]; simp⟩)
        try rw [hwc]
        try rw [hu]
        clear hwc hu hpp
        refine hK.out _ _ (HSK.out _ HPc62.out) (fun hH => ?_)
        clear hK K
        refine wpAnyH_ready (rs := [2]) (by kernel_rfl) (by simp) ?_
        refine AllReadyH.cons (by simp only [List.getElem?_toArray, List.getElem?_cons_succ, List.getElem?_cons_zero]; rfl) (fun K hK => ?_) AllReadyH.nil
        go_simp
        refine (HNZ.out wc62).mono ?_
        rintro e2 w2 ⟨rfl, hw2⟩
        rw [hw2]
        clear hw2
        refine hK.out _ _ (HSK.out _ HPc62.out) (fun hH => ?_)
        clear hK K
        refine wpAnyH_ready (rs := [10]) (by kernel_rfl) (by simp) ?_
        refine AllReadyH.cons (by simp only [List.getElem?_toArray, List.getElem?_cons_succ, List.getElem?_cons_zero]; rfl) (fun K hK => ?_) AllReadyH.nil
        go_simp
        obtain ⟨V, C, X, hX, hcat⟩ := HC_62.out
        have HSH := Lib.hid (hShake256_any 192 _ 2 2 V C X wc62 hX (by decide) (by rw [hcat, List.length_append, HXL.out]; simp) (by decide))
        rw [hcat, HYS.out] at HSH
        clear hX hcat
        refine HSH.out.mono ?_
        rintro e10 wc63 ⟨A2, c2, rfl, hSl, hpp⟩
        have HPc63 : Hid (Past w1 wc63) := Lib.hid (HPc62.out.trans' hpp)
        have HS_63 := Lib.hid (HS_62.out.past hpp)
        have HR_63 := Lib.hid (HR_62.out.past hpp)
        have HC_63 := Lib.hid ((let ⟨V, C, X, h1, h2⟩ := HC_62.out; ⟨V, C, X, h1.past hpp, h2⟩ : ∃ V C X, Sls _ (some ⟨u18, 0, none⟩) 2 2 V C X ∧ cat X 2 = xs ++ [x]))
        have HD_63 := Lib.hid hSl
        clear hpp hSl HSH V C X
        refine hK.out _ _ (HSK.out _ HPc63.out) (fun hH => ?_)
        clear hK K
        refine wpAnyH_ready (rs := [11]) (by kernel_rfl) (by simp) ?_
        refine AllReadyH.cons (by simp only [List.getElem?_toArray, List.getElem?_cons_succ, List.getElem?_cons_zero]; rfl) (fun K hK => ?_) AllReadyH.nil
        go_simp
        refine (HKN.out A2 c2 wc63 HD_63.out).mono ?_
        rintro e11 wc64 ⟨rfl, hpp⟩
        have HPc64 : Hid (Past w1 wc64) := Lib.hid (HPc63.out.trans' hpp)
        have HS_64 := Lib.hid (HS_63.out.past hpp)
        have HR_64 := Lib.hid (HR_63.out.past hpp)
        have HD_64 := Lib.hid (HD_63.out.past hpp)
        clear hpp
        refine hK.out _ _ (HSK.out _ HPc64.out) (fun hH => ?_)
        clear hK K
        refine held_take 12 8 (v := .tuple #[.agg cF, .bool true]) rfl rfl (by kernel_rfl) (by kernel_rfl) (by kernel_rfl) (fun _ _ _ h => h) (Or.inl ⟨by kernel_rfl, fun w _ => by kernel_rfl⟩) hH ?_
        (try dsimp only [Act.put])
        (try simp only [List.setIfInBounds_toArray, List.set_cons_zero, List.set_cons_succ])
        refine held_take 13 21 (v := .agg cF) rfl rfl (by kernel_rfl) (by kernel_rfl) (by kernel_rfl) (fun _ _ _ h => h) (Or.inl ⟨by kernel_rfl, fun w _ => by kernel_rfl⟩) hH ?_
        (try dsimp only [Act.put])
        (try simp only [List.setIfInBounds_toArray, List.set_cons_zero, List.set_cons_succ])
        refine held_take 14 22 (v := .bool true) rfl rfl (by kernel_rfl) (by kernel_rfl) (by kernel_rfl) (fun _ _ _ h => h) (Or.inl ⟨by kernel_rfl, fun w _ => by kernel_rfl⟩) hH ?_
        (try dsimp only [Act.put])
        (try simp only [List.setIfInBounds_toArray, List.set_cons_zero, List.set_cons_succ])
        refine wpAnyH_ready (rs := [16]) (by kernel_rfl) (by simp) ?_
        refine AllReadyH.cons (by simp only [List.getElem?_toArray, List.getElem?_cons_succ, List.getElem?_cons_zero]; rfl) (fun K hK => ?_) AllReadyH.nil
        refine step_wanted16 rfl ?_
        refine wp_store_row 30 (.tmp 6) (.tmp 21) rfl u6 cF rfl rfl _ _ HR_64.out HIF.out.1 HIF.out.2.1 HIF.out.2.2 ?_
        obtain ⟨wz, hwz⟩ : ∃ w', wc64.setRow u6 cF = w' := ⟨_, rfl⟩
        have HPZ : Hid (Past w1 wz) := Lib.hid (by rw [← hwz]; exact below_setRow HPc64.out HU6.out _)
        have HRZ : Hid (Row wz u6 30 cF) := Lib.hid (by rw [← hwz]; exact setRow_heap _ _ _ _ _ _ HR_64.out)
        rw [hwz]
        clear hwz
        refine hK.out _ _ (HSK.out _ HPZ.out) (fun hH => ?_)
        clear hK K
        refine held_take 17 7 (v := .bool true) rfl rfl (by kernel_rfl) (by kernel_rfl) (by kernel_rfl) (fun _ _ _ h => h) (Or.inl ⟨by kernel_rfl, fun w _ => by kernel_rfl⟩) hH ?_
        (try dsimp only [Act.put])
        (try simp only [List.setIfInBounds_toArray, List.set_cons_zero, List.set_cons_succ])
        refine wpAnyH_done (by kernel_rfl) ?_ _
        go_simp
        clear hH
        have hrz := HRZ.out
        have hif := HIF.out.1
        go_wp2_with (refine wpList_load_row rfl 30 _ rfl u6 rfl _ _ (0, 0) _ hrz Tryz.underlying30 rfl hif ?_)
        refine (HNT.out wz).mono ?_
        rintro e12 w12 ⟨rfl, hp12⟩
        have hr12 : Row w12 g 30 cz := H1.out.2.past (HPZ.out.trans' hp12)
        have HP12 : Hid (Past w w12) := Lib.hid ((H1.out.1.trans' HPZ.out).trans' hp12)
        obtain ⟨hg1, hg2, hg3⟩ := HIG.out
        clear hp12 hrz hif
        go_wp2_with (refine wpList_store_row rfl 30 _ _ rfl g _ rfl rfl _ _ hr12 hg1 hg2 hg3 ?_)
        refine bodyPost_ret (results_cell_row rfl _ _ g _ cG (0, 0) _ rfl (setRow_heap w12 g cz cG _ _ hr12) Tryz.underlying30 rfl hg1) rfl ?_
        exact HRES.out _ (below_setRow HP12.out (by have := HG.out; omega) _)
end Go.Proofs.YtalhdalmafhofaaGreatDoor

namespace Go.Proofs.YtalhdalmafhofaaGreatDoor
open Go.RowKit
set_option linter.unusedVariables false
set_option maxRecDepth 100000
set_option maxHeartbeats 4000000

theorem noises_any (first : Nat) (A : Option Addr) (c : Nat) (xs : List Int) (w : World) (hS : Sl w A 32 c xs) (hG : Glob13 w) (hf : first ≤ 2) :
    Calls Tryz.prog 22 #[.int .i64 1, .slice A 32 c, .int .i64 (first : Int)] w fun r w' => ∃ v, r = .returned v ∧ RowsP w.heap.size w' v 2 ∧ Past w w' := by
  have hent : ∀ args w, (callFunc 35 args).run Tryz.prog w = .ok (.enter 35 args) w := enters_of Tryz.func35 (by kernel_rfl) rfl
  have HENT := Lib.hid hent
  have HF := Lib.hid hf
  have HWD : Hid (∀ w, Calls Tryz.prog 34 #[.int .i64 1] w fun r w' => r = .returned (.int .i64 3) ∧ w' = w) := Lib.hid (fun w => width_any 1 w)
  have HRK : Hid (∀ w', Past w w' → Calls Tryz.prog 20 #[.int .i64 1] w' fun r w'' => r = .returned (.int .i64 2) ∧ Past w' w'') := Lib.hid (fun w' hp => rank_any 1 w' (hG.past hp))
  obtain ⟨g, hg⟩ : ∃ g, w.heap.size = g := ⟨_, rfl⟩
  obtain ⟨w1, hw1⟩ : ∃ w', w.alloc (.cells #[.slice A 32 c] 25) = w' := ⟨_, rfl⟩
  obtain ⟨w2, hw2⟩ : ∃ w', w1.alloc (.cells #[.int .i64 (first : Int)] 3) = w' := ⟨_, rfl⟩
  have hp1 : Past w w1 := by rw [← hw1]; exact (Below.refl _ _).alloc (Nat.le_refl _) _
  have hp2 : Past w1 w2 := by rw [← hw2]; exact (Below.refl _ _).alloc (Nat.le_refl _) _
  have hr1 : Row w1 g 25 #[.slice A 32 c] := by rw [← hw1, ← hg]; exact Row.new _ _ _
  have hs1 : w1.heap.size = g + 1 := by rw [← hw1, ← hg]; simp [World.size_alloc]
  have hr2 : Row w2 (g + 1) 3 #[.int .i64 (first : Int)] := by rw [← hw2, ← hs1]; exact Row.new _ _ _
  have hs2 : w2.heap.size = g + 1 + 1 := by rw [← hw2]; simp [World.size_alloc, hs1]
  obtain ⟨w3, hw3⟩ : ∃ w', w2.alloc (.cells #[.int .i64 3] 3) = w' := ⟨_, rfl⟩
  have hp3 : Past w2 w3 := by rw [← hw3]; exact (Below.refl _ _).alloc (Nat.le_refl _) _
  have hr3 : Row w3 (g + 1 + 1) 3 #[.int .i64 3] := by rw [← hw3, ← hs2]; exact Row.new _ _ _
  have H3 := Lib.hid (And.intro ((hp1.trans' hp2).trans' hp3) (And.intro hr3 (And.intro ((hr1.past hp2).past hp3) (hr2.past hp3))))
  have HS := Lib.hid (hS.past ((hp1.trans' hp2).trans' hp3))
  have HW := Lib.hid (And.intro hw1 (And.intro hw2 (And.intro hw3 (And.intro hg (And.intro hs1 hs2)))))
  clear hS hG hf hent hp1 hp2 hp3 hr1 hr2 hr3
  go_enter Tryz.func22, Tryz.ntmps22
  go_upto_region 1 with (fail)
  try rw [hw1]
  try rw [hg]
  try rw [hs1]
  try rw [hw2]
  go_wp2_with fail
  refine (HWD.out _).mono ?_
  rintro e w4 ⟨rfl, hw4⟩
  rw [hw4]
  clear hw4
  obtain ⟨h2, hh2⟩ : ∃ h, w2.heap.size = h := ⟨_, rfl⟩
  go_upto_region 2 with (fail)
  try rw [hh2]
  have hw3' := HW.out.2.2.1
  try rw [hw3']
  obtain rfl : h2 = g + 1 + 1 := by rw [← hh2]; exact HW.out.2.2.2.2.2
  clear hw1 hw2 hw3 hw3' hg hs1 hs2 hh2
  have HROW := Lib.hid (rowOf_any 2 35 #[.pointer (some ⟨g + 1 + 1, 0, none⟩), .pointer (some ⟨g, 0, none⟩), .pointer (some ⟨g + 1, 0, none⟩)])
  go_wp2_with fail
  refine (HRK.out w3 H3.out.1).mono ?_
  rintro e w5 ⟨rfl, hp5⟩
  have HP5 := Lib.hid hp5
  clear hp5
  go_wp2_with fail
  refine (HROW.out w5 (by decide) HENT.out (fun j hj w' hpp => by
    show Calls _ _ #[.int .i64 (j : Int), .pointer (some ⟨g + 1 + 1, 0, none⟩), .pointer (some ⟨g, 0, none⟩), .pointer (some ⟨g + 1, 0, none⟩)] _ _
    have hq := HP5.out.trans' hpp
    exact ncell_any j first _ _ _ A c xs w' hj HF.out (H3.out.2.1.past hq) (H3.out.2.2.1.past hq) (H3.out.2.2.2.past hq) (HS.out.past hq))).mono ?_
  rintro e w6 ⟨v, rfl, hrp, hp6⟩
  have hpw := H3.out.1.trans' HP5.out
  have HE : Hid (RowsP w.heap.size w6 v 2 ∧ Past w w6) := Lib.hid ⟨by
    obtain ⟨F, hF, ho⟩ := hrp
    exact ⟨F, hF, own_mono ho hpw.size⟩, hpw.trans' hp6⟩
  obtain ⟨g5, c5, Q5, rfl, _, _⟩ := hrp.pl
  clear hrp hp6 hpw
  go_wp2_with fail
  go_ret
  exact ⟨_, rfl, HE.out⟩
end Go.Proofs.YtalhdalmafhofaaGreatDoor
