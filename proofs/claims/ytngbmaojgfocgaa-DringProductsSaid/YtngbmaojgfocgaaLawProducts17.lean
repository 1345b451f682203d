/- DringProducts over the program's contracts. -/
import Derived.Test.YtngbmaojgfocgaaFrame17
import Derived.Test.YtngbmaojgfocgaaM17F
import Derived.Deep.RegionHeld
namespace Go.Proofs.Ytngbmaojgfocgaa.dr.dringProducts
open Go.RowKit Go.ChangeShapes Go.WideShapes Go.ChangeAt
set_option linter.unusedVariables false

set_option maxHeartbeats 16000000 in
set_option maxRecDepth 100000 in
theorem walk (H : Prog17) (a b c a2 b2 c2 : Int) (w : World) (ha : (Lit.int .u32 a).wf = true) (hb : (Lit.int .u32 b).wf = true) (hc : (Lit.int .u32 c).wf = true) (ha2 : (Lit.int .u32 a2).wf = true) (hb2 : (Lit.int .u32 b2).wf = true) (hc2 : (Lit.int .u32 c2).wf = true) :
    Calls Try.prog 5 #[.agg #[.int .u32 a, .int .u32 b, .int .u32 c], .agg #[.int .u32 a2, .int .u32 b2, .int .u32 c2]] w fun e w' => e = .returned (.bool true) ∧ Past w w' := by
  have HAW := Lib.hid (fun w => awake17 H w)
  have HSP := Lib.hid (fun w => spread_any a b c (by have := bounds_u32 ha; omega) (by have := bounds_u32 hb; omega) (by have := bounds_u32 hc; omega) w)
  have HSP2 := Lib.hid (fun w => spread_any a2 b2 c2 (by have := bounds_u32 ha2; omega) (by have := bounds_u32 hb2; omega) (by have := bounds_u32 hc2; omega) w)
  have hf := spr_rng a b c
  have hg := spr_rng a2 b2 c2
  generalize spr a b c = F at *
  generalize spr a2 b2 c2 = G at *
  have HM := Lib.hid (fun w => H.mul F G w hf hg)
  have HRM := Lib.hid (fun w => rmul17_any F G hf hg w)
  have HNF := Lib.hid (fun w => H.ntt F w hf)
  have HNG := Lib.hid (fun w => H.ntt G w hg)
  have HMN := Lib.hid (fun w => H.mul (ntt F) (ntt G) w (R32.of_low (ntt_low _)) (R32.of_low (ntt_low _)))
  have HI := Lib.hid (fun w => H.intt (mulF (ntt F) (ntt G)) w (R32.of_low (mulF_low _ _)))
  have HRP := Lib.hid (fun w => rproduct_any F G hf hg w)
  rw [arr_ext (k := .u32) (n := 256) (intt_prod F G)] at HI
  have heq := eqA (prod F G 256) (prod F G 256) fun _ _ => rfl
  have heq2 := eqA (mulF F G) (mulF F G) fun _ _ => rfl
  have heg := egA
  have hlf := (lst_len F).1
  have hlg := (lst_len G).1
  have hlq := (lst_len (mulF (ntt F) (ntt G))).2
  have HSF : Hid ((arr .u32 256 fun _ => 0).size = (arr .u32 256 F).size) := Lib.hid (by rw [arr_size, arr_size])
  have HSG : Hid ((arr .u32 256 fun _ => 0).size = (arr .u32 256 G).size) := Lib.hid (by rw [arr_size, arr_size])
  have HSQ : Hid ((arr .u32 256 fun _ => 0).size = (arr .u32 256 (mulF (ntt F) (ntt G))).size) := Lib.hid (by rw [arr_size, arr_size])
  have hi2 := inf256 F
  have hi3 := inf256 G
  have hi4 := infP (mulF (ntt F) (ntt G))
  have HOF := Lib.hid (arr_one .u32 256 F)
  have HOG := Lib.hid (arr_one .u32 256 G)
  have HOQ := Lib.hid (arr_one .u32 256 (mulF (ntt F) (ntt G)))
  have HRL := Lib.hid (fun (w : World) (g : Nat) (h : Row w g 25 (arr .u32 256 F)) => row_lst h)
  have HRG := Lib.hid (fun (w : World) (g : Nat) (h : Row w g 25 (arr .u32 256 G)) => row_lst h)
  have HRQ := Lib.hid (fun (w : World) (g : Nat) (h : Row w g 27 (arr .u32 256 (mulF (ntt F) (ntt G)))) => row_lst h)
  have hz := zero256
  have HZP := Lib.hid zeroP
  simp only [arr_lst] at HSP HSP2 HM HRM HNF HNG HMN HI HRP heq heq2 hi2 hi3 hi4 HSF HSG HSQ HOF HOG HOQ HRL HRG HRQ hz HZP
  generalize lst F = lf at *
  generalize lst G = lg at *
  generalize lst (mulF (ntt F) (ntt G)) = lq at *
  generalize lst (ntt F) = lnf at *
  generalize lst (ntt G) = lng at *
  generalize lst (mulF F G) = lm at *
  generalize lst (prod F G 256) = lp at *
  generalize (lst fun _ => 0) = lz at *
  clear hf hg H
  go_enter Try.func5, Try.ntmps5
  obtain ⟨g, hg⟩ : ∃ g, w.heap.size = g := ⟨_, rfl⟩
  obtain ⟨wb0, hwb0⟩ : ∃ w', w.alloc (.cells #[.int .u32 a, .int .u32 b, .int .u32 c] 23) = w' := ⟨_, rfl⟩
  have pwb0 : Past w wb0 := by rw [← hwb0]; exact (Below.refl _ w).alloc (Nat.le_refl _) _
  have swb0 : wb0.heap.size = g + 1 := by rw [← hwb0, World.size_alloc]; omega
  have rwb0 : Row wb0 (g) 23 #[.int .u32 a, .int .u32 b, .int .u32 c] := by
    have := Row.new w 23 #[.int .u32 a, .int .u32 b, .int .u32 c]
    rw [hwb0, show w.heap.size = g by omega] at this
    exact this
  obtain ⟨wb1, hwb1⟩ : ∃ w', wb0.alloc (.cells #[.int .u32 a2, .int .u32 b2, .int .u32 c2] 23) = w' := ⟨_, rfl⟩
  have pwb1 : Past wb0 wb1 := by rw [← hwb1]; exact (Below.refl _ wb0).alloc (Nat.le_refl _) _
  have swb1 : wb1.heap.size = g + 1 + 1 := by rw [← hwb1, World.size_alloc]; omega
  have rwb1 : Row wb1 (g + 1) 23 #[.int .u32 a2, .int .u32 b2, .int .u32 c2] := by
    have := Row.new wb0 23 #[.int .u32 a2, .int .u32 b2, .int .u32 c2]
    rw [hwb1, show wb0.heap.size = g + 1 by omega] at this
    exact this
  go_upto_region 1 with (fail)
  try rw [hwb0]; try rw [hwb1]
  try rw [hg]
  have HPB : Hid (Past w wb1) := Lib.hid (pwb0.trans' pwb1)
  have HRB : Hid (Row wb1 (g) 23 #[.int .u32 a, .int .u32 b, .int .u32 c] ∧ Row wb1 (g + 1) 23 #[.int .u32 a2, .int .u32 b2, .int .u32 c2]) := Lib.hid ⟨rwb0.past pwb1, rwb1⟩
  clear hg hwb0 pwb0 rwb0 swb0 hwb1 pwb1 rwb1 swb1
  go_wp2_with fail
  refine (HAW.out wb1).mono ?_
  rintro e w1 ⟨rfl, hp⟩
  have H1 : Hid (Past w w1) := Lib.hid (HPB.out.trans' hp)
  have HSD : Hid (∀ w', Past w1 w' → Row w' (g) 23 #[.int .u32 a, .int .u32 b, .int .u32 c] ∧ Row w' (g + 1) 23 #[.int .u32 a2, .int .u32 b2, .int .u32 c2]) := Lib.hid (fun w' h => ⟨HRB.out.1.past (hp.trans' h), HRB.out.2.past (hp.trans' h)⟩)
  clear hp HAW HRB HPB
  obtain k0 := (HSD.out w1 (Below.refl _ _)).1.cell 0
  obtain k1 := (HSD.out w1 (Below.refl _ _)).1.cell 1
  obtain k2 := (HSD.out w1 (Below.refl _ _)).1.cell 2
  go_wp2_with fail
  refine (HSP.out w1).mono ?_
  rintro e w2 ⟨rfl, hp⟩
  have HP2 := Lib.hid hp
  clear hp k0 k1 k2
  obtain ⟨u, hu⟩ : ∃ u, w2.heap.size = u := ⟨_, rfl⟩
  have hfr := fresh_row w2 25 lz.toArray lf.toArray
  have hr0 := Row.new w2 25 lz.toArray
  have hsN := HSF.out
  have hoN := HOF.out
  rw [hu] at hfr hr0
  obtain ⟨w3, hw3⟩ : ∃ w', (w2.alloc (.cells lz.toArray 25)).setRow u lf.toArray = w' := ⟨_, rfl⟩
  rw [hw3] at hfr
  have HPw3 : Hid (Past w2 w3) := Lib.hid hfr.2
  have HROWw3 := Lib.hid hfr.1
  have HW3 := Lib.hid hw3
  clear hw3 hfr
  go_upto_region 4 with (refine wpList_store_row rfl 25 _ _ rfl u _ rfl rfl _ _ hr0 hi2 hsN hoN ?_)
  rw [HW3.out]
  clear HW3 hr0 hsN hoN hu
  obtain k0 := (HSD.out w3 (HP2.out.trans' HPw3.out)).2.cell 0
  obtain k1 := (HSD.out w3 (HP2.out.trans' HPw3.out)).2.cell 1
  obtain k2 := (HSD.out w3 (HP2.out.trans' HPw3.out)).2.cell 2
  go_wp2_with fail
  refine (HSP2.out w3).mono ?_
  rintro e w4 ⟨rfl, hp⟩
  have HP4 := Lib.hid hp
  clear hp k0 k1 k2 HSD HSP HSP2
  obtain ⟨v, hu⟩ : ∃ u, w4.heap.size = u := ⟨_, rfl⟩
  have hfr := fresh_row w4 25 lz.toArray lg.toArray
  have hr0 := Row.new w4 25 lz.toArray
  have hsN := HSG.out
  have hoN := HOG.out
  rw [hu] at hfr hr0
  obtain ⟨w5, hw3⟩ : ∃ w', (w4.alloc (.cells lz.toArray 25)).setRow v lg.toArray = w' := ⟨_, rfl⟩
  rw [hw3] at hfr
  have HPw5 : Hid (Past w4 w5) := Lib.hid hfr.2
  have HROWw5 := Lib.hid hfr.1
  have HW3 := Lib.hid hw3
  clear hw3 hfr
  go_upto_region 5 with (refine wpList_store_row rfl 25 _ _ rfl v _ rfl rfl _ _ hr0 hi3 hsN hoN ?_)
  rw [HW3.out]
  clear HW3 hr0 hsN hoN hu
  have HW5 : Hid (Past w w5) := Lib.hid (H1.out.trans' (HP2.out.trans' (HPw3.out.trans' (HP4.out.trans' HPw5.out))))
  have HSK : Hid (∀ w', Past w5 w' → (w'.rangeAt u 0 lf ∧ w'.rangeAt v 0 lg)) := Lib.hid (fun w' h => ⟨HRL.out _ _ (HROWw3.out.past ((HP4.out.trans' HPw5.out).trans' h)), HRG.out _ _ (HROWw5.out.past h)⟩)
  have HPD : Hid (Past w5 w5.drew) := Lib.hid (Past.drewN (Below.refl _ w5) 1)
  clear hz hi2 hi3
  refine wp_region_held_drew (S := fun w' => w'.rangeAt u 0 lf ∧ w'.rangeAt v 0 lg) (by kernel_rfl) (HSK.out _ HPD.out) (fun hH => ?_)
  refine held_take 0 14 rfl rfl (by kernel_rfl) (by kernel_rfl) (by kernel_rfl) (fun _ _ _ h => h) (yieldsIf_load_mid (by kernel_rfl) 25 (.tmp 5) rfl u 0 rfl lf _ (fun _ h => h.1) Try.underlying25 rfl hlf) hH ?_
  refine held_take 1 15 rfl rfl (by kernel_rfl) (by kernel_rfl) (by kernel_rfl) (fun _ _ _ h => h) (yieldsIf_load_mid (by kernel_rfl) 25 (.tmp 6) rfl v 0 rfl lg _ (fun _ h => h.2) Try.underlying25 rfl hlg) hH ?_
  refine held_take 3 17 rfl rfl (by kernel_rfl) (by kernel_rfl) (by kernel_rfl) (fun _ _ _ h => h) (yieldsIf_load_mid (by kernel_rfl) 25 (.tmp 5) rfl u 0 rfl lf _ (fun _ h => h.1) Try.underlying25 rfl hlf) hH ?_
  refine held_take 4 18 rfl rfl (by kernel_rfl) (by kernel_rfl) (by kernel_rfl) (fun _ _ _ h => h) (yieldsIf_load_mid (by kernel_rfl) 25 (.tmp 6) rfl v 0 rfl lg _ (fun _ h => h.2) Try.underlying25 rfl hlg) hH ?_
  refine wpAnyH_ready (rs := [2]) (by kernel_rfl) (by simp) ?_
  refine AllReadyH.cons rfl (fun K hK => ?_) AllReadyH.nil
  go_simp
  refine (HM.out w5.drew).mono ?_
  rintro e3 wc3 ⟨rfl, hp⟩
  have HPc3 : Hid (Past w5 wc3) := Lib.hid (HPD.out.trans' hp)
  clear hp
  refine hK.out _ _ (HSK.out _ HPc3.out) (fun hH => ?_)
  clear hK K
  refine wpAnyH_ready (rs := [5]) (by kernel_rfl) (by simp) ?_
  refine AllReadyH.cons rfl (fun K hK => ?_) AllReadyH.nil
  go_simp
  refine (HRM.out wc3).mono ?_
  rintro e4 wc4 ⟨rfl, hp⟩
  have HPc4 : Hid (Past w5 wc4) := Lib.hid (HPc3.out.trans' hp)
  clear hp
  refine hK.out _ _ (HSK.out _ HPc4.out) (fun hH => ?_)
  clear hK K
  refine held_take 6 20 (v := .bool false) rfl rfl (by kernel_rfl) (by kernel_rfl) (by kernel_rfl) (fun _ _ _ h => h) (Or.inl ⟨by kernel_rfl, fun w _ => by go_simp⟩) hH ?_
  refine wpAnyH_done (by kernel_rfl) ?_ _
  go_simp
  have HP56 : Hid (Past w5 wc4) := HPc4
  clear hH
  generalize wc4 = w6 at *
  have HW6 : Hid (Past w w6) := Lib.hid (HW5.out.trans' HP56.out)
  have HSK6 : Hid (∀ w', Past w6 w' → (w'.rangeAt u 0 lf ∧ w'.rangeAt v 0 lg)) := Lib.hid (fun w' h => HSK.out _ (HP56.out.trans' h))
  obtain ⟨wd6, hwd⟩ : ∃ w', w' = w6.drew := ⟨_, rfl⟩
  have HPD6 : Hid (Past w6 wd6) := Lib.hid (by rw [hwd]; exact Past.drewN (Below.refl _ w6) 1)
  have HWD := Lib.hid hwd
  have HS6 := Lib.hid (HSK6.out _ (Past.drewN (Below.refl _ w6) 1))
  clear hwd
  go_upto_region 7 with (fail)
  have hz := HZP.out
  refine wp_region_held_drew (S := fun w' => w'.rangeAt u 0 lf ∧ w'.rangeAt v 0 lg) (by kernel_rfl) HS6.out (fun hH => ?_)
  change wpAnyH _ _ _ _ _ _ _ _ (World.drew _)
  rw [← HWD.out]
  clear hH
  have hH := HSK6.out _ HPD6.out
  refine held_take 0 21 rfl rfl (by kernel_rfl) (by kernel_rfl) (by kernel_rfl) (fun _ _ _ h => h) (yieldsIf_load_mid (by kernel_rfl) 25 (.tmp 5) rfl u 0 rfl lf _ (fun _ h => h.1) Try.underlying25 rfl hlf) hH ?_
  refine held_take 2 23 rfl rfl (by kernel_rfl) (by kernel_rfl) (by kernel_rfl) (fun _ _ _ h => h) (yieldsIf_load_mid (by kernel_rfl) 25 (.tmp 6) rfl v 0 rfl lg _ (fun _ h => h.2) Try.underlying25 rfl hlg) hH ?_
  refine wpAnyH_ready (rs := [1, 5]) (by kernel_rfl) (by simp) ?_
  refine AllReadyH.cons rfl (fun K hK => ?_) (AllReadyH.cons rfl (fun K hK => ?_) AllReadyH.nil)
  · go_simp
    refine (HNF.out wd6).mono ?_
    rintro e5 wc5 ⟨rfl, hp⟩
    have HPc5 : Hid (Past w6 wc5) := Lib.hid (HPD6.out.trans' hp)
    clear hp
    refine hK.out _ _ (HSK6.out _ HPc5.out) (fun hH => ?_)
    clear hK K
    refine wpAnyH_ready (rs := [3, 5]) (by kernel_rfl) (by simp) ?_
    refine AllReadyH.cons rfl (fun K hK => ?_) (AllReadyH.cons rfl (fun K hK => ?_) AllReadyH.nil)
    · go_simp
      refine (HNG.out wc5).mono ?_
      rintro e6 wc6 ⟨rfl, hp⟩
      have HPc6 : Hid (Past w6 wc6) := Lib.hid (HPc5.out.trans' hp)
      clear hp
      refine hK.out _ _ (HSK6.out _ HPc6.out) (fun hH => ?_)
      clear hK K
      refine wpAnyH_ready (rs := [4, 5]) (by kernel_rfl) (by simp) ?_
      refine AllReadyH.cons rfl (fun K hK => ?_) (AllReadyH.cons rfl (fun K hK => ?_) AllReadyH.nil)
      · go_simp
        refine (HMN.out wc6).mono ?_
        rintro e7 wc7 ⟨rfl, hp⟩
        have HPc7 : Hid (Past w6 wc7) := Lib.hid (HPc6.out.trans' hp)
        clear hp
        refine hK.out _ _ (HSK6.out _ HPc7.out) (fun hH => ?_)
        clear hK K
        refine wpAnyH_ready (rs := [5]) (by kernel_rfl) (by simp) ?_
        refine AllReadyH.cons rfl (fun K hK => ?_) AllReadyH.nil
        go_simp
        obtain ⟨z, hu⟩ : ∃ u, wc7.heap.size = u := ⟨_, rfl⟩
        obtain ⟨wc8, hwc⟩ : ∃ w', wc7.alloc (.cells lz.toArray 27) = w' := ⟨_, rfl⟩
        have HPc8 : Hid (Past w6 wc8) := Lib.hid (by rw [← hwc]; exact HPc7.out.alloc HPc7.out.size _)
        have HRc8 : Hid (Row wc8 z 27 lz.toArray) := Lib.hid (by rw [← hwc, ← hu]; exact Row.new _ _ _)
        have HUc : Hid (w6.heap.size ≤ z) := Lib.hid (by rw [← hu]; exact HPc7.out.size)
        try rw [hwc]
        try rw [hu]
        clear hwc hu
        refine hK.out _ _ (HSK6.out _ HPc8.out) (fun hH => ?_)
        clear hK K
        refine wpAnyH_ready (rs := [6]) (by kernel_rfl) (by simp) ?_
        refine AllReadyH.cons rfl (fun K hK => ?_) AllReadyH.nil
        refine step_wanted rfl ?_
        refine wp_store_row 27 (.tmp 7) (.tmp 25) rfl z lq.toArray rfl rfl _ _ HRc8.out hi4 HSQ.out HOQ.out ?_
        obtain ⟨wc9, hwc⟩ : ∃ w', wc8.setRow z lq.toArray = w' := ⟨_, rfl⟩
        have HPc9 : Hid (Past w6 wc9) := Lib.hid (by rw [← hwc]; exact below_setRow HPc8.out HUc.out _)
        have HRc9 : Hid (Row wc9 z 27 lq.toArray) := Lib.hid (by rw [← hwc]; exact setRow_heap _ _ _ _ _ _ HRc8.out)
        rw [hwc]
        clear hwc
        refine hK.out _ _ (HSK6.out _ HPc9.out) (fun hH => ?_)
        clear hK K
        refine wpAnyH_done (by kernel_rfl) ?_ _
        go_simp
        have HP68 : Hid (Past w6 wc9) := HPc9
        have HSK8 : Hid (∀ w', Past wc9 w' → (w'.rangeAt u 0 lf ∧ w'.rangeAt v 0 lg ∧ w'.rangeAt z 0 lq)) := Lib.hid (fun w' h => ⟨(HSK6.out _ (HPc9.out.trans' h)).1, (HSK6.out _ (HPc9.out.trans' h)).2, HRQ.out _ _ (HRc9.out.past h)⟩)
        clear hH
        generalize wc9 = w8 at *
        have HPD8 : Hid (Past w8 w8.drew) := Lib.hid (Past.drewN (Below.refl _ w8) 1)
        go_upto_region 8 with (fail)
        refine wp_region_held_drew (S := fun w' => w'.rangeAt u 0 lf ∧ w'.rangeAt v 0 lg ∧ w'.rangeAt z 0 lq) (by kernel_rfl) (HSK8.out _ HPD8.out) (fun hH => ?_)
        refine held_take 0 26 rfl rfl (by kernel_rfl) (by kernel_rfl) (by kernel_rfl) (fun _ _ _ h => h) (yieldsIf_load_mid (by kernel_rfl) 27 (.tmp 7) rfl z 0 rfl lq _ (fun _ h => h.2.2) Try.underlying27 rfl hlq) hH ?_
        refine held_take 2 28 rfl rfl (by kernel_rfl) (by kernel_rfl) (by kernel_rfl) (fun _ _ _ h => h) (yieldsIf_load_mid (by kernel_rfl) 25 (.tmp 5) rfl u 0 rfl lf _ (fun _ h => h.1) Try.underlying25 rfl hlf) hH ?_
        refine held_take 3 29 rfl rfl (by kernel_rfl) (by kernel_rfl) (by kernel_rfl) (fun _ _ _ h => h) (yieldsIf_load_mid (by kernel_rfl) 25 (.tmp 6) rfl v 0 rfl lg _ (fun _ h => h.2.1) Try.underlying25 rfl hlg) hH ?_
        refine wpAnyH_ready (rs := [1]) (by kernel_rfl) (by simp) ?_
        refine AllReadyH.cons rfl (fun K hK => ?_) AllReadyH.nil
        go_simp
        refine (HI.out w8.drew).mono ?_
        rintro e10 wc10 ⟨rfl, hp⟩
        have HPc10 : Hid (Past w8 wc10) := Lib.hid (HPD8.out.trans' hp)
        clear hp
        refine hK.out _ _ (HSK8.out _ HPc10.out) (fun hH => ?_)
        clear hK K
        refine wpAnyH_ready (rs := [4]) (by kernel_rfl) (by simp) ?_
        refine AllReadyH.cons rfl (fun K hK => ?_) AllReadyH.nil
        go_simp
        refine (HRP.out wc10).mono ?_
        rintro e11 wc11 ⟨rfl, hp⟩
        have HPc11 : Hid (Past w8 wc11) := Lib.hid (HPc10.out.trans' hp)
        clear hp
        refine hK.out _ _ (HSK8.out _ HPc11.out) (fun hH => ?_)
        clear hK K
        refine held_take 5 31 (v := .bool true) rfl rfl (by kernel_rfl) (by kernel_rfl) (by kernel_rfl) (fun _ _ _ h => h) (Or.inl ⟨by kernel_rfl, fun w _ => by go_simp⟩) hH ?_
        refine held_take 6 4 (v := .bool true) rfl rfl (by kernel_rfl) (by kernel_rfl) (by kernel_rfl) (fun _ _ _ h => h) (Or.inl ⟨by kernel_rfl, fun w _ => by kernel_rfl⟩) hH ?_
        refine wpAnyH_done (by kernel_rfl) ?_ _
        go_simp
        go_wp2_with fail
        go_ret
        exact ⟨rfl, HW6.out.trans' (HP68.out.trans' HPc11.out)⟩
      · go_simp
        obtain ⟨z, hu⟩ : ∃ u, wc6.heap.size = u := ⟨_, rfl⟩
        obtain ⟨wc12, hwc⟩ : ∃ w', wc6.alloc (.cells lz.toArray 27) = w' := ⟨_, rfl⟩
        have HPc12 : Hid (Past w6 wc12) := Lib.hid (by rw [← hwc]; exact HPc6.out.alloc HPc6.out.size _)
        have HRc12 : Hid (Row wc12 z 27 lz.toArray) := Lib.hid (by rw [← hwc, ← hu]; exact Row.new _ _ _)
        have HUc : Hid (w6.heap.size ≤ z) := Lib.hid (by rw [← hu]; exact HPc6.out.size)
        try rw [hwc]
        try rw [hu]
        clear hwc hu
        refine hK.out _ _ (HSK6.out _ HPc12.out) (fun hH => ?_)
        clear hK K
        refine wpAnyH_ready (rs := [4]) (by kernel_rfl) (by simp) ?_
        refine AllReadyH.cons rfl (fun K hK => ?_) AllReadyH.nil
        go_simp
        refine (HMN.out wc12).mono ?_
        rintro e13 wc13 ⟨rfl, hp⟩
        have HPc13 : Hid (Past w6 wc13) := Lib.hid (HPc12.out.trans' hp)
        have HRc13 := Lib.hid (HRc12.out.past hp)
        clear hp
        refine hK.out _ _ (HSK6.out _ HPc13.out) (fun hH => ?_)
        clear hK K
        refine wpAnyH_ready (rs := [6]) (by kernel_rfl) (by simp) ?_
        refine AllReadyH.cons rfl (fun K hK => ?_) AllReadyH.nil
        refine step_wanted rfl ?_
        refine wp_store_row 27 (.tmp 7) (.tmp 25) rfl z lq.toArray rfl rfl _ _ HRc13.out hi4 HSQ.out HOQ.out ?_
        obtain ⟨wc14, hwc⟩ : ∃ w', wc13.setRow z lq.toArray = w' := ⟨_, rfl⟩
        have HPc14 : Hid (Past w6 wc14) := Lib.hid (by rw [← hwc]; exact below_setRow HPc13.out HUc.out _)
        have HRc14 : Hid (Row wc14 z 27 lq.toArray) := Lib.hid (by rw [← hwc]; exact setRow_heap _ _ _ _ _ _ HRc13.out)
        rw [hwc]
        clear hwc
        refine hK.out _ _ (HSK6.out _ HPc14.out) (fun hH => ?_)
        clear hK K
        refine wpAnyH_done (by kernel_rfl) ?_ _
        go_simp
        have HP68 : Hid (Past w6 wc14) := HPc14
        have HSK8 : Hid (∀ w', Past wc14 w' → (w'.rangeAt u 0 lf ∧ w'.rangeAt v 0 lg ∧ w'.rangeAt z 0 lq)) := Lib.hid (fun w' h => ⟨(HSK6.out _ (HPc14.out.trans' h)).1, (HSK6.out _ (HPc14.out.trans' h)).2, HRQ.out _ _ (HRc14.out.past h)⟩)
        clear hH
        generalize wc14 = w8 at *
        have HPD8 : Hid (Past w8 w8.drew) := Lib.hid (Past.drewN (Below.refl _ w8) 1)
        go_upto_region 8 with (fail)
        refine wp_region_held_drew (S := fun w' => w'.rangeAt u 0 lf ∧ w'.rangeAt v 0 lg ∧ w'.rangeAt z 0 lq) (by kernel_rfl) (HSK8.out _ HPD8.out) (fun hH => ?_)
        refine held_take 0 26 rfl rfl (by kernel_rfl) (by kernel_rfl) (by kernel_rfl) (fun _ _ _ h => h) (yieldsIf_load_mid (by kernel_rfl) 27 (.tmp 7) rfl z 0 rfl lq _ (fun _ h => h.2.2) Try.underlying27 rfl hlq) hH ?_
        refine held_take 2 28 rfl rfl (by kernel_rfl) (by kernel_rfl) (by kernel_rfl) (fun _ _ _ h => h) (yieldsIf_load_mid (by kernel_rfl) 25 (.tmp 5) rfl u 0 rfl lf _ (fun _ h => h.1) Try.underlying25 rfl hlf) hH ?_
        refine held_take 3 29 rfl rfl (by kernel_rfl) (by kernel_rfl) (by kernel_rfl) (fun _ _ _ h => h) (yieldsIf_load_mid (by kernel_rfl) 25 (.tmp 6) rfl v 0 rfl lg _ (fun _ h => h.2.1) Try.underlying25 rfl hlg) hH ?_
        refine wpAnyH_ready (rs := [1]) (by kernel_rfl) (by simp) ?_
        refine AllReadyH.cons rfl (fun K hK => ?_) AllReadyH.nil
        go_simp
        refine (HI.out w8.drew).mono ?_
        rintro e15 wc15 ⟨rfl, hp⟩
        have HPc15 : Hid (Past w8 wc15) := Lib.hid (HPD8.out.trans' hp)
        clear hp
        refine hK.out _ _ (HSK8.out _ HPc15.out) (fun hH => ?_)
        clear hK K
        refine wpAnyH_ready (rs := [4]) (by kernel_rfl) (by simp) ?_
        refine AllReadyH.cons rfl (fun K hK => ?_) AllReadyH.nil
        go_simp
        refine (HRP.out wc15).mono ?_
        rintro e16 wc16 ⟨rfl, hp⟩
        have HPc16 : Hid (Past w8 wc16) := Lib.hid (HPc15.out.trans' hp)
        clear hp
        refine hK.out _ _ (HSK8.out _ HPc16.out) (fun hH => ?_)
        clear hK K
        refine held_take 5 31 (v := .bool true) rfl rfl (by kernel_rfl) (by kernel_rfl) (by kernel_rfl) (fun _ _ _ h => h) (Or.inl ⟨by kernel_rfl, fun w _ => by go_simp⟩) hH ?_
        refine held_take 6 4 (v := .bool true) rfl rfl (by kernel_rfl) (by kernel_rfl) (by kernel_rfl) (fun _ _ _ h => h) (Or.inl ⟨by kernel_rfl, fun w _ => by kernel_rfl⟩) hH ?_
        refine wpAnyH_done (by kernel_rfl) ?_ _
        go_simp
        go_wp2_with fail
        go_ret
        exact ⟨rfl, HW6.out.trans' (HP68.out.trans' HPc16.out)⟩
    · go_simp
      obtain ⟨z, hu⟩ : ∃ u, wc5.heap.size = u := ⟨_, rfl⟩
      obtain ⟨wc17, hwc⟩ : ∃ w', wc5.alloc (.cells lz.toArray 27) = w' := ⟨_, rfl⟩
      have HPc17 : Hid (Past w6 wc17) := Lib.hid (by rw [← hwc]; exact HPc5.out.alloc HPc5.out.size _)
      have HRc17 : Hid (Row wc17 z 27 lz.toArray) := Lib.hid (by rw [← hwc, ← hu]; exact Row.new _ _ _)
      have HUc : Hid (w6.heap.size ≤ z) := Lib.hid (by rw [← hu]; exact HPc5.out.size)
      try rw [hwc]
      try rw [hu]
      clear hwc hu
      refine hK.out _ _ (HSK6.out _ HPc17.out) (fun hH => ?_)
      clear hK K
      refine wpAnyH_ready (rs := [3]) (by kernel_rfl) (by simp) ?_
      refine AllReadyH.cons rfl (fun K hK => ?_) AllReadyH.nil
      go_simp
      refine (HNG.out wc17).mono ?_
      rintro e18 wc18 ⟨rfl, hp⟩
      have HPc18 : Hid (Past w6 wc18) := Lib.hid (HPc17.out.trans' hp)
      have HRc18 := Lib.hid (HRc17.out.past hp)
      clear hp
      refine hK.out _ _ (HSK6.out _ HPc18.out) (fun hH => ?_)
      clear hK K
      refine wpAnyH_ready (rs := [4]) (by kernel_rfl) (by simp) ?_
      refine AllReadyH.cons rfl (fun K hK => ?_) AllReadyH.nil
      go_simp
      refine (HMN.out wc18).mono ?_
      rintro e19 wc19 ⟨rfl, hp⟩
      have HPc19 : Hid (Past w6 wc19) := Lib.hid (HPc18.out.trans' hp)
      have HRc19 := Lib.hid (HRc18.out.past hp)
      clear hp
      refine hK.out _ _ (HSK6.out _ HPc19.out) (fun hH => ?_)
      clear hK K
      refine wpAnyH_ready (rs := [6]) (by kernel_rfl) (by simp) ?_
      refine AllReadyH.cons rfl (fun K hK => ?_) AllReadyH.nil
      refine step_wanted rfl ?_
      refine wp_store_row 27 (.tmp 7) (.tmp 25) rfl z lq.toArray rfl rfl _ _ HRc19.out hi4 HSQ.out HOQ.out ?_
      obtain ⟨wc20, hwc⟩ : ∃ w', wc19.setRow z lq.toArray = w' := ⟨_, rfl⟩
      have HPc20 : Hid (Past w6 wc20) := Lib.hid (by rw [← hwc]; exact below_setRow HPc19.out HUc.out _)
      have HRc20 : Hid (Row wc20 z 27 lq.toArray) := Lib.hid (by rw [← hwc]; exact setRow_heap _ _ _ _ _ _ HRc19.out)
      rw [hwc]
      clear hwc
      refine hK.out _ _ (HSK6.out _ HPc20.out) (fun hH => ?_)
      clear hK K
      refine wpAnyH_done (by kernel_rfl) ?_ _
      go_simp
      have HP68 : Hid (Past w6 wc20) := HPc20
      have HSK8 : Hid (∀ w', Past wc20 w' → (w'.rangeAt u 0 lf ∧ w'.rangeAt v 0 lg ∧ w'.rangeAt z 0 lq)) := Lib.hid (fun w' h => ⟨(HSK6.out _ (HPc20.out.trans' h)).1, (HSK6.out _ (HPc20.out.trans' h)).2, HRQ.out _ _ (HRc20.out.past h)⟩)
      clear hH
      generalize wc20 = w8 at *
      have HPD8 : Hid (Past w8 w8.drew) := Lib.hid (Past.drewN (Below.refl _ w8) 1)
      go_upto_region 8 with (fail)
      refine wp_region_held_drew (S := fun w' => w'.rangeAt u 0 lf ∧ w'.rangeAt v 0 lg ∧ w'.rangeAt z 0 lq) (by kernel_rfl) (HSK8.out _ HPD8.out) (fun hH => ?_)
      refine held_take 0 26 rfl rfl (by kernel_rfl) (by kernel_rfl) (by kernel_rfl) (fun _ _ _ h => h) (yieldsIf_load_mid (by kernel_rfl) 27 (.tmp 7) rfl z 0 rfl lq _ (fun _ h => h.2.2) Try.underlying27 rfl hlq) hH ?_
      refine held_take 2 28 rfl rfl (by kernel_rfl) (by kernel_rfl) (by kernel_rfl) (fun _ _ _ h => h) (yieldsIf_load_mid (by kernel_rfl) 25 (.tmp 5) rfl u 0 rfl lf _ (fun _ h => h.1) Try.underlying25 rfl hlf) hH ?_
      refine held_take 3 29 rfl rfl (by kernel_rfl) (by kernel_rfl) (by kernel_rfl) (fun _ _ _ h => h) (yieldsIf_load_mid (by kernel_rfl) 25 (.tmp 6) rfl v 0 rfl lg _ (fun _ h => h.2.1) Try.underlying25 rfl hlg) hH ?_
      refine wpAnyH_ready (rs := [1]) (by kernel_rfl) (by simp) ?_
      refine AllReadyH.cons rfl (fun K hK => ?_) AllReadyH.nil
      go_simp
      refine (HI.out w8.drew).mono ?_
      rintro e21 wc21 ⟨rfl, hp⟩
      have HPc21 : Hid (Past w8 wc21) := Lib.hid (HPD8.out.trans' hp)
      clear hp
      refine hK.out _ _ (HSK8.out _ HPc21.out) (fun hH => ?_)
      clear hK K
      refine wpAnyH_ready (rs := [4]) (by kernel_rfl) (by simp) ?_
      refine AllReadyH.cons rfl (fun K hK => ?_) AllReadyH.nil
      go_simp
      refine (HRP.out wc21).mono ?_
      rintro e22 wc22 ⟨rfl, hp⟩
      have HPc22 : Hid (Past w8 wc22) := Lib.hid (HPc21.out.trans' hp)
      clear hp
      refine hK.out _ _ (HSK8.out _ HPc22.out) (fun hH => ?_)
      clear hK K
      refine held_take 5 31 (v := .bool true) rfl rfl (by kernel_rfl) (by kernel_rfl) (by kernel_rfl) (fun _ _ _ h => h) (Or.inl ⟨by kernel_rfl, fun w _ => by go_simp⟩) hH ?_
      refine held_take 6 4 (v := .bool true) rfl rfl (by kernel_rfl) (by kernel_rfl) (by kernel_rfl) (fun _ _ _ h => h) (Or.inl ⟨by kernel_rfl, fun w _ => by kernel_rfl⟩) hH ?_
      refine wpAnyH_done (by kernel_rfl) ?_ _
      go_simp
      go_wp2_with fail
      go_ret
      exact ⟨rfl, HW6.out.trans' (HP68.out.trans' HPc22.out)⟩
  · go_simp
    obtain ⟨z, hu⟩ : ∃ u, wd6.heap.size = u := ⟨_, rfl⟩
    obtain ⟨wc23, hwc⟩ : ∃ w', wd6.alloc (.cells lz.toArray 27) = w' := ⟨_, rfl⟩
    have HPc23 : Hid (Past w6 wc23) := Lib.hid (by rw [← hwc]; exact HPD6.out.alloc HPD6.out.size _)
    have HRc23 : Hid (Row wc23 z 27 lz.toArray) := Lib.hid (by rw [← hwc, ← hu]; exact Row.new _ _ _)
    have HUc : Hid (w6.heap.size ≤ z) := Lib.hid (by rw [← hu]; exact HPD6.out.size)
    try rw [hwc]
    try rw [hu]
    clear hwc hu
    refine hK.out _ _ (HSK6.out _ HPc23.out) (fun hH => ?_)
    clear hK K
    refine wpAnyH_ready (rs := [1]) (by kernel_rfl) (by simp) ?_
    refine AllReadyH.cons rfl (fun K hK => ?_) AllReadyH.nil
    go_simp
    refine (HNF.out wc23).mono ?_
    rintro e24 wc24 ⟨rfl, hp⟩
    have HPc24 : Hid (Past w6 wc24) := Lib.hid (HPc23.out.trans' hp)
    have HRc24 := Lib.hid (HRc23.out.past hp)
    clear hp
    refine hK.out _ _ (HSK6.out _ HPc24.out) (fun hH => ?_)
    clear hK K
    refine wpAnyH_ready (rs := [3]) (by kernel_rfl) (by simp) ?_
    refine AllReadyH.cons rfl (fun K hK => ?_) AllReadyH.nil
    go_simp
    refine (HNG.out wc24).mono ?_
    rintro e25 wc25 ⟨rfl, hp⟩
    have HPc25 : Hid (Past w6 wc25) := Lib.hid (HPc24.out.trans' hp)
    have HRc25 := Lib.hid (HRc24.out.past hp)
    clear hp
    refine hK.out _ _ (HSK6.out _ HPc25.out) (fun hH => ?_)
    clear hK K
    refine wpAnyH_ready (rs := [4]) (by kernel_rfl) (by simp) ?_
    refine AllReadyH.cons rfl (fun K hK => ?_) AllReadyH.nil
    go_simp
    refine (HMN.out wc25).mono ?_
    rintro e26 wc26 ⟨rfl, hp⟩
    have HPc26 : Hid (Past w6 wc26) := Lib.hid (HPc25.out.trans' hp)
    have HRc26 := Lib.hid (HRc25.out.past hp)
    clear hp
    refine hK.out _ _ (HSK6.out _ HPc26.out) (fun hH => ?_)
    clear hK K
    refine wpAnyH_ready (rs := [6]) (by kernel_rfl) (by simp) ?_
    refine AllReadyH.cons rfl (fun K hK => ?_) AllReadyH.nil
    refine step_wanted rfl ?_
    refine wp_store_row 27 (.tmp 7) (.tmp 25) rfl z lq.toArray rfl rfl _ _ HRc26.out hi4 HSQ.out HOQ.out ?_
    obtain ⟨wc27, hwc⟩ : ∃ w', wc26.setRow z lq.toArray = w' := ⟨_, rfl⟩
    have HPc27 : Hid (Past w6 wc27) := Lib.hid (by rw [← hwc]; exact below_setRow HPc26.out HUc.out _)
    have HRc27 : Hid (Row wc27 z 27 lq.toArray) := Lib.hid (by rw [← hwc]; exact setRow_heap _ _ _ _ _ _ HRc26.out)
    rw [hwc]
    clear hwc
    refine hK.out _ _ (HSK6.out _ HPc27.out) (fun hH => ?_)
    clear hK K
    refine wpAnyH_done (by kernel_rfl) ?_ _
    go_simp
    have HP68 : Hid (Past w6 wc27) := HPc27
    have HSK8 : Hid (∀ w', Past wc27 w' → (w'.rangeAt u 0 lf ∧ w'.rangeAt v 0 lg ∧ w'.rangeAt z 0 lq)) := Lib.hid (fun w' h => ⟨(HSK6.out _ (HPc27.out.trans' h)).1, (HSK6.out _ (HPc27.out.trans' h)).2, HRQ.out _ _ (HRc27.out.past h)⟩)
    clear hH
    generalize wc27 = w8 at *
    have HPD8 : Hid (Past w8 w8.drew) := Lib.hid (Past.drewN (Below.refl _ w8) 1)
    go_upto_region 8 with (fail)
    refine wp_region_held_drew (S := fun w' => w'.rangeAt u 0 lf ∧ w'.rangeAt v 0 lg ∧ w'.rangeAt z 0 lq) (by kernel_rfl) (HSK8.out _ HPD8.out) (fun hH => ?_)
    refine held_take 0 26 rfl rfl (by kernel_rfl) (by kernel_rfl) (by kernel_rfl) (fun _ _ _ h => h) (yieldsIf_load_mid (by kernel_rfl) 27 (.tmp 7) rfl z 0 rfl lq _ (fun _ h => h.2.2) Try.underlying27 rfl hlq) hH ?_
    refine held_take 2 28 rfl rfl (by kernel_rfl) (by kernel_rfl) (by kernel_rfl) (fun _ _ _ h => h) (yieldsIf_load_mid (by kernel_rfl) 25 (.tmp 5) rfl u 0 rfl lf _ (fun _ h => h.1) Try.underlying25 rfl hlf) hH ?_
    refine held_take 3 29 rfl rfl (by kernel_rfl) (by kernel_rfl) (by kernel_rfl) (fun _ _ _ h => h) (yieldsIf_load_mid (by kernel_rfl) 25 (.tmp 6) rfl v 0 rfl lg _ (fun _ h => h.2.1) Try.underlying25 rfl hlg) hH ?_
    refine wpAnyH_ready (rs := [1]) (by kernel_rfl) (by simp) ?_
    refine AllReadyH.cons rfl (fun K hK => ?_) AllReadyH.nil
    go_simp
    refine (HI.out w8.drew).mono ?_
    rintro e28 wc28 ⟨rfl, hp⟩
    have HPc28 : Hid (Past w8 wc28) := Lib.hid (HPD8.out.trans' hp)
    clear hp
    refine hK.out _ _ (HSK8.out _ HPc28.out) (fun hH => ?_)
    clear hK K
    refine wpAnyH_ready (rs := [4]) (by kernel_rfl) (by simp) ?_
    refine AllReadyH.cons rfl (fun K hK => ?_) AllReadyH.nil
    go_simp
    refine (HRP.out wc28).mono ?_
    rintro e29 wc29 ⟨rfl, hp⟩
    have HPc29 : Hid (Past w8 wc29) := Lib.hid (HPc28.out.trans' hp)
    clear hp
    refine hK.out _ _ (HSK8.out _ HPc29.out) (fun hH => ?_)
    clear hK K
    refine held_take 5 31 (v := .bool true) rfl rfl (by kernel_rfl) (by kernel_rfl) (by kernel_rfl) (fun _ _ _ h => h) (Or.inl ⟨by kernel_rfl, fun w _ => by go_simp⟩) hH ?_
    refine held_take 6 4 (v := .bool true) rfl rfl (by kernel_rfl) (by kernel_rfl) (by kernel_rfl) (fun _ _ _ h => h) (Or.inl ⟨by kernel_rfl, fun w _ => by kernel_rfl⟩) hH ?_
    refine wpAnyH_done (by kernel_rfl) ?_ _
    go_simp
    go_wp2_with fail
    go_ret
    exact ⟨rfl, HW6.out.trans' (HP68.out.trans' HPc29.out)⟩

set_option maxRecDepth 100000 in
theorem lifted (H7 : Prog17) (os : Os) (started : os.Started) (H : Type) (enc : TypeId × Value → H) :
    ReturnsInHanded {} Try.checked os 5 .any (Rows.dringProductsSpec.pre6 enc Try.prog Try.f5 Rows.dringProductsRow.domain false) (Rows.dringProductsSpec.post enc Try.prog Try.f5 false true false false) := by
  refine returnsInHanded_of_change (C := Try.checked) own started (by kernel_rfl) Try.func5
    (ChangeSpec.witness6 (enc := enc) (C := Try.checked) false ⟨#[], #[.agg #[.int .u32 0, .int .u32 0, .int .u32 0], .agg #[.int .u32 0, .int .u32 0, .int .u32 0]], []⟩ 8 (by kernel_rfl) (by kernel_rfl) (by kernel_rfl) (by kernel_rfl)) ?_
  intro W base args ds gs before hval0 hW hcnd _
  have hval : ∀ (j : Nat) t v, Try.f5.params[j]? = some t → args[j]? = some v → Value.okWide Try.prog W .any base t v := hval0
  have hW' := hW
  obtain ⟨p, q, hA0, hV, rfl, hfz, hnd⟩ := hW
  have hA : DataW.TrodAll enc Try.prog W 0 (fun _ => true) true Try.f5.params.toList args.toList ds p := hA0
  rw [Try.params5] at hA hval
  obtain ⟨v0, vs0, d0, ds0, p0, q0, hargs, rfl, rfl, h0, r0⟩ := trodAll_cons hA
  obtain ⟨v1, vs1, d1, ds1, p1, q1, rfl, rfl, rfl, h1, r1⟩ := trodAll_cons r0
  obtain ⟨rfl, rfl, rfl⟩ := trodAll_nil r1
  obtain rfl : args = #[v0, v1] := by cases args; simp_all
  obtain ⟨rfl, rfl⟩ := trodVars_none hV
  obtain ⟨a0, b0, c0, rfl, rfl, rfl, wa0, wb0, wc0⟩ := open3 (hval 0 23 v0 rfl rfl) h0
  obtain ⟨a1, b1, c1, rfl, rfl, rfl, wa1, wb1, wc1⟩ := open3 (hval 1 23 v1 rfl rfl) h1
  clear hA0 hval0
  refine (walk H7 a0 b0 c0 a1 b1 c1 W wa0 wb0 wc0 wa1 wb1 wc1).mono fun e W' ⟨he, bel⟩ => ?_
  subst he
  exact ⟨_, rfl, _, _, _, [], _, [], hW', trodAll_mk1 (shut_bool Try.underlying4 _), (trodAll_cons_mk (shut3 wa0 wb0 wc0) (trodAll_cons_mk (shut3 wa1 wb1 wc1) trodAll_mk0)), rfl, bel.frame _, fun h => by cases h⟩

theorem over (H7 : Prog17) : Rows.dringProductsRow.holds Try.pinned (OpenSpec.ofChange Rows.dringProductsSpec) :=
  OpenClaim.holds_of_wide 5 Try.f5 rfl rfl rfl rfl rfl rfl rfl ⟨rfl, rfl, rfl, rfl, rfl⟩ rfl rfl rfl rfl rfl (by kernel_rfl) Try.func5 (by kernel_rfl)
    (of_decide_eq_true (by kernel_rfl)) (by unfold Func.isWrapper; first | (rw [if_pos (by decide +kernel)]; kernel_rfl) | (rw [if_neg (by decide +kernel)]; exact ⟨rfl, rfl⟩))
    (fun os started H enc _ => lifted H7 os started H enc)

theorem proved : Rows.DringProductsSaid := over prog17
#print axioms proved
end Go.Proofs.Ytngbmaojgfocgaa.dr.dringProducts
