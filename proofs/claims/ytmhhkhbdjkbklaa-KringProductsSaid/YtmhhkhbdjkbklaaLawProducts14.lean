/- The product in the transform is that of the definition and that of polynomials modulo X^256 + 1; for every input of the statement, with no condition. -/
import Derived.Test.YtmhhkhbdjkbklaaM14G
import Derived.Test.YtmhhkhbdjkbklaaProd14
import Derived.Deep.RegionHeld
namespace Go.Proofs.Ytmhhkhbdjkbklaa.kringProducts
open Go.RowKit Go.ChangeShapes Go.WideShapes Go.ChangeAt
set_option linter.unusedVariables false

set_option maxHeartbeats 16000000 in
set_option maxRecDepth 100000 in
theorem walk (H : Prog14) (a b c a2 b2 c2 : Int) (w : World) (ha : (Lit.int .u32 a).wf = true) (hb : (Lit.int .u32 b).wf = true) (hc : (Lit.int .u32 c).wf = true) (ha2 : (Lit.int .u32 a2).wf = true) (hb2 : (Lit.int .u32 b2).wf = true) (hc2 : (Lit.int .u32 c2).wf = true) :
    Calls Try.prog 5 #[.agg #[.int .u32 a, .int .u32 b, .int .u32 c], .agg #[.int .u32 a2, .int .u32 b2, .int .u32 c2]] w fun e w' => e = .returned (.bool true) ∧ Past w w' := by
  have HAW := Lib.hid (fun w => awake14 H w)
  have HSP := Lib.hid (fun w => spread_any a b c (by have := bounds_u32 ha; omega) (by have := bounds_u32 hb; omega) (by have := bounds_u32 hc; omega) w)
  have HSP2 := Lib.hid (fun w => spread_any a2 b2 c2 (by have := bounds_u32 ha2; omega) (by have := bounds_u32 hb2; omega) (by have := bounds_u32 hc2; omega) w)
  have hf := spr_rng a b c
  have hg := spr_rng a2 b2 c2
  generalize spr a b c = F at *
  generalize spr a2 b2 c2 = G at *
  have HM := Lib.hid (fun w => H.mul F G w hf hg)
  have HRM := Lib.hid (fun w => rmul_any F G hf hg w)
  have HNF := Lib.hid (fun w => H.ntt F w hf)
  have HNG := Lib.hid (fun w => H.ntt G w hg)
  have HMN := Lib.hid (fun w => H.mul (ntt F) (ntt G) w (R16.of_low (ntt_low _)) (R16.of_low (ntt_low _)))
  have HI := Lib.hid (fun w => H.intt (mulF (ntt F) (ntt G)) w (R16.of_low (mulF_low _ _)))
  have HRP := Lib.hid (fun w => rproduct_any F G hf hg w)
  rw [arr_ext (k := .u16) (n := 256) (intt_prod F G)] at HI
  have heq := eqA (prod F G 256) (prod F G 256) fun _ _ => rfl
  have heq2 := eqA (mulF F G) (mulF F G) fun _ _ => rfl
  have heg := egA
  have hlf := (lst_len F).1
  have hlg := (lst_len G).1
  have hlq := (lst_len (mulF (ntt F) (ntt G))).2
  have HSF : Hid ((arr .u16 256 fun _ => 0).size = (arr .u16 256 F).size) := Lib.hid (by rw [arr_size, arr_size])
  have HSG : Hid ((arr .u16 256 fun _ => 0).size = (arr .u16 256 G).size) := Lib.hid (by rw [arr_size, arr_size])
  have HSQ : Hid ((arr .u16 256 fun _ => 0).size = (arr .u16 256 (mulF (ntt F) (ntt G))).size) := Lib.hid (by rw [arr_size, arr_size])
  have hi2 := inf256 F
  have hi3 := inf256 G
  have hi4 := infP (mulF (ntt F) (ntt G))
  have HOF := Lib.hid (arr_one .u16 256 F)
  have HOG := Lib.hid (arr_one .u16 256 G)
  have HOQ := Lib.hid (arr_one .u16 256 (mulF (ntt F) (ntt G)))
  have HRL := Lib.hid (fun (w : World) (g : Nat) (h : Row w g 26 (arr .u16 256 F)) => row_lst h)
  have HRG := Lib.hid (fun (w : World) (g : Nat) (h : Row w g 26 (arr .u16 256 G)) => row_lst h)
  have HRQ := Lib.hid (fun (w : World) (g : Nat) (h : Row w g 28 (arr .u16 256 (mulF (ntt F) (ntt G)))) => row_lst h)
  have hz := zero256
  have HZP := Lib.hid zeroP
  simp only [arr_lst] at HSP HSP2 HM HRM HNF HNG HMN HI HRP heq heq2 hi2 hi3 hi4 HSF HSG HSQ HOF HOG HOQ HRL HRG HRQ hz HZP
  generalize lst F = lf at *
  generalize lst G = lg at *
  generalize lst (mulF (ntt F) (ntt G)) = lq at *
  generalize lst (ntt F) = lnf at *
  generalize lst (ntt G) = lng at *
  generalize lst (mulF F G) = lm at *
  generalize lst (prod F G 256) = lp at *
  generalize (lst fun _ => 0) = lz at *
  clear hf hg H
  go_enter Try.func5, Try.ntmps5
  obtain ⟨g, hg⟩ : ∃ g, w.heap.size = g := ⟨_, rfl⟩
  obtain ⟨wb0, hwb0⟩ : ∃ w', w.alloc (.cells #[.int .u32 a, .int .u32 b, .int .u32 c] 23) = w' := ⟨_, rfl⟩
  have pwb0 : Past w wb0 := by rw [← hwb0]; exact (Below.refl _ w).alloc (Nat.le_refl _) _
  have swb0 : wb0.heap.size = g + 1 := by rw [← hwb0, World.size_alloc]; omega
  have rwb0 : Row wb0 (g) 23 #[.int .u32 a, .int .u32 b, .int .u32 c] := by
    have := Row.new w 23 #[.int .u32 a, .int .u32 b, .int .u32 c]
    rw [hwb0, show w.heap.size = g by omega] at this
    exact this
  obtain ⟨wb1, hwb1⟩ : ∃ w', wb0.alloc (.cells #[.int .u32 a2, .int .u32 b2, .int .u32 c2] 23) = w' := ⟨_, rfl⟩
  have pwb1 : Past wb0 wb1 := by rw [← hwb1]; exact (Below.refl _ wb0).alloc (Nat.le_refl _) _
  have swb1 : wb1.heap.size = g + 1 + 1 := by rw [← hwb1, World.size_alloc]; omega
  have rwb1 : Row wb1 (g + 1) 23 #[.int .u32 a2, .int .u32 b2, .int .u32 c2] := by
    have := Row.new wb0 23 #[.int .u32 a2, .int .u32 b2, .int .u32 c2]
    rw [hwb1, show wb0.heap.size = g + 1 by omega] at this
    exact this
  go_upto_region 1 with (fail)
  try rw [hwb0]; try rw [hwb1]
  try rw [hg]
  have HPB : Hid (Past w wb1) := Lib.hid (pwb0.trans' pwb1)
  have HRB : Hid (Row wb1 (g) 23 #[.int .u32 a, .int .u32 b, .int .u32 c] ∧ Row wb1 (g + 1) 23 #[.int .u32 a2, .int .u32 b2, .int .u32 c2]) := Lib.hid ⟨rwb0.past pwb1, rwb1⟩
  clear hg hwb0 pwb0 rwb0 swb0 hwb1 pwb1 rwb1 swb1
  go_wp2_with fail
  refine (HAW.out wb1).mono ?_
  rintro e w1 ⟨rfl, hp⟩
  have H1 : Hid (Past w w1) := Lib.hid (HPB.out.trans' hp)
  have HSD : Hid (∀ w', Past w1 w' → Row w' (g) 23 #[.int .u32 a, .int .u32 b, .int .u32 c] ∧ Row w' (g + 1) 23 #[.int .u32 a2, .int .u32 b2, .int .u32 c2]) := Lib.hid (fun w' h => ⟨HRB.out.1.past (hp.trans' h), HRB.out.2.past (hp.trans' h)⟩)
  clear hp HAW HRB HPB
  obtain k0 := (HSD.out w1 (Below.refl _ _)).1.cell 0
  obtain k1 := (HSD.out w1 (Below.refl _ _)).1.cell 1
  obtain k2 := (HSD.out w1 (Below.refl _ _)).1.cell 2
  go_wp2_with fail
  refine (HSP.out w1).mono ?_
  rintro e w2 ⟨rfl, hp⟩
  have HP2 := Lib.hid hp
  clear hp k0 k1 k2
  obtain ⟨u, hu⟩ : ∃ u, w2.heap.size = u := ⟨_, rfl⟩
  have hfr := fresh_row w2 26 lz.toArray lf.toArray
  have hr0 := Row.new w2 26 lz.toArray
  have hsN := HSF.out
  have hoN := HOF.out
  rw [hu] at hfr hr0
  obtain ⟨w3, hw3⟩ : ∃ w', (w2.alloc (.cells lz.toArray 26)).setRow u lf.toArray = w' := ⟨_, rfl⟩
  rw [hw3] at hfr
  have HPw3 : Hid (Past w2 w3) := Lib.hid hfr.2
  have HROWw3 := Lib.hid hfr.1
  have HW3 := Lib.hid hw3
  clear hw3 hfr
  go_upto_region 4 with (refine wpList_store_row rfl 26 _ _ rfl u _ rfl rfl _ _ hr0 hi2 hsN hoN ?_)
  rw [HW3.out]
  clear HW3 hr0 hsN hoN hu
  obtain k0 := (HSD.out w3 (HP2.out.trans' HPw3.out)).2.cell 0
  obtain k1 := (HSD.out w3 (HP2.out.trans' HPw3.out)).2.cell 1
  obtain k2 := (HSD.out w3 (HP2.out.trans' HPw3.out)).2.cell 2
  go_wp2_with fail
  refine (HSP2.out w3).mono ?_
  rintro e w4 ⟨rfl, hp⟩
  have HP4 := Lib.hid hp
  clear hp k0 k1 k2 HSD HSP HSP2
  obtain ⟨v, hu⟩ : ∃ u, w4.heap.size = u := ⟨_, rfl⟩
  have hfr := fresh_row w4 26 lz.toArray lg.toArray
  have hr0 := Row.new w4 26 lz.toArray
  have hsN := HSG.out
  have hoN := HOG.out
  rw [hu] at hfr hr0
  obtain ⟨w5, hw3⟩ : ∃ w', (w4.alloc (.cells lz.toArray 26)).setRow v lg.toArray = w' := ⟨_, rfl⟩
  rw [hw3] at hfr
  have HPw5 : Hid (Past w4 w5) := Lib.hid hfr.2
  have HROWw5 := Lib.hid hfr.1
  have HW3 := Lib.hid hw3
  clear hw3 hfr
  go_upto_region 5 with (refine wpList_store_row rfl 26 _ _ rfl v _ rfl rfl _ _ hr0 hi3 hsN hoN ?_)
  rw [HW3.out]
  clear HW3 hr0 hsN hoN hu
  have HW5 : Hid (Past w w5) := Lib.hid (H1.out.trans' (HP2.out.trans' (HPw3.out.trans' (HP4.out.trans' HPw5.out))))
  have HSK : Hid (∀ w', Past w5 w' → (w'.rangeAt u 0 lf ∧ w'.rangeAt v 0 lg)) := Lib.hid (fun w' h => ⟨HRL.out _ _ (HROWw3.out.past ((HP4.out.trans' HPw5.out).trans' h)), HRG.out _ _ (HROWw5.out.past h)⟩)
  have HPD : Hid (Past w5 w5.drew) := Lib.hid (Past.drewN (Below.refl _ w5) 1)
  clear hz hi2 hi3
  refine wp_region_held_drew (S := fun w' => w'.rangeAt u 0 lf ∧ w'.rangeAt v 0 lg) (by kernel_rfl) (HSK.out _ HPD.out) (fun hH => ?_)
  refine held_take 0 14 rfl rfl (by kernel_rfl) (by kernel_rfl) (by kernel_rfl) (fun _ _ _ h => h) (yieldsIf_load_mid (by kernel_rfl) 26 (.tmp 5) rfl u 0 rfl lf _ (fun _ h => h.1) Try.underlying26 rfl hlf) hH ?_
  refine held_take 1 15 rfl rfl (by kernel_rfl) (by kernel_rfl) (by kernel_rfl) (fun _ _ _ h => h) (yieldsIf_load_mid (by kernel_rfl) 26 (.tmp 6) rfl v 0 rfl lg _ (fun _ h => h.2) Try.underlying26 rfl hlg) hH ?_
  refine held_take 3 17 rfl rfl (by kernel_rfl) (by kernel_rfl) (by kernel_rfl) (fun _ _ _ h => h) (yieldsIf_load_mid (by kernel_rfl) 26 (.tmp 5) rfl u 0 rfl lf _ (fun _ h => h.1) Try.underlying26 rfl hlf) hH ?_
  refine held_take 4 18 rfl rfl (by kernel_rfl) (by kernel_rfl) (by kernel_rfl) (fun _ _ _ h => h) (yieldsIf_load_mid (by kernel_rfl) 26 (.tmp 6) rfl v 0 rfl lg _ (fun _ h => h.2) Try.underlying26 rfl hlg) hH ?_
  refine wpAnyH_ready (rs := [2]) (by kernel_rfl) (by simp) ?_
  refine AllReadyH.cons rfl (fun K hK => ?_) AllReadyH.nil
  go_simp
  refine (HM.out w5.drew).mono ?_
  rintro e1 wc1 ⟨rfl, hp⟩
  have HPc1 : Hid (Past w5 wc1) := Lib.hid (HPD.out.trans' hp)
  clear hp
  refine hK.out _ _ (HSK.out _ HPc1.out) (fun hH => ?_)
  clear hK K
  refine wpAnyH_ready (rs := [5]) (by kernel_rfl) (by simp) ?_
  refine AllReadyH.cons rfl (fun K hK => ?_) AllReadyH.nil
  go_simp
  refine (HRM.out wc1).mono ?_
  rintro e2 wc2 ⟨rfl, hp⟩
  have HPc2 : Hid (Past w5 wc2) := Lib.hid (HPc1.out.trans' hp)
  clear hp
  refine hK.out _ _ (HSK.out _ HPc2.out) (fun hH => ?_)
  clear hK K
  refine held_take 6 20 (v := .bool false) rfl rfl (by kernel_rfl) (by kernel_rfl) (by kernel_rfl) (fun _ _ _ h => h) (Or.inl ⟨by kernel_rfl, fun w _ => by go_simp⟩) hH ?_
  refine wpAnyH_done (by kernel_rfl) ?_ _
  go_simp
  have HP56 : Hid (Past w5 wc2) := HPc2
  clear hH
  generalize wc2 = w6 at *
  have HW6 : Hid (Past w w6) := Lib.hid (HW5.out.trans' HP56.out)
  have HSK6 : Hid (∀ w', Past w6 w' → (w'.rangeAt u 0 lf ∧ w'.rangeAt v 0 lg)) := Lib.hid (fun w' h => HSK.out _ (HP56.out.trans' h))
  obtain ⟨wd6, hwd⟩ : ∃ w', w' = w6.drew := ⟨_, rfl⟩
  have HPD6 : Hid (Past w6 wd6) := Lib.hid (by rw [hwd]; exact Past.drewN (Below.refl _ w6) 1)
  have HWD := Lib.hid hwd
  have HS6 := Lib.hid (HSK6.out _ (Past.drewN (Below.refl _ w6) 1))
  clear hwd
  go_upto_region 7 with (fail)
  have hz := HZP.out
  refine wp_region_held_drew (S := fun w' => w'.rangeAt u 0 lf ∧ w'.rangeAt v 0 lg) (by kernel_rfl) HS6.out (fun hH => ?_)
  change wpAnyH _ _ _ _ _ _ _ _ (World.drew _)
  rw [← HWD.out]
  clear hH
  have hH := HSK6.out _ HPD6.out
  refine held_take 0 21 rfl rfl (by kernel_rfl) (by kernel_rfl) (by kernel_rfl) (fun _ _ _ h => h) (yieldsIf_load_mid (by kernel_rfl) 26 (.tmp 5) rfl u 0 rfl lf _ (fun _ h => h.1) Try.underlying26 rfl hlf) hH ?_
  refine held_take 2 23 rfl rfl (by kernel_rfl) (by kernel_rfl) (by kernel_rfl) (fun _ _ _ h => h) (yieldsIf_load_mid (by kernel_rfl) 26 (.tmp 6) rfl v 0 rfl lg _ (fun _ h => h.2) Try.underlying26 rfl hlg) hH ?_
  refine wpAnyH_ready (rs := [1, 5]) (by kernel_rfl) (by simp) ?_
  refine AllReadyH.cons rfl (fun K hK => ?_) (AllReadyH.cons rfl (fun K hK => ?_) AllReadyH.nil)
  · go_simp
    refine (HNF.out wd6).mono ?_
    rintro e3 wc3 ⟨rfl, hp⟩
    have HPc3 : Hid (Past w6 wc3) := Lib.hid (HPD6.out.trans' hp)
    clear hp
    refine hK.out _ _ (HSK6.out _ HPc3.out) (fun hH => ?_)
    clear hK K
    refine wpAnyH_ready (rs := [3, 5]) (by kernel_rfl) (by simp) ?_
    refine AllReadyH.cons rfl (fun K hK => ?_) (AllReadyH.cons rfl (fun K hK => ?_) AllReadyH.nil)
    · go_simp
      refine (HNG.out wc3).mono ?_
      rintro e4 wc4 ⟨rfl, hp⟩
      have HPc4 : Hid (Past w6 wc4) := Lib.hid (HPc3.out.trans' hp)
      clear hp
      refine hK.out _ _ (HSK6.out _ HPc4.out) (fun hH => ?_)
      clear hK K
      refine wpAnyH_ready (rs := [4, 5]) (by kernel_rfl) (by simp) ?_
      refine AllReadyH.cons rfl (fun K hK => ?_) (AllReadyH.cons rfl (fun K hK => ?_) AllReadyH.nil)
      · go_simp
        refine (HMN.out wc4).mono ?_
        rintro e5 wc5 ⟨rfl, hp⟩
        have HPc5 : Hid (Past w6 wc5) := Lib.hid (HPc4.out.trans' hp)
        clear hp
        refine hK.out _ _ (HSK6.out _ HPc5.out) (fun hH => ?_)
        clear hK K
        refine wpAnyH_ready (rs := [5]) (by kernel_rfl) (by simp) ?_
        refine AllReadyH.cons rfl (fun K hK => ?_) AllReadyH.nil
        go_simp
        obtain ⟨z, hu⟩ : ∃ u, wc5.heap.size = u := ⟨_, rfl⟩
        obtain ⟨wc6, hwc⟩ : ∃ w', wc5.alloc (.cells lz.toArray 28) = w' := ⟨_, rfl⟩
        have HPc6 : Hid (Past w6 wc6) := Lib.hid (by rw [← hwc]; exact HPc5.out.alloc HPc5.out.size _)
        have HRc6 : Hid (Row wc6 z 28 lz.toArray) := Lib.hid (by rw [← hwc, ← hu]; exact Row.new _ _ _)
        have HUc : Hid (w6.heap.size ≤ z) := Lib.hid (by rw [← hu]; exact HPc5.out.size)
        try rw [hwc]
        try rw [hu]
        clear hwc hu
        refine hK.out _ _ (HSK6.out _ HPc6.out) (fun hH => ?_)
        clear hK K
        refine wpAnyH_ready (rs := [6]) (by kernel_rfl) (by simp) ?_
        refine AllReadyH.cons rfl (fun K hK => ?_) AllReadyH.nil
        refine step_wanted rfl ?_
        refine wp_store_row 28 (.tmp 7) (.tmp 25) rfl z lq.toArray rfl rfl _ _ HRc6.out hi4 HSQ.out HOQ.out ?_
        obtain ⟨wc7, hwc⟩ : ∃ w', wc6.setRow z lq.toArray = w' := ⟨_, rfl⟩
        have HPc7 : Hid (Past w6 wc7) := Lib.hid (by rw [← hwc]; exact below_setRow HPc6.out HUc.out _)
        have HRc7 : Hid (Row wc7 z 28 lq.toArray) := Lib.hid (by rw [← hwc]; exact setRow_heap _ _ _ _ _ _ HRc6.out)
        rw [hwc]
        clear hwc
        refine hK.out _ _ (HSK6.out _ HPc7.out) (fun hH => ?_)
        clear hK K
        refine wpAnyH_done (by kernel_rfl) ?_ _
        go_simp
        have HP68 : Hid (Past w6 wc7) := HPc7
        have HSK8 : Hid (∀ w', Past wc7 w' → (w'.rangeAt u 0 lf ∧ w'.rangeAt v 0 lg ∧ w'.rangeAt z 0 lq)) := Lib.hid (fun w' h => ⟨(HSK6.out _ (HPc7.out.trans' h)).1, (HSK6.out _ (HPc7.out.trans' h)).2, HRQ.out _ _ (HRc7.out.past h)⟩)
        clear hH
        generalize wc7 = w8 at *
        have HPD8 : Hid (Past w8 w8.drew) := Lib.hid (Past.drewN (Below.refl _ w8) 1)
        go_upto_region 8 with (fail)
        refine wp_region_held_drew (S := fun w' => w'.rangeAt u 0 lf ∧ w'.rangeAt v 0 lg ∧ w'.rangeAt z 0 lq) (by kernel_rfl) (HSK8.out _ HPD8.out) (fun hH => ?_)
        refine held_take 0 26 rfl rfl (by kernel_rfl) (by kernel_rfl) (by kernel_rfl) (fun _ _ _ h => h) (yieldsIf_load_mid (by kernel_rfl) 28 (.tmp 7) rfl z 0 rfl lq _ (fun _ h => h.2.2) Try.underlying28 rfl hlq) hH ?_
        refine held_take 2 28 rfl rfl (by kernel_rfl) (by kernel_rfl) (by kernel_rfl) (fun _ _ _ h => h) (yieldsIf_load_mid (by kernel_rfl) 26 (.tmp 5) rfl u 0 rfl lf _ (fun _ h => h.1) Try.underlying26 rfl hlf) hH ?_
        refine held_take 3 29 rfl rfl (by kernel_rfl) (by kernel_rfl) (by kernel_rfl) (fun _ _ _ h => h) (yieldsIf_load_mid (by kernel_rfl) 26 (.tmp 6) rfl v 0 rfl lg _ (fun _ h => h.2.1) Try.underlying26 rfl hlg) hH ?_
        refine wpAnyH_ready (rs := [1]) (by kernel_rfl) (by simp) ?_
        refine AllReadyH.cons rfl (fun K hK => ?_) AllReadyH.nil
        go_simp
        refine (HI.out w8.drew).mono ?_
        rintro e8 wc8 ⟨rfl, hp⟩
        have HPc8 : Hid (Past w8 wc8) := Lib.hid (HPD8.out.trans' hp)
        clear hp
        refine hK.out _ _ (HSK8.out _ HPc8.out) (fun hH => ?_)
        clear hK K
        refine wpAnyH_ready (rs := [4]) (by kernel_rfl) (by simp) ?_
        refine AllReadyH.cons rfl (fun K hK => ?_) AllReadyH.nil
        go_simp
        refine (HRP.out wc8).mono ?_
        rintro e9 wc9 ⟨rfl, hp⟩
        have HPc9 : Hid (Past w8 wc9) := Lib.hid (HPc8.out.trans' hp)
        clear hp
        refine hK.out _ _ (HSK8.out _ HPc9.out) (fun hH => ?_)
        clear hK K
        refine held_take 5 31 (v := .bool true) rfl rfl (by kernel_rfl) (by kernel_rfl) (by kernel_rfl) (fun _ _ _ h => h) (Or.inl ⟨by kernel_rfl, fun w _ => by go_simp⟩) hH ?_
        refine held_take 6 4 (v := .bool true) rfl rfl (by kernel_rfl) (by kernel_rfl) (by kernel_rfl) (fun _ _ _ h => h) (Or.inl ⟨by kernel_rfl, fun w _ => by kernel_rfl⟩) hH ?_
        refine wpAnyH_done (by kernel_rfl) ?_ _
        go_simp
        go_wp2_with fail
        go_ret
        exact ⟨rfl, HW6.out.trans' (HP68.out.trans' HPc9.out)⟩
      · go_simp
        obtain ⟨z, hu⟩ : ∃ u, wc4.heap.size = u := ⟨_, rfl⟩
        obtain ⟨wc10, hwc⟩ : ∃ w', wc4.alloc (.cells lz.toArray 28) = w' := ⟨_, rfl⟩
        have HPc10 : Hid (Past w6 wc10) := Lib.hid (by rw [← hwc]; exact HPc4.out.alloc HPc4.out.size _)
        have HRc10 : Hid (Row wc10 z 28 lz.toArray) := Lib.hid (by rw [← hwc, ← hu]; exact Row.new _ _ _)
        have HUc : Hid (w6.heap.size ≤ z) := Lib.hid (by rw [← hu]; exact HPc4.out.size)
        try rw [hwc]
        try rw [hu]
        clear hwc hu
        refine hK.out _ _ (HSK6.out _ HPc10.out) (fun hH => ?_)
        clear hK K
        refine wpAnyH_ready (rs := [4]) (by kernel_rfl) (by simp) ?_
        refine AllReadyH.cons rfl (fun K hK => ?_) AllReadyH.nil
        go_simp
        refine (HMN.out wc10).mono ?_
        rintro e11 wc11 ⟨rfl, hp⟩
        have HPc11 : Hid (Past w6 wc11) := Lib.hid (HPc10.out.trans' hp)
        have HRc11 := Lib.hid (HRc10.out.past hp)
        clear hp
        refine hK.out _ _ (HSK6.out _ HPc11.out) (fun hH => ?_)
        clear hK K
        refine wpAnyH_ready (rs := [6]) (by kernel_rfl) (by simp) ?_
        refine AllReadyH.cons rfl (fun K hK => ?_) AllReadyH.nil
        refine step_wanted rfl ?_
        refine wp_store_row 28 (.tmp 7) (.tmp 25) rfl z lq.toArray rfl rfl _ _ HRc11.out hi4 HSQ.out HOQ.out ?_
        obtain ⟨wc12, hwc⟩ : ∃ w', wc11.setRow z lq.toArray = w' := ⟨_, rfl⟩
        have HPc12 : Hid (Past w6 wc12) := Lib.hid (by rw [← hwc]; exact below_setRow HPc11.out HUc.out _)
        have HRc12 : Hid (Row wc12 z 28 lq.toArray) := Lib.hid (by rw [← hwc]; exact setRow_heap _ _ _ _ _ _ HRc11.out)
        rw [hwc]
        clear hwc
        refine hK.out _ _ (HSK6.out _ HPc12.out) (fun hH => ?_)
        clear hK K
        refine wpAnyH_done (by kernel_rfl) ?_ _
        go_simp
        have HP68 : Hid (Past w6 wc12) := HPc12
        have HSK8 : Hid (∀ w', Past wc12 w' → (w'.rangeAt u 0 lf ∧ w'.rangeAt v 0 lg ∧ w'.rangeAt z 0 lq)) := Lib.hid (fun w' h => ⟨(HSK6.out _ (HPc12.out.trans' h)).1, (HSK6.out _ (HPc12.out.trans' h)).2, HRQ.out _ _ (HRc12.out.past h)⟩)
        clear hH
        generalize wc12 = w8 at *
        have HPD8 : Hid (Past w8 w8.drew) := Lib.hid (Past.drewN (Below.refl _ w8) 1)
        go_upto_region 8 with (fail)
        refine wp_region_held_drew (S := fun w' => w'.rangeAt u 0 lf ∧ w'.rangeAt v 0 lg ∧ w'.rangeAt z 0 lq) (by kernel_rfl) (HSK8.out _ HPD8.out) (fun hH => ?_)
        refine held_take 0 26 rfl rfl (by kernel_rfl) (by kernel_rfl) (by kernel_rfl) (fun _ _ _ h => h) (yieldsIf_load_mid (by kernel_rfl) 28 (.tmp 7) rfl z 0 rfl lq _ (fun _ h => h.2.2) Try.underlying28 rfl hlq) hH ?_
        refine held_take 2 28 rfl rfl (by kernel_rfl) (by kernel_rfl) (by kernel_rfl) (fun _ _ _ h => h) (yieldsIf_load_mid (by kernel_rfl) 26 (.tmp 5) rfl u 0 rfl lf _ (fun _ h => h.1) Try.underlying26 rfl hlf) hH ?_
        refine held_take 3 29 rfl rfl (by kernel_rfl) (by kernel_rfl) (by kernel_rfl) (fun _ _ _ h => h) (yieldsIf_load_mid (by kernel_rfl) 26 (.tmp 6) rfl v 0 rfl lg _ (fun _ h => h.2.1) Try.underlying26 rfl hlg) hH ?_
        refine wpAnyH_ready (rs := [1]) (by kernel_rfl) (by simp) ?_
        refine AllReadyH.cons rfl (fun K hK => ?_) AllReadyH.nil
        go_simp
        refine (HI.out w8.drew).mono ?_
        rintro e13 wc13 ⟨rfl, hp⟩
        have HPc13 : Hid (Past w8 wc13) := Lib.hid (HPD8.out.trans' hp)
        clear hp
        refine hK.out _ _ (HSK8.out _ HPc13.out) (fun hH => ?_)
        clear hK K
        refine wpAnyH_ready (rs := [4]) (by kernel_rfl) (by simp) ?_
        refine AllReadyH.cons rfl (fun K hK => ?_) AllReadyH.nil
        go_simp
        refine (HRP.out wc13).mono ?_
        rintro e14 wc14 ⟨rfl, hp⟩
        have HPc14 : Hid (Past w8 wc14) := Lib.hid (HPc13.out.trans' hp)
        clear hp
        refine hK.out _ _ (HSK8.out _ HPc14.out) (fun hH => ?_)
        clear hK K
        refine held_take 5 31 (v := .bool true) rfl rfl (by kernel_rfl) (by kernel_rfl) (by kernel_rfl) (fun _ _ _ h => h) (Or.inl ⟨by kernel_rfl, fun w _ => by go_simp⟩) hH ?_
        refine held_take 6 4 (v := .bool true) rfl rfl (by kernel_rfl) (by kernel_rfl) (by kernel_rfl) (fun _ _ _ h => h) (Or.inl ⟨by kernel_rfl, fun w _ => by kernel_rfl⟩) hH ?_
        refine wpAnyH_done (by kernel_rfl) ?_ _
        go_simp
        go_wp2_with fail
        go_ret
        exact ⟨rfl, HW6.out.trans' (HP68.out.trans' HPc14.out)⟩
    · go_simp
      obtain ⟨z, hu⟩ : ∃ u, wc3.heap.size = u := ⟨_, rfl⟩
      obtain ⟨wc15, hwc⟩ : ∃ w', wc3.alloc (.cells lz.toArray 28) = w' := ⟨_, rfl⟩
      have HPc15 : Hid (Past w6 wc15) := Lib.hid (by rw [← hwc]; exact HPc3.out.alloc HPc3.out.size _)
      have HRc15 : Hid (Row wc15 z 28 lz.toArray) := Lib.hid (by rw [← hwc, ← hu]; exact Row.new _ _ _)
      have HUc : Hid (w6.heap.size ≤ z) := Lib.hid (by rw [← hu]; exact HPc3.out.size)
      try rw [hwc]
      try rw [hu]
      clear hwc hu
      refine hK.out _ _ (HSK6.out _ HPc15.out) (fun hH => ?_)
      clear hK K
      refine wpAnyH_ready (rs := [3]) (by kernel_rfl) (by simp) ?_
      refine AllReadyH.cons rfl (fun K hK => ?_) AllReadyH.nil
      go_simp
      refine (HNG.out wc15).mono ?_
      rintro e16 wc16 ⟨rfl, hp⟩
      have HPc16 : Hid (Past w6 wc16) := Lib.hid (HPc15.out.trans' hp)
      have HRc16 := Lib.hid (HRc15.out.past hp)
      clear hp
      refine hK.out _ _ (HSK6.out _ HPc16.out) (fun hH => ?_)
      clear hK K
      refine wpAnyH_ready (rs := [4]) (by kernel_rfl) (by simp) ?_
      refine AllReadyH.cons rfl (fun K hK => ?_) AllReadyH.nil
      go_simp
      refine (HMN.out wc16).mono ?_
      rintro e17 wc17 ⟨rfl, hp⟩
      have HPc17 : Hid (Past w6 wc17) := Lib.hid (HPc16.out.trans' hp)
      have HRc17 := Lib.hid (HRc16.out.past hp)
      clear hp
      refine hK.out _ _ (HSK6.out _ HPc17.out) (fun hH => ?_)
      clear hK K
      refine wpAnyH_ready (rs := [6]) (by kernel_rfl) (by simp) ?_
      refine AllReadyH.cons rfl (fun K hK => ?_) AllReadyH.nil
      refine step_wanted rfl ?_
      refine wp_store_row 28 (.tmp 7) (.tmp 25) rfl z lq.toArray rfl rfl _ _ HRc17.out hi4 HSQ.out HOQ.out ?_
      obtain ⟨wc18, hwc⟩ : ∃ w', wc17.setRow z lq.toArray = w' := ⟨_, rfl⟩
      have HPc18 : Hid (Past w6 wc18) := Lib.hid (by rw [← hwc]; exact below_setRow HPc17.out HUc.out _)
      have HRc18 : Hid (Row wc18 z 28 lq.toArray) := Lib.hid (by rw [← hwc]; exact setRow_heap _ _ _ _ _ _ HRc17.out)
      rw [hwc]
      clear hwc
      refine hK.out _ _ (HSK6.out _ HPc18.out) (fun hH => ?_)
      clear hK K
      refine wpAnyH_done (by kernel_rfl) ?_ _
      go_simp
      have HP68 : Hid (Past w6 wc18) := HPc18
      have HSK8 : Hid (∀ w', Past wc18 w' → (w'.rangeAt u 0 lf ∧ w'.rangeAt v 0 lg ∧ w'.rangeAt z 0 lq)) := Lib.hid (fun w' h => ⟨(HSK6.out _ (HPc18.out.trans' h)).1, (HSK6.out _ (HPc18.out.trans' h)).2, HRQ.out _ _ (HRc18.out.past h)⟩)
      clear hH
      generalize wc18 = w8 at *
      have HPD8 : Hid (Past w8 w8.drew) := Lib.hid (Past.drewN (Below.refl _ w8) 1)
      go_upto_region 8 with (fail)
      refine wp_region_held_drew (S := fun w' => w'.rangeAt u 0 lf ∧ w'.rangeAt v 0 lg ∧ w'.rangeAt z 0 lq) (by kernel_rfl) (HSK8.out _ HPD8.out) (fun hH => ?_)
      refine held_take 0 26 rfl rfl (by kernel_rfl) (by kernel_rfl) (by kernel_rfl) (fun _ _ _ h => h) (yieldsIf_load_mid (by kernel_rfl) 28 (.tmp 7) rfl z 0 rfl lq _ (fun _ h => h.2.2) Try.underlying28 rfl hlq) hH ?_
      refine held_take 2 28 rfl rfl (by kernel_rfl) (by kernel_rfl) (by kernel_rfl) (fun _ _ _ h => h) (yieldsIf_load_mid (by kernel_rfl) 26 (.tmp 5) rfl u 0 rfl lf _ (fun _ h => h.1) Try.underlying26 rfl hlf) hH ?_
      refine held_take 3 29 rfl rfl (by kernel_rfl) (by kernel_rfl) (by kernel_rfl) (fun _ _ _ h => h) (yieldsIf_load_mid (by kernel_rfl) 26 (.tmp 6) rfl v 0 rfl lg _ (fun _ h => h.2.1) Try.underlying26 rfl hlg) hH ?_
      refine wpAnyH_ready (rs := [1]) (by kernel_rfl) (by simp) ?_
      refine AllReadyH.cons rfl (fun K hK => ?_) AllReadyH.nil
      go_simp
      refine (HI.out w8.drew).mono ?_
      rintro e19 wc19 ⟨rfl, hp⟩
      have HPc19 : Hid (Past w8 wc19) := Lib.hid (HPD8.out.trans' hp)
      clear hp
      refine hK.out _ _ (HSK8.out _ HPc19.out) (fun hH => ?_)
      clear hK K
      refine wpAnyH_ready (rs := [4]) (by kernel_rfl) (by simp) ?_
      refine AllReadyH.cons rfl (fun K hK => ?_) AllReadyH.nil
      go_simp
      refine (HRP.out wc19).mono ?_
      rintro e20 wc20 ⟨rfl, hp⟩
      have HPc20 : Hid (Past w8 wc20) := Lib.hid (HPc19.out.trans' hp)
      clear hp
      refine hK.out _ _ (HSK8.out _ HPc20.out) (fun hH => ?_)
      clear hK K
      refine held_take 5 31 (v := .bool true) rfl rfl (by kernel_rfl) (by kernel_rfl) (by kernel_rfl) (fun _ _ _ h => h) (Or.inl ⟨by kernel_rfl, fun w _ => by go_simp⟩) hH ?_
      refine held_take 6 4 (v := .bool true) rfl rfl (by kernel_rfl) (by kernel_rfl) (by kernel_rfl) (fun _ _ _ h => h) (Or.inl ⟨by kernel_rfl, fun w _ => by kernel_rfl⟩) hH ?_
      refine wpAnyH_done (by kernel_rfl) ?_ _
      go_simp
      go_wp2_with fail
      go_ret
      exact ⟨rfl, HW6.out.trans' (HP68.out.trans' HPc20.out)⟩
  · go_simp
    obtain ⟨z, hu⟩ : ∃ u, wd6.heap.size = u := ⟨_, rfl⟩
    obtain ⟨wc21, hwc⟩ : ∃ w', wd6.alloc (.cells lz.toArray 28) = w' := ⟨_, rfl⟩
    have HPc21 : Hid (Past w6 wc21) := Lib.hid (by rw [← hwc]; exact HPD6.out.alloc HPD6.out.size _)
    have HRc21 : Hid (Row wc21 z 28 lz.toArray) := Lib.hid (by rw [← hwc, ← hu]; exact Row.new _ _ _)
    have HUc : Hid (w6.heap.size ≤ z) := Lib.hid (by rw [← hu]; exact HPD6.out.size)
    try rw [hwc]
    try rw [hu]
    clear hwc hu
    refine hK.out _ _ (HSK6.out _ HPc21.out) (fun hH => ?_)
    clear hK K
    refine wpAnyH_ready (rs := [1]) (by kernel_rfl) (by simp) ?_
    refine AllReadyH.cons rfl (fun K hK => ?_) AllReadyH.nil
    go_simp
    refine (HNF.out wc21).mono ?_
    rintro e22 wc22 ⟨rfl, hp⟩
    have HPc22 : Hid (Past w6 wc22) := Lib.hid (HPc21.out.trans' hp)
    have HRc22 := Lib.hid (HRc21.out.past hp)
    clear hp
    refine hK.out _ _ (HSK6.out _ HPc22.out) (fun hH => ?_)
    clear hK K
    refine wpAnyH_ready (rs := [3]) (by kernel_rfl) (by simp) ?_
    refine AllReadyH.cons rfl (fun K hK => ?_) AllReadyH.nil
    go_simp
    refine (HNG.out wc22).mono ?_
    rintro e23 wc23 ⟨rfl, hp⟩
    have HPc23 : Hid (Past w6 wc23) := Lib.hid (HPc22.out.trans' hp)
    have HRc23 := Lib.hid (HRc22.out.past hp)
    clear hp
    refine hK.out _ _ (HSK6.out _ HPc23.out) (fun hH => ?_)
    clear hK K
    refine wpAnyH_ready (rs := [4]) (by kernel_rfl) (by simp) ?_
    refine AllReadyH.cons rfl (fun K hK => ?_) AllReadyH.nil
    go_simp
    refine (HMN.out wc23).mono ?_
    rintro e24 wc24 ⟨rfl, hp⟩
    have HPc24 : Hid (Past w6 wc24) := Lib.hid (HPc23.out.trans' hp)
    have HRc24 := Lib.hid (HRc23.out.past hp)
    clear hp
    refine hK.out _ _ (HSK6.out _ HPc24.out) (fun hH => ?_)
    clear hK K
    refine wpAnyH_ready (rs := [6]) (by kernel_rfl) (by simp) ?_
    refine AllReadyH.cons rfl (fun K hK => ?_) AllReadyH.nil
    refine step_wanted rfl ?_
    refine wp_store_row 28 (.tmp 7) (.tmp 25) rfl z lq.toArray rfl rfl _ _ HRc24.out hi4 HSQ.out HOQ.out ?_
    obtain ⟨wc25, hwc⟩ : ∃ w', wc24.setRow z lq.toArray = w' := ⟨_, rfl⟩
    have HPc25 : Hid (Past w6 wc25) := Lib.hid (by rw [← hwc]; exact below_setRow HPc24.out HUc.out _)
    have HRc25 : Hid (Row wc25 z 28 lq.toArray) := Lib.hid (by rw [← hwc]; exact setRow_heap _ _ _ _ _ _ HRc24.out)
    rw [hwc]
    clear hwc
    refine hK.out _ _ (HSK6.out _ HPc25.out) (fun hH => ?_)
    clear hK K
    refine wpAnyH_done (by kernel_rfl) ?_ _
    go_simp
    have HP68 : Hid (Past w6 wc25) := HPc25
    have HSK8 : Hid (∀ w', Past wc25 w' → (w'.rangeAt u 0 lf ∧ w'.rangeAt v 0 lg ∧ w'.rangeAt z 0 lq)) := Lib.hid (fun w' h => ⟨(HSK6.out _ (HPc25.out.trans' h)).1, (HSK6.out _ (HPc25.out.trans' h)).2, HRQ.out _ _ (HRc25.out.past h)⟩)
    clear hH
    generalize wc25 = w8 at *
    have HPD8 : Hid (Past w8 w8.drew) := Lib.hid (Past.drewN (Below.refl _ w8) 1)
    go_upto_region 8 with (fail)
    refine wp_region_held_drew (S := fun w' => w'.rangeAt u 0 lf ∧ w'.rangeAt v 0 lg ∧ w'.rangeAt z 0 lq) (by kernel_rfl) (HSK8.out _ HPD8.out) (fun hH => ?_)
    refine held_take 0 26 rfl rfl (by kernel_rfl) (by kernel_rfl) (by kernel_rfl) (fun _ _ _ h => h) (yieldsIf_load_mid (by kernel_rfl) 28 (.tmp 7) rfl z 0 rfl lq _ (fun _ h => h.2.2) Try.underlying28 rfl hlq) hH ?_
    refine held_take 2 28 rfl rfl (by kernel_rfl) (by kernel_rfl) (by kernel_rfl) (fun _ _ _ h => h) (yieldsIf_load_mid (by kernel_rfl) 26 (.tmp 5) rfl u 0 rfl lf _ (fun _ h => h.1) Try.underlying26 rfl hlf) hH ?_
    refine held_take 3 29 rfl rfl (by kernel_rfl) (by kernel_rfl) (by kernel_rfl) (fun _ _ _ h => h) (yieldsIf_load_mid (by kernel_rfl) 26 (.tmp 6) rfl v 0 rfl lg _ (fun _ h => h.2.1) Try.underlying26 rfl hlg) hH ?_
    refine wpAnyH_ready (rs := [1]) (by kernel_rfl) (by simp) ?_
    refine AllReadyH.cons rfl (fun K hK => ?_) AllReadyH.nil
    go_simp
    refine (HI.out w8.drew).mono ?_
    rintro e26 wc26 ⟨rfl, hp⟩
    have HPc26 : Hid (Past w8 wc26) := Lib.hid (HPD8.out.trans' hp)
    clear hp
    refine hK.out _ _ (HSK8.out _ HPc26.out) (fun hH => ?_)
    clear hK K
    refine wpAnyH_ready (rs := [4]) (by kernel_rfl) (by simp) ?_
    refine AllReadyH.cons rfl (fun K hK => ?_) AllReadyH.nil
    go_simp
    refine (HRP.out wc26).mono ?_
    rintro e27 wc27 ⟨rfl, hp⟩
    have HPc27 : Hid (Past w8 wc27) := Lib.hid (HPc26.out.trans' hp)
    clear hp
    refine hK.out _ _ (HSK8.out _ HPc27.out) (fun hH => ?_)
    clear hK K
    refine held_take 5 31 (v := .bool true) rfl rfl (by kernel_rfl) (by kernel_rfl) (by kernel_rfl) (fun _ _ _ h => h) (Or.inl ⟨by kernel_rfl, fun w _ => by go_simp⟩) hH ?_
    refine held_take 6 4 (v := .bool true) rfl rfl (by kernel_rfl) (by kernel_rfl) (by kernel_rfl) (fun _ _ _ h => h) (Or.inl ⟨by kernel_rfl, fun w _ => by kernel_rfl⟩) hH ?_
    refine wpAnyH_done (by kernel_rfl) ?_ _
    go_simp
    go_wp2_with fail
    go_ret
    exact ⟨rfl, HW6.out.trans' (HP68.out.trans' HPc27.out)⟩

set_option maxRecDepth 100000 in
theorem lifted (H7 : Prog14) (os : Os) (started : os.Started) (H : Type) (enc : TypeId × Value → H) :
    ReturnsInHanded {} Try.checked os 5 .any (Rows.kringProductsSpec.pre6 enc Try.prog Try.f5 Rows.kringProductsRow.domain false) (Rows.kringProductsSpec.post enc Try.prog Try.f5 false true false false) := by
  refine returnsInHanded_of_change (C := Try.checked) own started (by kernel_rfl) Try.func5
    (ChangeSpec.witness6 (enc := enc) (C := Try.checked) false ⟨#[], #[.agg #[.int .u32 0, .int .u32 0, .int .u32 0], .agg #[.int .u32 0, .int .u32 0, .int .u32 0]], []⟩ 8 (by kernel_rfl) (by kernel_rfl) (by kernel_rfl) (by kernel_rfl)) ?_
  intro W base args ds gs before hval0 hW hcnd _
  have hval : ∀ (j : Nat) t v, Try.f5.params[j]? = some t → args[j]? = some v → Value.okWide Try.prog W .any base t v := hval0
  have hW' := hW
  obtain ⟨p, q, hA0, hV, rfl, hfz, hnd⟩ := hW
  have hA : DataW.TrodAll enc Try.prog W 0 (fun _ => true) true Try.f5.params.toList args.toList ds p := hA0
  rw [Try.params5] at hA hval
  obtain ⟨v0, vs0, d0, ds0, p0, q0, hargs, rfl, rfl, h0, r0⟩ := trodAll_cons hA
  obtain ⟨v1, vs1, d1, ds1, p1, q1, rfl, rfl, rfl, h1, r1⟩ := trodAll_cons r0
  obtain ⟨rfl, rfl, rfl⟩ := trodAll_nil r1
  obtain rfl : args = #[v0, v1] := by cases args; simp_all
  obtain ⟨rfl, rfl⟩ := trodVars_none hV
  obtain ⟨a0, b0, c0, rfl, rfl, rfl, wa0, wb0, wc0⟩ := open3 (hval 0 23 v0 rfl rfl) h0
  obtain ⟨a1, b1, c1, rfl, rfl, rfl, wa1, wb1, wc1⟩ := open3 (hval 1 23 v1 rfl rfl) h1
  clear hA0 hval0
  refine (walk H7 a0 b0 c0 a1 b1 c1 W wa0 wb0 wc0 wa1 wb1 wc1).mono fun e W' ⟨he, bel⟩ => ?_
  subst he
  exact ⟨_, rfl, _, _, _, [], _, [], hW', trodAll_mk1 (shut_bool Try.underlying4 _), (trodAll_cons_mk (shut3 wa0 wb0 wc0) (trodAll_cons_mk (shut3 wa1 wb1 wc1) trodAll_mk0)), rfl, bel.frame _, fun h => by cases h⟩

theorem over (H7 : Prog14) : Rows.kringProductsRow.holds Try.pinned (OpenSpec.ofChange Rows.kringProductsSpec) :=
  OpenClaim.holds_of_wide 5 Try.f5 rfl rfl rfl rfl rfl rfl rfl ⟨rfl, rfl, rfl, rfl, rfl⟩ rfl rfl rfl rfl rfl (by kernel_rfl) Try.func5 (by kernel_rfl)
    (of_decide_eq_true (by kernel_rfl)) (by unfold Func.isWrapper; first | (rw [if_pos (by decide +kernel)]; kernel_rfl) | (rw [if_neg (by decide +kernel)]; exact ⟨rfl, rfl⟩))
    (fun os started H enc _ => lifted H7 os started H enc)
theorem proved : Rows.KringProductsSaid := over prog14
#print axioms proved
end Go.Proofs.Ytmhhkhbdjkbklaa.kringProducts
