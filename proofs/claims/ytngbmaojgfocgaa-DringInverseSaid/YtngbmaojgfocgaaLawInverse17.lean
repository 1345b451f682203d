/- DringInverse over the program's contracts. -/
import Derived.Test.YtngbmaojgfocgaaFrame17
import Derived.Test.YtngbmaojgfocgaaM17F
import Derived.Deep.RegionHeld
namespace Go.Proofs.Ytngbmaojgfocgaa.dr.dringInverse
open Go.RowKit Go.ChangeShapes Go.WideShapes Go.ChangeAt
set_option linter.unusedVariables false

set_option maxHeartbeats 16000000 in
set_option maxRecDepth 100000 in
theorem walk (H : Prog17) (a b c : Int) (w : World) (ha : (Lit.int .u32 a).wf = true) (hb : (Lit.int .u32 b).wf = true) (hc : (Lit.int .u32 c).wf = true) :
    Calls Try.prog 4 #[.agg #[.int .u32 a, .int .u32 b, .int .u32 c]] w fun e w' => e = .returned (.bool true) ∧ Past w w' := by
  have HAW := Lib.hid (fun w => awake17 H w)
  have HSP := Lib.hid (fun w => spread_any a b c (by have := bounds_u32 ha; omega) (by have := bounds_u32 hb; omega) (by have := bounds_u32 hc; omega) w)
  have hf := spr_rng a b c
  have hrl : ∀ j, 0 ≤ rdc (spr a b c) j ∧ rdc (spr a b c) j < 8380417 := fun j => by unfold rdc; omega
  generalize spr a b c = F at *
  have HRD := Lib.hid (fun w => rreduced_any F hf w)
  have HN := Lib.hid (fun w => H.ntt F w hf)
  have HI := Lib.hid (fun w => H.intt (ntt F) w (R32.of_low (ntt_low _)))
  have HI2 := Lib.hid (fun w => H.intt F w hf)
  have HN2 := Lib.hid (fun w => H.ntt (intt F) w (R32.of_low (intt_low _)))
  have HRI := Lib.hid (fun w => rinverse_any F hf w)
  rw [intt_ntt] at HI
  rw [ntt_intt] at HN2
  rw [arr_ext (k := .u32) (n := 256) (fun j hj => (intt_iv F j hj).symm)] at HRI
  have HEQ := Lib.hid (eqP (rdc F) (rdc F) fun _ _ => rfl)
  have HEG := Lib.hid egP
  have HEQ2 := Lib.hid (eqA (intt F) (intt F) fun _ _ => rfl)
  have HEG2 := Lib.hid egA
  have hlf := (lst_len F).1
  have hlr := (lst_len (rdc F)).2
  have hli := (lst_len (intt F)).2
  have HSN : Hid ((arr .u32 256 fun _ => 0).size = (arr .u32 256 F).size) := Lib.hid (by rw [arr_size, arr_size])
  have HSR : Hid ((arr .u32 256 fun _ => 0).size = (arr .u32 256 (rdc F)).size) := Lib.hid (by rw [arr_size, arr_size])
  have HSI : Hid ((arr .u32 256 fun _ => 0).size = (arr .u32 256 (intt F)).size) := Lib.hid (by rw [arr_size, arr_size])
  have hi2 := inf256 F
  have hi3 := infP (rdc F)
  have hi4 := infP (intt F)
  have HON := Lib.hid (arr_one .u32 256 F)
  have HOR := Lib.hid (arr_one .u32 256 (rdc F))
  have HOI := Lib.hid (arr_one .u32 256 (intt F))
  have HRL := Lib.hid (fun (w : World) (g : Nat) (h : Row w g 25 (arr .u32 256 F)) => row_lst h)
  have HRM := Lib.hid (fun (w : World) (g : Nat) (h : Row w g 27 (arr .u32 256 (rdc F))) => row_lst h)
  have HRO := Lib.hid (fun (w : World) (g : Nat) (h : Row w g 27 (arr .u32 256 (intt F))) => row_lst h)
  have hz := zero256
  have hzp := zeroP
  simp only [arr_lst] at HSP HRD HN HI HI2 HN2 HRI HEQ HEQ2 hi2 hi3 hi4 HSN HSR HSI HON HOR HOI HRL HRM HRO hz hzp
  generalize lst (rdc F) = lr at *
  generalize lst (ntt F) = ln at *
  generalize lst (intt F) = li at *
  generalize lst F = lf at *
  generalize (lst fun _ => 0) = lz at *
  clear hf hrl H
  go_enter Try.func4, Try.ntmps4
  obtain ⟨g, hg⟩ : ∃ g, w.heap.size = g := ⟨_, rfl⟩
  obtain ⟨wb0, hwb0⟩ : ∃ w', w.alloc (.cells #[.int .u32 a, .int .u32 b, .int .u32 c] 23) = w' := ⟨_, rfl⟩
  have pwb0 : Past w wb0 := by rw [← hwb0]; exact (Below.refl _ w).alloc (Nat.le_refl _) _
  have swb0 : wb0.heap.size = g + 1 := by rw [← hwb0, World.size_alloc]; omega
  have rwb0 : Row wb0 (g) 23 #[.int .u32 a, .int .u32 b, .int .u32 c] := by
    have := Row.new w 23 #[.int .u32 a, .int .u32 b, .int .u32 c]
    rw [hwb0, show w.heap.size = g by omega] at this
    exact this
  go_upto_region 1 with (fail)
  try rw [hwb0]
  try rw [hg]
  have HPB : Hid (Past w wb0) := Lib.hid pwb0
  have HRB : Hid (Row wb0 (g) 23 #[.int .u32 a, .int .u32 b, .int .u32 c]) := Lib.hid rwb0
  clear hg hwb0 pwb0 rwb0 swb0
  go_wp2_with fail
  refine (HAW.out wb0).mono ?_
  rintro e w1 ⟨rfl, hp⟩
  have H1 : Hid (Past w w1) := Lib.hid (HPB.out.trans' hp)
  have HSD : Hid (∀ w', Past w1 w' → Row w' (g) 23 #[.int .u32 a, .int .u32 b, .int .u32 c]) := Lib.hid (fun w' h => HRB.out.past (hp.trans' h))
  clear hp HAW HRB HPB
  obtain k0 := (HSD.out w1 (Below.refl _ _)).cell 0
  obtain k1 := (HSD.out w1 (Below.refl _ _)).cell 1
  obtain k2 := (HSD.out w1 (Below.refl _ _)).cell 2
  go_wp2_with fail
  refine (HSP.out w1).mono ?_
  rintro e w2 ⟨rfl, hp⟩
  have HP2 := Lib.hid hp
  clear hp k0 k1 k2 HSD HSP
  obtain ⟨u, hu⟩ : ∃ u, w2.heap.size = u := ⟨_, rfl⟩
  have hfr := fresh_row w2 25 lz.toArray lf.toArray
  have hr0 := Row.new w2 25 lz.toArray
  have hsN := HSN.out
  have hoN := HON.out
  rw [hu] at hfr hr0
  obtain ⟨w3, hw3⟩ : ∃ w', (w2.alloc (.cells lz.toArray 25)).setRow u lf.toArray = w' := ⟨_, rfl⟩
  rw [hw3] at hfr
  have HPw3 : Hid (Past w2 w3) := Lib.hid hfr.2
  have HROWw3 := Lib.hid hfr.1
  have HW3 := Lib.hid hw3
  clear hw3 hfr
  go_upto_region 4 with (refine wpList_store_row rfl 25 _ _ rfl u _ rfl rfl _ _ hr0 hi2 hsN hoN ?_)
  rw [HW3.out]
  clear HW3 hr0 hsN hoN hu
  have hrow := HROWw3.out
  go_wp2_with (refine wpList_load_row rfl 25 _ rfl u rfl _ _ (0, 0) _ hrow Try.underlying25 rfl hi2 ?_)
  clear hrow
  refine (HRD.out w3).mono ?_
  rintro e w4 ⟨rfl, hp⟩
  have HP4 := Lib.hid hp
  have HRU4 := Lib.hid (HROWw3.out.past hp)
  clear hp HRD
  obtain ⟨v, hu⟩ : ∃ u, w4.heap.size = u := ⟨_, rfl⟩
  have hfr := fresh_row w4 27 lz.toArray lr.toArray
  have hr0 := Row.new w4 27 lz.toArray
  have hsN := HSR.out
  have hoN := HOR.out
  rw [hu] at hfr hr0
  obtain ⟨w5, hw3⟩ : ∃ w', (w4.alloc (.cells lz.toArray 27)).setRow v lr.toArray = w' := ⟨_, rfl⟩
  rw [hw3] at hfr
  have HPw5 : Hid (Past w4 w5) := Lib.hid hfr.2
  have HROWw5 := Lib.hid hfr.1
  have HW3 := Lib.hid hw3
  clear hw3 hfr
  go_upto_region 5 with (refine wpList_store_row rfl 27 _ _ rfl v _ rfl rfl _ _ hr0 hi3 hsN hoN ?_)
  rw [HW3.out]
  clear HW3 hr0 hsN hoN hu
  have hrow := HRU4.out.past HPw5.out
  go_wp2_with (refine wpList_load_row rfl 25 _ rfl u rfl _ _ (0, 0) _ hrow Try.underlying25 rfl hi2 ?_)
  clear hrow
  refine (HI2.out w5).mono ?_
  rintro e w6 ⟨rfl, hp⟩
  have HP6 := Lib.hid hp
  clear hp HI2
  obtain ⟨z, hu⟩ : ∃ u, w6.heap.size = u := ⟨_, rfl⟩
  have hfr := fresh_row w6 27 lz.toArray li.toArray
  have hr0 := Row.new w6 27 lz.toArray
  have hsN := HSI.out
  have hoN := HOI.out
  rw [hu] at hfr hr0
  obtain ⟨w7, hw3⟩ : ∃ w', (w6.alloc (.cells lz.toArray 27)).setRow z li.toArray = w' := ⟨_, rfl⟩
  rw [hw3] at hfr
  have HPw7 : Hid (Past w6 w7) := Lib.hid hfr.2
  have HROWw7 := Lib.hid hfr.1
  have HW3 := Lib.hid hw3
  clear hw3 hfr
  go_upto_region 6 with (refine wpList_store_row rfl 27 _ _ rfl z _ rfl rfl _ _ hr0 hi4 hsN hoN ?_)
  rw [HW3.out]
  clear HW3 hr0 hsN hoN hu
  have HW7 : Hid (Past w w7) := Lib.hid (H1.out.trans' (HP2.out.trans' (HPw3.out.trans' (HP4.out.trans' (HPw5.out.trans' (HP6.out.trans' HPw7.out))))))
  have HSK : Hid (∀ w', Past w7 w' → (w'.rangeAt u 0 lf ∧ w'.rangeAt v 0 lr ∧ w'.rangeAt z 0 li)) := Lib.hid (fun w' h => ⟨HRL.out _ _ (HRU4.out.past ((HPw5.out.trans' (HP6.out.trans' HPw7.out)).trans' h)), HRM.out _ _ (HROWw5.out.past ((HP6.out.trans' HPw7.out).trans' h)), HRO.out _ _ (HROWw7.out.past h)⟩)
  have HPD : Hid (Past w7 w7.drew) := Lib.hid (Past.drewN (Below.refl _ w7) 1)
  clear hz hzp hi2 hi3 hi4
  refine wp_region_held_drew (S := fun w' => w'.rangeAt u 0 lf ∧ w'.rangeAt v 0 lr ∧ w'.rangeAt z 0 li) (by kernel_rfl) (HSK.out _ HPD.out) (fun hH => ?_)
  refine held_take 0 14 rfl rfl (by kernel_rfl) (by kernel_rfl) (by kernel_rfl) (fun _ _ _ h => h) (yieldsIf_load_mid (by kernel_rfl) 25 (.tmp 3) rfl u 0 rfl lf _ (fun _ h => h.1) Try.underlying25 rfl hlf) hH ?_
  refine held_take 3 17 rfl rfl (by kernel_rfl) (by kernel_rfl) (by kernel_rfl) (fun _ _ _ h => h) (yieldsIf_load_mid (by kernel_rfl) 27 (.tmp 4) rfl v 0 rfl lr _ (fun _ h => h.2.1) Try.underlying27 rfl hlr) hH ?_
  refine wpAnyH_ready (rs := [1]) (by kernel_rfl) (by simp) ?_
  refine AllReadyH.cons rfl (fun K hK => ?_) AllReadyH.nil
  go_simp
  refine (HN.out w7.drew).mono ?_
  rintro e1 wc1 ⟨rfl, hp⟩
  have HPc1 : Hid (Past w7 wc1) := Lib.hid (HPD.out.trans' hp)
  clear hp
  refine hK.out _ _ (HSK.out _ HPc1.out) (fun hH => ?_)
  clear hK K
  refine wpAnyH_ready (rs := [2]) (by kernel_rfl) (by simp) ?_
  refine AllReadyH.cons rfl (fun K hK => ?_) AllReadyH.nil
  go_simp
  refine (HI.out wc1).mono ?_
  rintro e2 wc2 ⟨rfl, hp⟩
  have HPc2 : Hid (Past w7 wc2) := Lib.hid (HPc1.out.trans' hp)
  clear hp
  refine hK.out _ _ (HSK.out _ HPc2.out) (fun hH => ?_)
  clear hK K
  refine held_take 4 18 (v := .bool true) rfl rfl (by kernel_rfl) (by kernel_rfl) (by kernel_rfl) (fun _ _ _ h => h) (Or.inl ⟨by kernel_rfl, fun w _ => by have heq := HEQ.out; have heg := HEG.out; go_simp⟩) hH ?_
  (try simp only [List.setIfInBounds_toArray, List.set_cons_zero, List.set_cons_succ])
  refine held_take 5 19 (v := .bool true) rfl rfl (by kernel_rfl) (by kernel_rfl) (by kernel_rfl) (fun _ _ _ h => h) (Or.inl ⟨by kernel_rfl, fun w _ => by kernel_rfl⟩) hH ?_
  (try simp only [List.setIfInBounds_toArray, List.set_cons_zero, List.set_cons_succ])
  refine held_take 6 20 rfl rfl (by kernel_rfl) (by kernel_rfl) (by kernel_rfl) (fun _ _ _ h => h) (yieldsIf_load_mid (by kernel_rfl) 27 (.tmp 5) rfl z 0 rfl li _ (fun _ h => h.2.2) Try.underlying27 rfl hli) hH ?_
  refine held_take 8 22 rfl rfl (by kernel_rfl) (by kernel_rfl) (by kernel_rfl) (fun _ _ _ h => h) (yieldsIf_load_mid (by kernel_rfl) 27 (.tmp 4) rfl v 0 rfl lr _ (fun _ h => h.2.1) Try.underlying27 rfl hlr) hH ?_
  refine wpAnyH_ready (rs := [7]) (by kernel_rfl) (by simp) ?_
  refine AllReadyH.cons rfl (fun K hK => ?_) AllReadyH.nil
  go_simp
  refine (HN2.out wc2).mono ?_
  rintro e3 wc3 ⟨rfl, hp⟩
  have HPc3 : Hid (Past w7 wc3) := Lib.hid (HPc2.out.trans' hp)
  clear hp
  refine hK.out _ _ (HSK.out _ HPc3.out) (fun hH => ?_)
  clear hK K
  refine held_take 9 23 (v := .bool true) rfl rfl (by kernel_rfl) (by kernel_rfl) (by kernel_rfl) (fun _ _ _ h => h) (Or.inl ⟨by kernel_rfl, fun w _ => by have heq := HEQ.out; have heg := HEG.out; go_simp⟩) hH ?_
  (try simp only [List.setIfInBounds_toArray, List.set_cons_zero, List.set_cons_succ])
  refine held_take 10 24 (v := .bool true) rfl rfl (by kernel_rfl) (by kernel_rfl) (by kernel_rfl) (fun _ _ _ h => h) (Or.inl ⟨by kernel_rfl, fun w _ => by kernel_rfl⟩) hH ?_
  (try simp only [List.setIfInBounds_toArray, List.set_cons_zero, List.set_cons_succ])
  refine held_take 11 25 (v := .bool true) rfl rfl (by kernel_rfl) (by kernel_rfl) (by kernel_rfl) (fun _ _ _ h => h) (Or.inl ⟨by kernel_rfl, fun w _ => by kernel_rfl⟩) hH ?_
  (try simp only [List.setIfInBounds_toArray, List.set_cons_zero, List.set_cons_succ])
  refine held_take 12 26 rfl rfl (by kernel_rfl) (by kernel_rfl) (by kernel_rfl) (fun _ _ _ h => h) (yieldsIf_load_mid (by kernel_rfl) 27 (.tmp 5) rfl z 0 rfl li _ (fun _ h => h.2.2) Try.underlying27 rfl hli) hH ?_
  refine held_take 13 27 rfl rfl (by kernel_rfl) (by kernel_rfl) (by kernel_rfl) (fun _ _ _ h => h) (yieldsIf_load_mid (by kernel_rfl) 25 (.tmp 3) rfl u 0 rfl lf _ (fun _ h => h.1) Try.underlying25 rfl hlf) hH ?_
  refine wpAnyH_ready (rs := [14]) (by kernel_rfl) (by simp) ?_
  refine AllReadyH.cons rfl (fun K hK => ?_) AllReadyH.nil
  go_simp
  refine (HRI.out wc3).mono ?_
  rintro e4 wc4 ⟨rfl, hp⟩
  have HPc4 : Hid (Past w7 wc4) := Lib.hid (HPc3.out.trans' hp)
  clear hp
  refine hK.out _ _ (HSK.out _ HPc4.out) (fun hH => ?_)
  clear hK K
  refine held_take 15 29 (v := .bool true) rfl rfl (by kernel_rfl) (by kernel_rfl) (by kernel_rfl) (fun _ _ _ h => h) (Or.inl ⟨by kernel_rfl, fun w _ => by have heq := HEQ2.out; have heg := HEG2.out; go_simp⟩) hH ?_
  (try simp only [List.setIfInBounds_toArray, List.set_cons_zero, List.set_cons_succ])
  refine held_take 16 30 (v := .bool true) rfl rfl (by kernel_rfl) (by kernel_rfl) (by kernel_rfl) (fun _ _ _ h => h) (Or.inl ⟨by kernel_rfl, fun w _ => by kernel_rfl⟩) hH ?_
  (try simp only [List.setIfInBounds_toArray, List.set_cons_zero, List.set_cons_succ])
  refine held_take 17 2 (v := .bool true) rfl rfl (by kernel_rfl) (by kernel_rfl) (by kernel_rfl) (fun _ _ _ h => h) (Or.inl ⟨by kernel_rfl, fun w _ => by kernel_rfl⟩) hH ?_
  (try simp only [List.setIfInBounds_toArray, List.set_cons_zero, List.set_cons_succ])
  refine wpAnyH_done (by kernel_rfl) ?_ _
  go_simp
  go_wp2_with fail
  go_ret
  exact ⟨rfl, HW7.out.trans' HPc4.out⟩

set_option maxRecDepth 100000 in
theorem lifted (H7 : Prog17) (os : Os) (started : os.Started) (H : Type) (enc : TypeId × Value → H) :
    ReturnsInHanded {} Try.checked os 4 .any (Rows.dringInverseSpec.pre6 enc Try.prog Try.f4 Rows.dringInverseRow.domain false) (Rows.dringInverseSpec.post enc Try.prog Try.f4 false true false false) := by
  refine returnsInHanded_of_change (C := Try.checked) own started (by kernel_rfl) Try.func4
    (ChangeSpec.witness6 (enc := enc) (C := Try.checked) false ⟨#[], #[.agg #[.int .u32 0, .int .u32 0, .int .u32 0]], []⟩ 8 (by kernel_rfl) (by kernel_rfl) (by kernel_rfl) (by kernel_rfl)) ?_
  intro W base args ds gs before hval0 hW hcnd _
  have hval : ∀ (j : Nat) t v, Try.f4.params[j]? = some t → args[j]? = some v → Value.okWide Try.prog W .any base t v := hval0
  have hW' := hW
  obtain ⟨p, q, hA0, hV, rfl, hfz, hnd⟩ := hW
  have hA : DataW.TrodAll enc Try.prog W 0 (fun _ => true) true Try.f4.params.toList args.toList ds p := hA0
  rw [Try.params4] at hA hval
  obtain ⟨v0, vs0, d0, ds0, p0, q0, hargs, rfl, rfl, h0, r0⟩ := trodAll_cons hA
  obtain ⟨rfl, rfl, rfl⟩ := trodAll_nil r0
  obtain rfl : args = #[v0] := by cases args; simp_all
  obtain ⟨rfl, rfl⟩ := trodVars_none hV
  obtain ⟨a0, b0, c0, rfl, rfl, rfl, wa0, wb0, wc0⟩ := open3 (hval 0 23 v0 rfl rfl) h0
  clear hA0 hval0
  refine (walk H7 a0 b0 c0 W wa0 wb0 wc0).mono fun e W' ⟨he, bel⟩ => ?_
  subst he
  exact ⟨_, rfl, _, _, _, [], _, [], hW', trodAll_mk1 (shut_bool Try.underlying4 _), (trodAll_cons_mk (shut3 wa0 wb0 wc0) trodAll_mk0), rfl, bel.frame _, fun h => by cases h⟩

theorem over (H7 : Prog17) : Rows.dringInverseRow.holds Try.pinned (OpenSpec.ofChange Rows.dringInverseSpec) :=
  OpenClaim.holds_of_wide 4 Try.f4 rfl rfl rfl rfl rfl rfl rfl ⟨rfl, rfl, rfl, rfl, rfl⟩ rfl rfl rfl rfl rfl (by kernel_rfl) Try.func4 (by kernel_rfl)
    (of_decide_eq_true (by kernel_rfl)) (by unfold Func.isWrapper; first | (rw [if_pos (by decide +kernel)]; kernel_rfl) | (rw [if_neg (by decide +kernel)]; exact ⟨rfl, rfl⟩))
    (fun os started H enc _ => lifted H7 os started H enc)

theorem proved : Rows.DringInverseSaid := over prog17
#print axioms proved
end Go.Proofs.Ytngbmaojgfocgaa.dr.dringInverse
