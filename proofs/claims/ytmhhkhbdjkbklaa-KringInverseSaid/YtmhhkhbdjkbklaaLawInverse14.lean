/- NTT and Inverse invert each other; for every input of the statement, with no condition. -/
import Derived.Test.YtmhhkhbdjkbklaaM14G
import Derived.Test.YtmhhkhbdjkbklaaFrame14
import Derived.Deep.RegionHeld
namespace Go.Proofs.Ytmhhkhbdjkbklaa.kringInverse
open Go.RowKit Go.ChangeShapes Go.WideShapes Go.ChangeAt
set_option linter.unusedVariables false

set_option maxHeartbeats 16000000 in
set_option maxRecDepth 100000 in
theorem walk (H : Prog14) (a b c : Int) (w : World) (ha : (Lit.int .u32 a).wf = true) (hb : (Lit.int .u32 b).wf = true) (hc : (Lit.int .u32 c).wf = true) :
    Calls Try.prog 4 #[.agg #[.int .u32 a, .int .u32 b, .int .u32 c]] w fun e w' => e = .returned (.bool true) ∧ Past w w' := by
  have HAW := Lib.hid (fun w => awake14 H w)
  have HSP := Lib.hid (fun w => spread_any a b c (by have := bounds_u32 ha; omega) (by have := bounds_u32 hb; omega) (by have := bounds_u32 hc; omega) w)
  have hf := spr_rng a b c
  have hrl : ∀ j, 0 ≤ rdc (spr a b c) j ∧ rdc (spr a b c) j < 3329 := fun j => by unfold rdc; omega
  have HRD := Lib.hid (fun w => rreduced_any (spr a b c) hf w)
  have HN := Lib.hid (fun w => H.ntt (spr a b c) w hf)
  have HI := Lib.hid (fun w => H.intt (ntt (spr a b c)) w (R16.of_low (ntt_low _)))
  have HI2 := Lib.hid (fun w => H.intt (spr a b c) w hf)
  have HN2 := Lib.hid (fun w => H.ntt (intt (spr a b c)) w (R16.of_low (intt_low _)))
  rw [intt_ntt] at HI
  rw [ntt_intt] at HN2
  have HV := Lib.hid (fun w => H.validT (rdc (spr a b c)) w hrl)
  have heq := eqP (rdc (spr a b c)) (rdc (spr a b c)) fun _ _ => rfl
  have heg := egP
  have hlf := (lst_len (spr a b c)).2
  have hlr := (lst_len (rdc (spr a b c))).2
  have HSN : Hid ((arr .u16 256 fun _ => 0).size = (arr .u16 256 (spr a b c)).size) := Lib.hid (by rw [arr_size, arr_size])
  have HSR : Hid ((arr .u16 256 fun _ => 0).size = (arr .u16 256 (rdc (spr a b c))).size) := Lib.hid (by rw [arr_size, arr_size])
  have hi2 := infP (spr a b c)
  have hi3 := infP (rdc (spr a b c))
  have HON := Lib.hid (arr_one .u16 256 (spr a b c))
  have HOR := Lib.hid (arr_one .u16 256 (rdc (spr a b c)))
  have HRL := Lib.hid (fun (w : World) (g : Nat) (h : Row w g 28 (arr .u16 256 (spr a b c))) => row_lst h)
  have HRM := Lib.hid (fun (w : World) (g : Nat) (h : Row w g 28 (arr .u16 256 (rdc (spr a b c)))) => row_lst h)
  have hz := zeroP
  simp only [arr_lst] at HSP HRD HN HI HI2 HN2 HV heq hi2 hi3 HSN HSR HON HOR HRL HRM hz
  generalize lst (spr a b c) = lf at *
  generalize lst (rdc (spr a b c)) = lr at *
  generalize lst (ntt (spr a b c)) = ln at *
  generalize lst (intt (spr a b c)) = li at *
  generalize (lst fun _ => 0) = lz at *
  clear hf hrl H
  go_enter Try.func4, Try.ntmps4
  obtain ⟨g, hg⟩ : ∃ g, w.heap.size = g := ⟨_, rfl⟩
  obtain ⟨wb0, hwb0⟩ : ∃ w', w.alloc (.cells #[.int .u32 a, .int .u32 b, .int .u32 c] 23) = w' := ⟨_, rfl⟩
  have pwb0 : Past w wb0 := by rw [← hwb0]; exact (Below.refl _ w).alloc (Nat.le_refl _) _
  have swb0 : wb0.heap.size = g + 1 := by rw [← hwb0, World.size_alloc]; omega
  have rwb0 : Row wb0 (g) 23 #[.int .u32 a, .int .u32 b, .int .u32 c] := by
    have := Row.new w 23 #[.int .u32 a, .int .u32 b, .int .u32 c]
    rw [hwb0, show w.heap.size = g by omega] at this
    exact this
  go_upto_region 1 with (fail)
  try rw [hwb0]
  try rw [hg]
  have HPB : Hid (Past w wb0) := Lib.hid pwb0
  have HRB : Hid (Row wb0 (g) 23 #[.int .u32 a, .int .u32 b, .int .u32 c]) := Lib.hid rwb0
  clear hg hwb0 pwb0 rwb0 swb0
  go_wp2_with fail
  refine (HAW.out wb0).mono ?_
  rintro e w1 ⟨rfl, hp⟩
  have H1 : Hid (Past w w1) := Lib.hid (HPB.out.trans' hp)
  have HSD : Hid (∀ w', Past w1 w' → Row w' (g) 23 #[.int .u32 a, .int .u32 b, .int .u32 c]) := Lib.hid (fun w' h => HRB.out.past (hp.trans' h))
  clear hp HAW HRB HPB
  obtain k0 := (HSD.out w1 (Below.refl _ _)).cell 0
  obtain k1 := (HSD.out w1 (Below.refl _ _)).cell 1
  obtain k2 := (HSD.out w1 (Below.refl _ _)).cell 2
  go_wp2_with fail
  refine (HSP.out w1).mono ?_
  rintro e w2 ⟨rfl, hp⟩
  have HP2 := Lib.hid hp
  clear hp k0 k1 k2
  obtain ⟨u, hu⟩ : ∃ u, w2.heap.size = u := ⟨_, rfl⟩
  have hfr := fresh_row w2 28 lz.toArray lf.toArray
  have hr0 := Row.new w2 28 lz.toArray
  have hsN := HSN.out
  have hoN := HON.out
  rw [hu] at hfr hr0
  obtain ⟨w3, hw3⟩ : ∃ w', (w2.alloc (.cells lz.toArray 28)).setRow u lf.toArray = w' := ⟨_, rfl⟩
  rw [hw3] at hfr
  have HPw3 : Hid (Past w2 w3) := Lib.hid hfr.2
  have HROWw3 := Lib.hid hfr.1
  have HW3 := Lib.hid hw3
  clear hw3 hfr
  go_upto_region 4 with (refine wpList_store_row rfl 28 _ _ rfl u _ rfl rfl _ _ hr0 hi2 hsN hoN ?_)
  rw [HW3.out]
  clear HW3 hr0 hsN hoN hu
  obtain k0 := (HSD.out w3 (HP2.out.trans' HPw3.out)).cell 0
  obtain k1 := (HSD.out w3 (HP2.out.trans' HPw3.out)).cell 1
  obtain k2 := (HSD.out w3 (HP2.out.trans' HPw3.out)).cell 2
  go_wp2_with fail
  refine (HSP.out w3).mono ?_
  rintro e w4 ⟨rfl, hp⟩
  have HP4 := Lib.hid hp
  clear hp k0 k1 k2 HSD HSP
  go_wp2_with fail
  refine (HRD.out w4).mono ?_
  rintro e w4' ⟨rfl, hp⟩
  have HP5 := Lib.hid (HP4.out.trans' hp)
  clear hp HRD HP4
  obtain ⟨v, hu⟩ : ∃ u, w4'.heap.size = u := ⟨_, rfl⟩
  have hfr := fresh_row w4' 28 lz.toArray lr.toArray
  have hr0 := Row.new w4' 28 lz.toArray
  have hsN := HSR.out
  have hoN := HOR.out
  rw [hu] at hfr hr0
  obtain ⟨w5, hw3⟩ : ∃ w', (w4'.alloc (.cells lz.toArray 28)).setRow v lr.toArray = w' := ⟨_, rfl⟩
  rw [hw3] at hfr
  have HPw5 : Hid (Past w4' w5) := Lib.hid hfr.2
  have HROWw5 := Lib.hid hfr.1
  have HW3 := Lib.hid hw3
  clear hw3 hfr
  go_upto_region 5 with (refine wpList_store_row rfl 28 _ _ rfl v _ rfl rfl _ _ hr0 hi3 hsN hoN ?_)
  rw [HW3.out]
  clear HW3 hr0 hsN hoN hu
  have HW5 : Hid (Past w w5) := Lib.hid (H1.out.trans' (HP2.out.trans' (HPw3.out.trans' (HP5.out.trans' HPw5.out))))
  have HSK : Hid (∀ w', Past w5 w' → (w'.rangeAt u 0 lf ∧ w'.rangeAt v 0 lr)) := Lib.hid (fun w' h => ⟨HRL.out _ _ (HROWw3.out.past ((HP5.out.trans' HPw5.out).trans' h)), HRM.out _ _ (HROWw5.out.past h)⟩)
  have HPD : Hid (Past w5 w5.drew) := Lib.hid (Past.drewN (Below.refl _ w5) 1)
  clear hz hi2 hi3
  refine wp_region_held_drew (S := fun w' => w'.rangeAt u 0 lf ∧ w'.rangeAt v 0 lr) (by kernel_rfl) (HSK.out _ HPD.out) (fun hH => ?_)
  refine held_take 0 12 rfl rfl (by kernel_rfl) (by kernel_rfl) (by kernel_rfl) (fun _ _ _ h => h) (yieldsIf_load_mid (by kernel_rfl) 28 (.tmp 3) rfl u 0 rfl lf _ (fun _ h => h.1) Try.underlying28 rfl hlf) hH ?_
  refine held_take 3 15 rfl rfl (by kernel_rfl) (by kernel_rfl) (by kernel_rfl) (fun _ _ _ h => h) (yieldsIf_load_mid (by kernel_rfl) 28 (.tmp 4) rfl v 0 rfl lr _ (fun _ h => h.2) Try.underlying28 rfl hlr) hH ?_
  refine wpAnyH_ready (rs := [1]) (by kernel_rfl) (by simp) ?_
  refine AllReadyH.cons rfl (fun K hK => ?_) AllReadyH.nil
  go_simp
  refine (HN.out w5.drew).mono ?_
  rintro e1 wc1 ⟨rfl, hp⟩
  have HPc1 : Hid (Past w5 wc1) := Lib.hid (HPD.out.trans' hp)
  clear hp
  refine hK.out _ _ (HSK.out _ HPc1.out) (fun hH => ?_)
  clear hK K
  refine wpAnyH_ready (rs := [2]) (by kernel_rfl) (by simp) ?_
  refine AllReadyH.cons rfl (fun K hK => ?_) AllReadyH.nil
  go_simp
  refine (HI.out wc1).mono ?_
  rintro e2 wc2 ⟨rfl, hp⟩
  have HPc2 : Hid (Past w5 wc2) := Lib.hid (HPc1.out.trans' hp)
  clear hp
  refine hK.out _ _ (HSK.out _ HPc2.out) (fun hH => ?_)
  clear hK K
  refine held_take 4 16 (v := .bool true) rfl rfl (by kernel_rfl) (by kernel_rfl) (by kernel_rfl) (fun _ _ _ h => h) (Or.inl ⟨by kernel_rfl, fun w _ => by go_simp⟩) hH ?_
  (try simp only [List.setIfInBounds_toArray, List.set_cons_zero, List.set_cons_succ])
  refine held_take 5 17 (v := .bool true) rfl rfl (by kernel_rfl) (by kernel_rfl) (by kernel_rfl) (fun _ _ _ h => h) (Or.inl ⟨by kernel_rfl, fun w _ => by kernel_rfl⟩) hH ?_
  (try simp only [List.setIfInBounds_toArray, List.set_cons_zero, List.set_cons_succ])
  refine held_take 6 18 rfl rfl (by kernel_rfl) (by kernel_rfl) (by kernel_rfl) (fun _ _ _ h => h) (yieldsIf_load_mid (by kernel_rfl) 28 (.tmp 3) rfl u 0 rfl lf _ (fun _ h => h.1) Try.underlying28 rfl hlf) hH ?_
  refine held_take 9 21 rfl rfl (by kernel_rfl) (by kernel_rfl) (by kernel_rfl) (fun _ _ _ h => h) (yieldsIf_load_mid (by kernel_rfl) 28 (.tmp 4) rfl v 0 rfl lr _ (fun _ h => h.2) Try.underlying28 rfl hlr) hH ?_
  refine wpAnyH_ready (rs := [7]) (by kernel_rfl) (by simp) ?_
  refine AllReadyH.cons rfl (fun K hK => ?_) AllReadyH.nil
  go_simp
  refine (HI2.out wc2).mono ?_
  rintro e3 wc3 ⟨rfl, hp⟩
  have HPc3 : Hid (Past w5 wc3) := Lib.hid (HPc2.out.trans' hp)
  clear hp
  refine hK.out _ _ (HSK.out _ HPc3.out) (fun hH => ?_)
  clear hK K
  refine wpAnyH_ready (rs := [8]) (by kernel_rfl) (by simp) ?_
  refine AllReadyH.cons rfl (fun K hK => ?_) AllReadyH.nil
  go_simp
  refine (HN2.out wc3).mono ?_
  rintro e4 wc4 ⟨rfl, hp⟩
  have HPc4 : Hid (Past w5 wc4) := Lib.hid (HPc3.out.trans' hp)
  clear hp
  refine hK.out _ _ (HSK.out _ HPc4.out) (fun hH => ?_)
  clear hK K
  refine held_take 10 22 (v := .bool true) rfl rfl (by kernel_rfl) (by kernel_rfl) (by kernel_rfl) (fun _ _ _ h => h) (Or.inl ⟨by kernel_rfl, fun w _ => by go_simp⟩) hH ?_
  (try simp only [List.setIfInBounds_toArray, List.set_cons_zero, List.set_cons_succ])
  refine held_take 11 23 (v := .bool true) rfl rfl (by kernel_rfl) (by kernel_rfl) (by kernel_rfl) (fun _ _ _ h => h) (Or.inl ⟨by kernel_rfl, fun w _ => by kernel_rfl⟩) hH ?_
  (try simp only [List.setIfInBounds_toArray, List.set_cons_zero, List.set_cons_succ])
  refine held_take 12 24 (v := .bool true) rfl rfl (by kernel_rfl) (by kernel_rfl) (by kernel_rfl) (fun _ _ _ h => h) (Or.inl ⟨by kernel_rfl, fun w _ => by kernel_rfl⟩) hH ?_
  (try simp only [List.setIfInBounds_toArray, List.set_cons_zero, List.set_cons_succ])
  refine held_take 13 25 rfl rfl (by kernel_rfl) (by kernel_rfl) (by kernel_rfl) (fun _ _ _ h => h) (yieldsIf_load_mid (by kernel_rfl) 28 (.tmp 4) rfl v 0 rfl lr _ (fun _ h => h.2) Try.underlying28 rfl hlr) hH ?_
  refine wpAnyH_ready (rs := [14]) (by kernel_rfl) (by simp) ?_
  refine AllReadyH.cons rfl (fun K hK => ?_) AllReadyH.nil
  go_simp
  refine (HV.out wc4).mono ?_
  rintro e5 wc5 ⟨rfl, hp⟩
  have HPc5 : Hid (Past w5 wc5) := Lib.hid (HPc4.out.trans' hp)
  clear hp
  refine hK.out _ _ (HSK.out _ HPc5.out) (fun hH => ?_)
  clear hK K
  refine held_take 15 27 (v := .bool true) rfl rfl (by kernel_rfl) (by kernel_rfl) (by kernel_rfl) (fun _ _ _ h => h) (Or.inl ⟨by kernel_rfl, fun w _ => by kernel_rfl⟩) hH ?_
  (try simp only [List.setIfInBounds_toArray, List.set_cons_zero, List.set_cons_succ])
  refine held_take 16 2 (v := .bool true) rfl rfl (by kernel_rfl) (by kernel_rfl) (by kernel_rfl) (fun _ _ _ h => h) (Or.inl ⟨by kernel_rfl, fun w _ => by kernel_rfl⟩) hH ?_
  (try simp only [List.setIfInBounds_toArray, List.set_cons_zero, List.set_cons_succ])
  refine wpAnyH_done (by kernel_rfl) ?_ _
  go_simp
  go_wp2_with fail
  go_ret
  exact ⟨rfl, HW5.out.trans' HPc5.out⟩

set_option maxRecDepth 100000 in
theorem lifted (H7 : Prog14) (os : Os) (started : os.Started) (H : Type) (enc : TypeId × Value → H) :
    ReturnsInHanded {} Try.checked os 4 .any (Rows.kringInverseSpec.pre6 enc Try.prog Try.f4 Rows.kringInverseRow.domain false) (Rows.kringInverseSpec.post enc Try.prog Try.f4 false true false false) := by
  refine returnsInHanded_of_change (C := Try.checked) own started (by kernel_rfl) Try.func4
    (ChangeSpec.witness6 (enc := enc) (C := Try.checked) false ⟨#[], #[.agg #[.int .u32 0, .int .u32 0, .int .u32 0]], []⟩ 8 (by kernel_rfl) (by kernel_rfl) (by kernel_rfl) (by kernel_rfl)) ?_
  intro W base args ds gs before hval0 hW hcnd _
  have hval : ∀ (j : Nat) t v, Try.f4.params[j]? = some t → args[j]? = some v → Value.okWide Try.prog W .any base t v := hval0
  have hW' := hW
  obtain ⟨p, q, hA0, hV, rfl, hfz, hnd⟩ := hW
  have hA : DataW.TrodAll enc Try.prog W 0 (fun _ => true) true Try.f4.params.toList args.toList ds p := hA0
  rw [Try.params4] at hA hval
  obtain ⟨v0, vs0, d0, ds0, p0, q0, hargs, rfl, rfl, h0, r0⟩ := trodAll_cons hA
  obtain ⟨rfl, rfl, rfl⟩ := trodAll_nil r0
  obtain rfl : args = #[v0] := by cases args; simp_all
  obtain ⟨rfl, rfl⟩ := trodVars_none hV
  obtain ⟨a0, b0, c0, rfl, rfl, rfl, wa0, wb0, wc0⟩ := open3 (hval 0 23 v0 rfl rfl) h0
  clear hA0 hval0
  refine (walk H7 a0 b0 c0 W wa0 wb0 wc0).mono fun e W' ⟨he, bel⟩ => ?_
  subst he
  exact ⟨_, rfl, _, _, _, [], _, [], hW', trodAll_mk1 (shut_bool Try.underlying4 _), (trodAll_cons_mk (shut3 wa0 wb0 wc0) trodAll_mk0), rfl, bel.frame _, fun h => by cases h⟩

theorem over (H7 : Prog14) : Rows.kringInverseRow.holds Try.pinned (OpenSpec.ofChange Rows.kringInverseSpec) :=
  OpenClaim.holds_of_wide 4 Try.f4 rfl rfl rfl rfl rfl rfl rfl ⟨rfl, rfl, rfl, rfl, rfl⟩ rfl rfl rfl rfl rfl (by kernel_rfl) Try.func4 (by kernel_rfl)
    (of_decide_eq_true (by kernel_rfl)) (by unfold Func.isWrapper; first | (rw [if_pos (by decide +kernel)]; kernel_rfl) | (rw [if_neg (by decide +kernel)]; exact ⟨rfl, rfl⟩))
    (fun os started H enc _ => lifted H7 os started H enc)
theorem proved : Rows.KringInverseSaid := over prog14
#print axioms proved
end Go.Proofs.Ytmhhkhbdjkbklaa.kringInverse
