/- DringNorm over the program's contracts. -/
import Derived.Test.YtngbmaojgfocgaaFrame17
import Derived.Test.YtngbmaojgfocgaaM17F
import Derived.Deep.RegionHeld
namespace Go.Proofs.Ytngbmaojgfocgaa.dr.dringNorm
open Go.RowKit Go.ChangeShapes Go.WideShapes Go.ChangeAt
set_option linter.unusedVariables false

set_option maxHeartbeats 16000000 in
set_option maxRecDepth 100000 in
theorem walk (H : Prog17) (a b c a2 b2 c2 i n : Int) (w : World) (ha : (Lit.int .u32 a).wf = true) (hb : (Lit.int .u32 b).wf = true) (hc : (Lit.int .u32 c).wf = true) (ha2 : (Lit.int .u32 a2).wf = true) (hb2 : (Lit.int .u32 b2).wf = true) (hc2 : (Lit.int .u32 c2).wf = true) (hi : (Lit.int .i64 i).wf = true) (hn : (Lit.int .i64 n).wf = true) :
    Calls Try.prog 7 #[.agg #[.int .u32 a, .int .u32 b, .int .u32 c], .agg #[.int .u32 a2, .int .u32 b2, .int .u32 c2], .int .i64 i, .int .i64 n] w fun e w' => e = .returned (.bool true) ∧ Past w w' := by
  have HAW := Lib.hid (fun w => awake17 H w)
  have HSP := Lib.hid (fun w => spread_any a b c (by have := bounds_u32 ha; omega) (by have := bounds_u32 hb; omega) (by have := bounds_u32 hc; omega) w)
  have HSP2 := Lib.hid (fun w => spread_any a2 b2 c2 (by have := bounds_u32 ha2; omega) (by have := bounds_u32 hb2; omega) (by have := bounds_u32 hc2; omega) w)
  have hf := spr_rng a b c
  have hg := spr_rng a2 b2 c2
  generalize spr a b c = F at *
  generalize spr a2 b2 c2 = G at *
  have HNF := Lib.hid (fun w => H.norm F w hf)
  have HNG := Lib.hid (fun w => H.norm G w hg)
  have HRN := Lib.hid (fun w => rnorm_any F hf w)
  have HAD := Lib.hid (fun w => H.add F G w hf hg)
  have HNS := Lib.hid (fun w => H.norm (addF F G) w (R32.of_low fun j => by unfold addF; omega))
  have HSB := Lib.hid (fun w => H.sub (fun _ => 0) F w (fun _ => by simp) hf)
  have HNN := Lib.hid (fun w => H.norm (subF (fun _ => 0) F) w (R32.of_low fun j => by unfold subF; omega))
  rw [nrm_neg] at HNN
  have hle := nrm_add F G 256
  have b1 := nrm_rng F 256
  have b2' := nrm_rng G 256
  have b3 := nrm_rng (addF F G) 256
  generalize nrm F 256 = nf at *
  generalize nrm G 256 = ng at *
  generalize nrm (addF F G) 256 = ns at *
  obtain ⟨sm, hsm⟩ : ∃ s, nf + ng = s := ⟨_, rfl⟩
  have HWF : Hid (IntKind.i64.wrap nf = nf) := Lib.hid (by rw [IntKind.wrap_i64]; omega)
  have HWS : Hid (nf + ng = sm ∧ IntKind.u32.wrap sm = sm) := Lib.hid ⟨hsm, by rw [IntKind.wrap_u32]; omega⟩
  have HLE : Hid (ns ≤ sm) := Lib.hid (by omega)
  obtain ⟨nf0, nf1⟩ := b1
  obtain ⟨ng0, ng1⟩ := b2'
  obtain ⟨ns0, ns1⟩ := b3
  have hlf := (lst_len F).2
  have hlg := (lst_len G).2
  have HSF : Hid ((arr .u32 256 fun _ => 0).size = (arr .u32 256 F).size) := Lib.hid (by rw [arr_size, arr_size])
  have HOF := Lib.hid (arr_one .u32 256 F)
  have HRLF := Lib.hid (fun (w : World) (g : Nat) (h : Row w g 27 (arr .u32 256 F)) => row_lst h)
  have HSG : Hid ((arr .u32 256 fun _ => 0).size = (arr .u32 256 G).size) := Lib.hid (by rw [arr_size, arr_size])
  have HOG := Lib.hid (arr_one .u32 256 G)
  have HRLG := Lib.hid (fun (w : World) (g : Nat) (h : Row w g 27 (arr .u32 256 G)) => row_lst h)
  have hi2 := infP F
  have hi3 := infP G
  obtain ⟨n0, n1⟩ := bounds_i64 hn
  have HRE := Lib.hid (fun w => H.reduce n w (by omega) (by omega))
  obtain ⟨x, hx⟩ : ∃ x, n % 8380417 = x := ⟨_, rfl⟩
  have x0 : 0 ≤ x := by omega
  have x1 : x < 8380417 := by omega
  rw [hx] at HRE
  obtain ⟨t, ht⟩ : ∃ t, n.tmod 8380417 = t := ⟨_, rfl⟩
  have htx : t = x ∨ t = x - 8380417 := by
    rcases (show 0 ≤ n ∨ n < 0 by omega) with h | h
    · rw [Int.tmod_eq_emod_of_nonneg h] at ht
      omega
    · have := Int.tmod_eq_emod (a := n) (b := 8380417)
      rw [ht] at this
      split at this <;> omega
  have hw1 : IntKind.i64.wrap t = t := by rw [IntKind.wrap_i64]; omega
  obtain ⟨d, hd⟩ : ∃ d, t - x = d := ⟨_, rfl⟩
  have hd2 : d.tmod 8380417 = 0 := by
    rcases (show d = 0 ∨ d = -8380417 by omega) with h | h <;> rw [h] <;> decide
  have hw2 : IntKind.i64.wrap (t - x) = d := by rw [hd, IntKind.wrap_i64]; omega
  have hx1 : ¬ (8380416 : Int) < x := by omega
  have HD := Lib.hid (And.intro hx ht)
  have HXX := Lib.hid (And.intro hw1 (And.intro hw2 (And.intro hd2 (And.intro hx1 (And.intro x0 (And.intro x1 ht))))))
  have HRI := Lib.hid (fun (j : Nat) (hj : j < 256) w => H.rootIn j w hj)
  have HRO := Lib.hid (fun (hj : i < 0 ∨ 255 < i) w => H.rootOut i w hj)
  have hz := zeroP
  have HZP := Lib.hid zeroP
  simp only [arr_lst] at HSP HSP2 HNF HNG HRN HAD HNS HSB HNN HSF HSG HOF HOG HRLF HRLG hi2 hi3 hz HZP
  generalize lst (addF F G) = ls at *
  generalize lst (subF (fun _ => 0) F) = lo at *
  generalize lst F = lf at *
  generalize lst G = lg at *
  have hzl : (lst fun _ => 0).length = 256 := by unfold lst; simp
  generalize (lst fun _ => 0) = lz at *
  have hne : ¬ lz.toArray = #[] := by
    intro e
    rw [← List.size_toArray, e] at hzl
    simp at hzl
  have hne2 : ¬ lz = [] := by
    intro e
    rw [e] at hzl
    simp at hzl
  clear hf hg H hle hsm hx ht htx hd hw1 hw2 hd2 hx1 x0 x1 hzl n0 n1
  go_enter Try.func7, Try.ntmps7
  obtain ⟨g, hg⟩ : ∃ g, w.heap.size = g := ⟨_, rfl⟩
  obtain ⟨wb0, hwb0⟩ : ∃ w', w.alloc (.cells #[.int .u32 a, .int .u32 b, .int .u32 c] 23) = w' := ⟨_, rfl⟩
  have pwb0 : Past w wb0 := by rw [← hwb0]; exact (Below.refl _ w).alloc (Nat.le_refl _) _
  have swb0 : wb0.heap.size = g + 1 := by rw [← hwb0, World.size_alloc]; omega
  have rwb0 : Row wb0 (g) 23 #[.int .u32 a, .int .u32 b, .int .u32 c] := by
    have := Row.new w 23 #[.int .u32 a, .int .u32 b, .int .u32 c]
    rw [hwb0, show w.heap.size = g by omega] at this
    exact this
  obtain ⟨wb1, hwb1⟩ : ∃ w', wb0.alloc (.cells #[.int .u32 a2, .int .u32 b2, .int .u32 c2] 23) = w' := ⟨_, rfl⟩
  have pwb1 : Past wb0 wb1 := by rw [← hwb1]; exact (Below.refl _ wb0).alloc (Nat.le_refl _) _
  have swb1 : wb1.heap.size = g + 1 + 1 := by rw [← hwb1, World.size_alloc]; omega
  have rwb1 : Row wb1 (g + 1) 23 #[.int .u32 a2, .int .u32 b2, .int .u32 c2] := by
    have := Row.new wb0 23 #[.int .u32 a2, .int .u32 b2, .int .u32 c2]
    rw [hwb1, show wb0.heap.size = g + 1 by omega] at this
    exact this
  go_upto_region 1 with (fail)
  try rw [hwb0]; try rw [hwb1]
  try rw [hg]
  have HPB : Hid (Past w wb1) := Lib.hid (pwb0.trans' pwb1)
  have HRB : Hid (Row wb1 (g) 23 #[.int .u32 a, .int .u32 b, .int .u32 c] ∧ Row wb1 (g + 1) 23 #[.int .u32 a2, .int .u32 b2, .int .u32 c2]) := Lib.hid ⟨rwb0.past pwb1, rwb1⟩
  clear hg hwb0 pwb0 rwb0 swb0 hwb1 pwb1 rwb1 swb1
  go_wp2_with fail
  refine (HAW.out wb1).mono ?_
  rintro e w1 ⟨rfl, hp⟩
  have H1 : Hid (Past w w1) := Lib.hid (HPB.out.trans' hp)
  have HSD : Hid (∀ w', Past w1 w' → Row w' (g) 23 #[.int .u32 a, .int .u32 b, .int .u32 c] ∧ Row w' (g + 1) 23 #[.int .u32 a2, .int .u32 b2, .int .u32 c2]) := Lib.hid (fun w' h => ⟨HRB.out.1.past (hp.trans' h), HRB.out.2.past (hp.trans' h)⟩)
  clear hp HAW HRB HPB
  obtain k0 := (HSD.out w1 (Below.refl _ _)).1.cell 0
  obtain k1 := (HSD.out w1 (Below.refl _ _)).1.cell 1
  obtain k2 := (HSD.out w1 (Below.refl _ _)).1.cell 2
  go_wp2_with fail
  refine (HSP.out w1).mono ?_
  rintro e w2 ⟨rfl, hp⟩
  have HP2 := Lib.hid hp
  clear hp k0 k1 k2
  obtain ⟨u, hu⟩ : ∃ u, w2.heap.size = u := ⟨_, rfl⟩
  have hfr := fresh_row w2 27 lz.toArray lf.toArray
  have hr0 := Row.new w2 27 lz.toArray
  have hsN := HSF.out
  have hoN := HOF.out
  rw [hu] at hfr hr0
  obtain ⟨w3, hw3⟩ : ∃ w', (w2.alloc (.cells lz.toArray 27)).setRow u lf.toArray = w' := ⟨_, rfl⟩
  rw [hw3] at hfr
  have HPw3 : Hid (Past w2 w3) := Lib.hid hfr.2
  have HROWw3 := Lib.hid hfr.1
  have HW3 := Lib.hid hw3
  clear hw3 hfr
  go_upto_region 4 with (refine wpList_store_row rfl 27 _ _ rfl u _ rfl rfl _ _ hr0 hi2 hsN hoN ?_)
  rw [HW3.out]
  clear HW3 hr0 hsN hoN hu
  obtain k0 := (HSD.out w3 (HP2.out.trans' HPw3.out)).2.cell 0
  obtain k1 := (HSD.out w3 (HP2.out.trans' HPw3.out)).2.cell 1
  obtain k2 := (HSD.out w3 (HP2.out.trans' HPw3.out)).2.cell 2
  go_wp2_with fail
  refine (HSP2.out w3).mono ?_
  rintro e w4 ⟨rfl, hp⟩
  have HP4 := Lib.hid hp
  clear hp k0 k1 k2 HSD HSP HSP2
  obtain ⟨v, hu⟩ : ∃ u, w4.heap.size = u := ⟨_, rfl⟩
  have hfr := fresh_row w4 27 lz.toArray lg.toArray
  have hr0 := Row.new w4 27 lz.toArray
  have hsN := HSG.out
  have hoN := HOG.out
  rw [hu] at hfr hr0
  obtain ⟨w5, hw3⟩ : ∃ w', (w4.alloc (.cells lz.toArray 27)).setRow v lg.toArray = w' := ⟨_, rfl⟩
  rw [hw3] at hfr
  have HPw5 : Hid (Past w4 w5) := Lib.hid hfr.2
  have HROWw5 := Lib.hid hfr.1
  have HW3 := Lib.hid hw3
  clear hw3 hfr
  go_upto_region 5 with (refine wpList_store_row rfl 27 _ _ rfl v _ rfl rfl _ _ hr0 hi3 hsN hoN ?_)
  rw [HW3.out]
  clear HW3 hr0 hsN hoN hu
  have HWB : Hid (Past w w5) := Lib.hid (H1.out.trans' (HP2.out.trans' (HPw3.out.trans' (HP4.out.trans' HPw5.out))))
  have HSK : Hid (∀ w', Past w5 w' → (w'.rangeAt u 0 lf ∧ w'.rangeAt v 0 lg)) := Lib.hid (fun w' h => ⟨HRLF.out _ _ (HROWw3.out.past ((HP4.out.trans' HPw5.out).trans' h)), HRLG.out _ _ (HROWw5.out.past h)⟩)
  clear hz hi2 hi3
  go_wp2_with fail
  refine (HRE.out w5).mono ?_
  rintro e wr1 ⟨rfl, hp⟩
  have HR1 := Lib.hid hp
  clear hp
  obtain ⟨hw1, hw2, hd2, hx1, x0, x1, ht⟩ := HXX.out
  go_upto_region 8 with (fail)
  clear hw1 hw2 hd2 hx1 x0 x1 ht
  by_cases hin : 0 ≤ i ∧ i ≤ 255
  · obtain ⟨j, rfl⟩ : ∃ j : Nat, i = (j : Int) := ⟨i.toNat, by omega⟩
    have hj : j < 256 := by omega
    have HRI' := Lib.hid (fun w => HRI.out j hj w)
    have HRR := Lib.hid (fun w => rroot_any j hj w)
    obtain ⟨z0, z1⟩ := rt_lt j
    obtain ⟨z, hz⟩ : ∃ z, rt j = z := ⟨_, rfl⟩
    rw [hz] at HRI' HRR z0 z1
    have hj0 : (0 : Int) ≤ (j : Int) := by omega
    have hj1 : (j : Int) ≤ 255 := by omega
    have hwz : IntKind.i64.wrap z = z := by rw [IntKind.wrap_i64]; omega
    clear hin hi hn hz hj
    go_wp2_with fail
    refine (HRI'.out wr1).mono ?_
    rintro e wr2 ⟨rfl, hp⟩
    have HR2 := Lib.hid (HR1.out.trans' hp)
    clear hp
    go_wp2_with fail
    refine (HRR.out wr2).mono ?_
    rintro e wr3 ⟨rfl, hwr⟩
    have HPR : Hid (Past w5 wr3) := Lib.hid (by rw [hwr]; exact HR2.out)
    clear hwr
    go_upto_region 11 with (fail)
    clear z0 z1 hj0 hj1 hwz
    have HW6 : Hid (Past w wr3) := Lib.hid (HWB.out.trans' HPR.out)
    have HSK6 : Hid (∀ w', Past wr3 w' → (w'.rangeAt u 0 lf ∧ w'.rangeAt v 0 lg)) := Lib.hid (fun w' h => HSK.out _ (HPR.out.trans' h))
    generalize wr3 = w6 at *
    have HPD : Hid (Past w6 w6.drew) := Lib.hid (Past.drewN (Below.refl _ w6) 1)
    refine wp_region_held_drew (S := fun w' => w'.rangeAt u 0 lf ∧ w'.rangeAt v 0 lg) (by kernel_rfl) (HSK6.out _ HPD.out) (fun hH => ?_)
    refine held_take 0 64 rfl rfl (by kernel_rfl) (by kernel_rfl) (by kernel_rfl) (fun _ _ _ h => h) (yieldsIf_load_mid (by kernel_rfl) 27 (.tmp 9) rfl u 0 rfl lf _ (fun _ h => h.1) Try.underlying27 rfl hlf) hH ?_
    refine held_take 3 67 rfl rfl (by kernel_rfl) (by kernel_rfl) (by kernel_rfl) (fun _ _ _ h => h) (yieldsIf_load_mid (by kernel_rfl) 27 (.tmp 9) rfl u 0 rfl lf _ (fun _ h => h.1) Try.underlying27 rfl hlf) hH ?_
    refine wpAnyH_ready (rs := [1]) (by kernel_rfl) (by simp) ?_
    refine AllReadyH.cons rfl (fun K hK => ?_) AllReadyH.nil
    go_simp
    refine (HNF.out w6.drew).mono ?_
    rintro e1 wc1 ⟨rfl, hp⟩
    have HPc1 : Hid (Past w6 wc1) := Lib.hid (HPD.out.trans' hp)
    clear hp
    refine hK.out _ _ (HSK6.out _ HPc1.out) (fun hH => ?_)
    clear hK K
    refine held_take 2 66 (v := .int .i64 nf) rfl rfl (by kernel_rfl) (by kernel_rfl) (by kernel_rfl) (fun _ _ _ h => h) (Or.inl ⟨by kernel_rfl, fun w _ => by have hw := HWF.out; go_simp⟩) hH ?_
    (try simp only [List.setIfInBounds_toArray, List.set_cons_zero, List.set_cons_succ])
    refine wpAnyH_ready (rs := [4]) (by kernel_rfl) (by simp) ?_
    refine AllReadyH.cons rfl (fun K hK => ?_) AllReadyH.nil
    go_simp
    refine (HRN.out wc1).mono ?_
    rintro e2 wc2 ⟨rfl, hp⟩
    have HPc2 : Hid (Past w6 wc2) := Lib.hid (HPc1.out.trans' hp)
    clear hp
    refine hK.out _ _ (HSK6.out _ HPc2.out) (fun hH => ?_)
    clear hK K
    refine held_take 5 69 (v := .bool true) rfl rfl (by kernel_rfl) (by kernel_rfl) (by kernel_rfl) (fun _ _ _ h => h) (Or.inl ⟨by kernel_rfl, fun w _ => by go_simp⟩) hH ?_
    (try simp only [List.setIfInBounds_toArray, List.set_cons_zero, List.set_cons_succ])
    refine held_take 6 70 (v := .bool true) rfl rfl (by kernel_rfl) (by kernel_rfl) (by kernel_rfl) (fun _ _ _ h => h) (Or.inl ⟨by kernel_rfl, fun w _ => by kernel_rfl⟩) hH ?_
    (try simp only [List.setIfInBounds_toArray, List.set_cons_zero, List.set_cons_succ])
    refine held_take 7 71 rfl rfl (by kernel_rfl) (by kernel_rfl) (by kernel_rfl) (fun _ _ _ h => h) (yieldsIf_load_mid (by kernel_rfl) 27 (.tmp 9) rfl u 0 rfl lf _ (fun _ h => h.1) Try.underlying27 rfl hlf) hH ?_
    refine held_take 8 72 rfl rfl (by kernel_rfl) (by kernel_rfl) (by kernel_rfl) (fun _ _ _ h => h) (yieldsIf_load_mid (by kernel_rfl) 27 (.tmp 10) rfl v 0 rfl lg _ (fun _ h => h.2) Try.underlying27 rfl hlg) hH ?_
    refine held_take 11 75 rfl rfl (by kernel_rfl) (by kernel_rfl) (by kernel_rfl) (fun _ _ _ h => h) (yieldsIf_load_mid (by kernel_rfl) 27 (.tmp 9) rfl u 0 rfl lf _ (fun _ h => h.1) Try.underlying27 rfl hlf) hH ?_
    refine held_take 13 77 rfl rfl (by kernel_rfl) (by kernel_rfl) (by kernel_rfl) (fun _ _ _ h => h) (yieldsIf_load_mid (by kernel_rfl) 27 (.tmp 10) rfl v 0 rfl lg _ (fun _ h => h.2) Try.underlying27 rfl hlg) hH ?_
    refine wpAnyH_ready (rs := [9]) (by kernel_rfl) (by simp) ?_
    refine AllReadyH.cons rfl (fun K hK => ?_) AllReadyH.nil
    go_simp
    refine (HAD.out wc2).mono ?_
    rintro e3 wc3 ⟨rfl, hp⟩
    have HPc3 : Hid (Past w6 wc3) := Lib.hid (HPc2.out.trans' hp)
    clear hp
    refine hK.out _ _ (HSK6.out _ HPc3.out) (fun hH => ?_)
    clear hK K
    refine wpAnyH_ready (rs := [10]) (by kernel_rfl) (by simp) ?_
    refine AllReadyH.cons rfl (fun K hK => ?_) AllReadyH.nil
    go_simp
    refine (HNS.out wc3).mono ?_
    rintro e4 wc4 ⟨rfl, hp⟩
    have HPc4 : Hid (Past w6 wc4) := Lib.hid (HPc3.out.trans' hp)
    clear hp
    refine hK.out _ _ (HSK6.out _ HPc4.out) (fun hH => ?_)
    clear hK K
    refine wpAnyH_ready (rs := [12]) (by kernel_rfl) (by simp) ?_
    refine AllReadyH.cons rfl (fun K hK => ?_) AllReadyH.nil
    go_simp
    refine (HNF.out wc4).mono ?_
    rintro e5 wc5 ⟨rfl, hp⟩
    have HPc5 : Hid (Past w6 wc5) := Lib.hid (HPc4.out.trans' hp)
    clear hp
    refine hK.out _ _ (HSK6.out _ HPc5.out) (fun hH => ?_)
    clear hK K
    refine wpAnyH_ready (rs := [14]) (by kernel_rfl) (by simp) ?_
    refine AllReadyH.cons rfl (fun K hK => ?_) AllReadyH.nil
    go_simp
    refine (HNG.out wc5).mono ?_
    rintro e6 wc6 ⟨rfl, hp⟩
    have HPc6 : Hid (Past w6 wc6) := Lib.hid (HPc5.out.trans' hp)
    clear hp
    refine hK.out _ _ (HSK6.out _ HPc6.out) (fun hH => ?_)
    clear hK K
    refine held_take 15 79 (v := .int .u32 sm) rfl rfl (by kernel_rfl) (by kernel_rfl) (by kernel_rfl) (fun _ _ _ h => h) (Or.inl ⟨by kernel_rfl, fun w _ => by obtain ⟨hwa, hwb⟩ := HWS.out; go_simp⟩) hH ?_
    (try simp only [List.setIfInBounds_toArray, List.set_cons_zero, List.set_cons_succ])
    refine held_take 16 80 (v := .bool true) rfl rfl (by kernel_rfl) (by kernel_rfl) (by kernel_rfl) (fun _ _ _ h => h) (Or.inl ⟨by kernel_rfl, fun w _ => by have hw := HLE.out; go_simp⟩) hH ?_
    (try simp only [List.setIfInBounds_toArray, List.set_cons_zero, List.set_cons_succ])
    refine held_take 17 81 (v := .bool true) rfl rfl (by kernel_rfl) (by kernel_rfl) (by kernel_rfl) (fun _ _ _ h => h) (Or.inl ⟨by kernel_rfl, fun w _ => by kernel_rfl⟩) hH ?_
    (try simp only [List.setIfInBounds_toArray, List.set_cons_zero, List.set_cons_succ])
    refine held_take 18 82 (v := .bool true) rfl rfl (by kernel_rfl) (by kernel_rfl) (by kernel_rfl) (fun _ _ _ h => h) (Or.inl ⟨by kernel_rfl, fun w _ => by kernel_rfl⟩) hH ?_
    (try simp only [List.setIfInBounds_toArray, List.set_cons_zero, List.set_cons_succ])
    refine held_take 19 83 (v := .agg lz.toArray) rfl rfl (by kernel_rfl) (by kernel_rfl) (by kernel_rfl) (fun _ _ _ h => h) (Or.inl ⟨by kernel_rfl, fun w _ => by have hz := HZP.out; go_simp⟩) hH ?_
    (try simp only [List.setIfInBounds_toArray, List.set_cons_zero, List.set_cons_succ])
    refine held_take 20 84 rfl rfl (by kernel_rfl) (by kernel_rfl) (by kernel_rfl) (fun _ _ _ h => h) (yieldsIf_load_mid (by kernel_rfl) 27 (.tmp 9) rfl u 0 rfl lf _ (fun _ h => h.1) Try.underlying27 rfl hlf) hH ?_
    refine held_take 23 87 rfl rfl (by kernel_rfl) (by kernel_rfl) (by kernel_rfl) (fun _ _ _ h => h) (yieldsIf_load_mid (by kernel_rfl) 27 (.tmp 9) rfl u 0 rfl lf _ (fun _ h => h.1) Try.underlying27 rfl hlf) hH ?_
    refine wpAnyH_ready (rs := [21]) (by kernel_rfl) (by simp) ?_
    refine AllReadyH.cons rfl (fun K hK => ?_) AllReadyH.nil
    go_simp
    refine (HSB.out wc6).mono ?_
    rintro e7 wc7 ⟨rfl, hp⟩
    have HPc7 : Hid (Past w6 wc7) := Lib.hid (HPc6.out.trans' hp)
    clear hp
    refine hK.out _ _ (HSK6.out _ HPc7.out) (fun hH => ?_)
    clear hK K
    refine wpAnyH_ready (rs := [22]) (by kernel_rfl) (by simp) ?_
    refine AllReadyH.cons rfl (fun K hK => ?_) AllReadyH.nil
    go_simp
    refine (HNN.out wc7).mono ?_
    rintro e8 wc8 ⟨rfl, hp⟩
    have HPc8 : Hid (Past w6 wc8) := Lib.hid (HPc7.out.trans' hp)
    clear hp
    refine hK.out _ _ (HSK6.out _ HPc8.out) (fun hH => ?_)
    clear hK K
    refine wpAnyH_ready (rs := [24]) (by kernel_rfl) (by simp) ?_
    refine AllReadyH.cons rfl (fun K hK => ?_) AllReadyH.nil
    go_simp
    refine (HNF.out wc8).mono ?_
    rintro e9 wc9 ⟨rfl, hp⟩
    have HPc9 : Hid (Past w6 wc9) := Lib.hid (HPc8.out.trans' hp)
    clear hp
    refine hK.out _ _ (HSK6.out _ HPc9.out) (fun hH => ?_)
    clear hK K
    refine held_take 25 89 (v := .bool true) rfl rfl (by kernel_rfl) (by kernel_rfl) (by kernel_rfl) (fun _ _ _ h => h) (Or.inl ⟨by kernel_rfl, fun w _ => by go_simp⟩) hH ?_
    (try simp only [List.setIfInBounds_toArray, List.set_cons_zero, List.set_cons_succ])
    refine held_take 26 90 (v := .bool true) rfl rfl (by kernel_rfl) (by kernel_rfl) (by kernel_rfl) (fun _ _ _ h => h) (Or.inl ⟨by kernel_rfl, fun w _ => by kernel_rfl⟩) hH ?_
    (try simp only [List.setIfInBounds_toArray, List.set_cons_zero, List.set_cons_succ])
    refine held_take 27 8 (v := .bool true) rfl rfl (by kernel_rfl) (by kernel_rfl) (by kernel_rfl) (fun _ _ _ h => h) (Or.inl ⟨by kernel_rfl, fun w _ => by kernel_rfl⟩) hH ?_
    (try simp only [List.setIfInBounds_toArray, List.set_cons_zero, List.set_cons_succ])
    refine wpAnyH_done (by kernel_rfl) ?_ _
    go_simp
    go_wp2_with fail
    go_ret
    exact ⟨rfl, HW6.out.trans' HPc9.out⟩
  · have HRO' := Lib.hid (fun w => HRO.out (by omega) w)
    clear hn hi
    by_cases h0 : 0 ≤ i
    · have h1 : ¬ i ≤ 255 := fun h => hin ⟨h0, h⟩
      clear hin
      go_wp2_with fail
      refine (HRO'.out wr1).mono ?_
      rintro e wr2 ⟨rfl, hp⟩
      have HPR := Lib.hid (HR1.out.trans' hp)
      clear hp
      go_upto_region 11 with (fail)
      have HW6 : Hid (Past w wr2) := Lib.hid (HWB.out.trans' HPR.out)
      have HSK6 : Hid (∀ w', Past wr2 w' → (w'.rangeAt u 0 lf ∧ w'.rangeAt v 0 lg)) := Lib.hid (fun w' h => HSK.out _ (HPR.out.trans' h))
      generalize wr2 = w6 at *
      have HPD : Hid (Past w6 w6.drew) := Lib.hid (Past.drewN (Below.refl _ w6) 1)
      refine wp_region_held_drew (S := fun w' => w'.rangeAt u 0 lf ∧ w'.rangeAt v 0 lg) (by kernel_rfl) (HSK6.out _ HPD.out) (fun hH => ?_)
      refine held_take 0 64 rfl rfl (by kernel_rfl) (by kernel_rfl) (by kernel_rfl) (fun _ _ _ h => h) (yieldsIf_load_mid (by kernel_rfl) 27 (.tmp 9) rfl u 0 rfl lf _ (fun _ h => h.1) Try.underlying27 rfl hlf) hH ?_
      refine held_take 3 67 rfl rfl (by kernel_rfl) (by kernel_rfl) (by kernel_rfl) (fun _ _ _ h => h) (yieldsIf_load_mid (by kernel_rfl) 27 (.tmp 9) rfl u 0 rfl lf _ (fun _ h => h.1) Try.underlying27 rfl hlf) hH ?_
      refine wpAnyH_ready (rs := [1]) (by kernel_rfl) (by simp) ?_
      refine AllReadyH.cons rfl (fun K hK => ?_) AllReadyH.nil
      go_simp
      refine (HNF.out w6.drew).mono ?_
      rintro e1 wc1 ⟨rfl, hp⟩
      have HPc1 : Hid (Past w6 wc1) := Lib.hid (HPD.out.trans' hp)
      clear hp
      refine hK.out _ _ (HSK6.out _ HPc1.out) (fun hH => ?_)
      clear hK K
      refine held_take 2 66 (v := .int .i64 nf) rfl rfl (by kernel_rfl) (by kernel_rfl) (by kernel_rfl) (fun _ _ _ h => h) (Or.inl ⟨by kernel_rfl, fun w _ => by have hw := HWF.out; go_simp⟩) hH ?_
      (try simp only [List.setIfInBounds_toArray, List.set_cons_zero, List.set_cons_succ])
      refine wpAnyH_ready (rs := [4]) (by kernel_rfl) (by simp) ?_
      refine AllReadyH.cons rfl (fun K hK => ?_) AllReadyH.nil
      go_simp
      refine (HRN.out wc1).mono ?_
      rintro e2 wc2 ⟨rfl, hp⟩
      have HPc2 : Hid (Past w6 wc2) := Lib.hid (HPc1.out.trans' hp)
      clear hp
      refine hK.out _ _ (HSK6.out _ HPc2.out) (fun hH => ?_)
      clear hK K
      refine held_take 5 69 (v := .bool true) rfl rfl (by kernel_rfl) (by kernel_rfl) (by kernel_rfl) (fun _ _ _ h => h) (Or.inl ⟨by kernel_rfl, fun w _ => by go_simp⟩) hH ?_
      (try simp only [List.setIfInBounds_toArray, List.set_cons_zero, List.set_cons_succ])
      refine held_take 6 70 (v := .bool true) rfl rfl (by kernel_rfl) (by kernel_rfl) (by kernel_rfl) (fun _ _ _ h => h) (Or.inl ⟨by kernel_rfl, fun w _ => by kernel_rfl⟩) hH ?_
      (try simp only [List.setIfInBounds_toArray, List.set_cons_zero, List.set_cons_succ])
      refine held_take 7 71 rfl rfl (by kernel_rfl) (by kernel_rfl) (by kernel_rfl) (fun _ _ _ h => h) (yieldsIf_load_mid (by kernel_rfl) 27 (.tmp 9) rfl u 0 rfl lf _ (fun _ h => h.1) Try.underlying27 rfl hlf) hH ?_
      refine held_take 8 72 rfl rfl (by kernel_rfl) (by kernel_rfl) (by kernel_rfl) (fun _ _ _ h => h) (yieldsIf_load_mid (by kernel_rfl) 27 (.tmp 10) rfl v 0 rfl lg _ (fun _ h => h.2) Try.underlying27 rfl hlg) hH ?_
      refine held_take 11 75 rfl rfl (by kernel_rfl) (by kernel_rfl) (by kernel_rfl) (fun _ _ _ h => h) (yieldsIf_load_mid (by kernel_rfl) 27 (.tmp 9) rfl u 0 rfl lf _ (fun _ h => h.1) Try.underlying27 rfl hlf) hH ?_
      refine held_take 13 77 rfl rfl (by kernel_rfl) (by kernel_rfl) (by kernel_rfl) (fun _ _ _ h => h) (yieldsIf_load_mid (by kernel_rfl) 27 (.tmp 10) rfl v 0 rfl lg _ (fun _ h => h.2) Try.underlying27 rfl hlg) hH ?_
      refine wpAnyH_ready (rs := [9]) (by kernel_rfl) (by simp) ?_
      refine AllReadyH.cons rfl (fun K hK => ?_) AllReadyH.nil
      go_simp
      refine (HAD.out wc2).mono ?_
      rintro e3 wc3 ⟨rfl, hp⟩
      have HPc3 : Hid (Past w6 wc3) := Lib.hid (HPc2.out.trans' hp)
      clear hp
      refine hK.out _ _ (HSK6.out _ HPc3.out) (fun hH => ?_)
      clear hK K
      refine wpAnyH_ready (rs := [10]) (by kernel_rfl) (by simp) ?_
      refine AllReadyH.cons rfl (fun K hK => ?_) AllReadyH.nil
      go_simp
      refine (HNS.out wc3).mono ?_
      rintro e4 wc4 ⟨rfl, hp⟩
      have HPc4 : Hid (Past w6 wc4) := Lib.hid (HPc3.out.trans' hp)
      clear hp
      refine hK.out _ _ (HSK6.out _ HPc4.out) (fun hH => ?_)
      clear hK K
      refine wpAnyH_ready (rs := [12]) (by kernel_rfl) (by simp) ?_
      refine AllReadyH.cons rfl (fun K hK => ?_) AllReadyH.nil
      go_simp
      refine (HNF.out wc4).mono ?_
      rintro e5 wc5 ⟨rfl, hp⟩
      have HPc5 : Hid (Past w6 wc5) := Lib.hid (HPc4.out.trans' hp)
      clear hp
      refine hK.out _ _ (HSK6.out _ HPc5.out) (fun hH => ?_)
      clear hK K
      refine wpAnyH_ready (rs := [14]) (by kernel_rfl) (by simp) ?_
      refine AllReadyH.cons rfl (fun K hK => ?_) AllReadyH.nil
      go_simp
      refine (HNG.out wc5).mono ?_
      rintro e6 wc6 ⟨rfl, hp⟩
      have HPc6 : Hid (Past w6 wc6) := Lib.hid (HPc5.out.trans' hp)
      clear hp
      refine hK.out _ _ (HSK6.out _ HPc6.out) (fun hH => ?_)
      clear hK K
      refine held_take 15 79 (v := .int .u32 sm) rfl rfl (by kernel_rfl) (by kernel_rfl) (by kernel_rfl) (fun _ _ _ h => h) (Or.inl ⟨by kernel_rfl, fun w _ => by obtain ⟨hwa, hwb⟩ := HWS.out; go_simp⟩) hH ?_
      (try simp only [List.setIfInBounds_toArray, List.set_cons_zero, List.set_cons_succ])
      refine held_take 16 80 (v := .bool true) rfl rfl (by kernel_rfl) (by kernel_rfl) (by kernel_rfl) (fun _ _ _ h => h) (Or.inl ⟨by kernel_rfl, fun w _ => by have hw := HLE.out; go_simp⟩) hH ?_
      (try simp only [List.setIfInBounds_toArray, List.set_cons_zero, List.set_cons_succ])
      refine held_take 17 81 (v := .bool true) rfl rfl (by kernel_rfl) (by kernel_rfl) (by kernel_rfl) (fun _ _ _ h => h) (Or.inl ⟨by kernel_rfl, fun w _ => by kernel_rfl⟩) hH ?_
      (try simp only [List.setIfInBounds_toArray, List.set_cons_zero, List.set_cons_succ])
      refine held_take 18 82 (v := .bool true) rfl rfl (by kernel_rfl) (by kernel_rfl) (by kernel_rfl) (fun _ _ _ h => h) (Or.inl ⟨by kernel_rfl, fun w _ => by kernel_rfl⟩) hH ?_
      (try simp only [List.setIfInBounds_toArray, List.set_cons_zero, List.set_cons_succ])
      refine held_take 19 83 (v := .agg lz.toArray) rfl rfl (by kernel_rfl) (by kernel_rfl) (by kernel_rfl) (fun _ _ _ h => h) (Or.inl ⟨by kernel_rfl, fun w _ => by have hz := HZP.out; go_simp⟩) hH ?_
      (try simp only [List.setIfInBounds_toArray, List.set_cons_zero, List.set_cons_succ])
      refine held_take 20 84 rfl rfl (by kernel_rfl) (by kernel_rfl) (by kernel_rfl) (fun _ _ _ h => h) (yieldsIf_load_mid (by kernel_rfl) 27 (.tmp 9) rfl u 0 rfl lf _ (fun _ h => h.1) Try.underlying27 rfl hlf) hH ?_
      refine held_take 23 87 rfl rfl (by kernel_rfl) (by kernel_rfl) (by kernel_rfl) (fun _ _ _ h => h) (yieldsIf_load_mid (by kernel_rfl) 27 (.tmp 9) rfl u 0 rfl lf _ (fun _ h => h.1) Try.underlying27 rfl hlf) hH ?_
      refine wpAnyH_ready (rs := [21]) (by kernel_rfl) (by simp) ?_
      refine AllReadyH.cons rfl (fun K hK => ?_) AllReadyH.nil
      go_simp
      refine (HSB.out wc6).mono ?_
      rintro e7 wc7 ⟨rfl, hp⟩
      have HPc7 : Hid (Past w6 wc7) := Lib.hid (HPc6.out.trans' hp)
      clear hp
      refine hK.out _ _ (HSK6.out _ HPc7.out) (fun hH => ?_)
      clear hK K
      refine wpAnyH_ready (rs := [22]) (by kernel_rfl) (by simp) ?_
      refine AllReadyH.cons rfl (fun K hK => ?_) AllReadyH.nil
      go_simp
      refine (HNN.out wc7).mono ?_
      rintro e8 wc8 ⟨rfl, hp⟩
      have HPc8 : Hid (Past w6 wc8) := Lib.hid (HPc7.out.trans' hp)
      clear hp
      refine hK.out _ _ (HSK6.out _ HPc8.out) (fun hH => ?_)
      clear hK K
      refine wpAnyH_ready (rs := [24]) (by kernel_rfl) (by simp) ?_
      refine AllReadyH.cons rfl (fun K hK => ?_) AllReadyH.nil
      go_simp
      refine (HNF.out wc8).mono ?_
      rintro e9 wc9 ⟨rfl, hp⟩
      have HPc9 : Hid (Past w6 wc9) := Lib.hid (HPc8.out.trans' hp)
      clear hp
      refine hK.out _ _ (HSK6.out _ HPc9.out) (fun hH => ?_)
      clear hK K
      refine held_take 25 89 (v := .bool true) rfl rfl (by kernel_rfl) (by kernel_rfl) (by kernel_rfl) (fun _ _ _ h => h) (Or.inl ⟨by kernel_rfl, fun w _ => by go_simp⟩) hH ?_
      (try simp only [List.setIfInBounds_toArray, List.set_cons_zero, List.set_cons_succ])
      refine held_take 26 90 (v := .bool true) rfl rfl (by kernel_rfl) (by kernel_rfl) (by kernel_rfl) (fun _ _ _ h => h) (Or.inl ⟨by kernel_rfl, fun w _ => by kernel_rfl⟩) hH ?_
      (try simp only [List.setIfInBounds_toArray, List.set_cons_zero, List.set_cons_succ])
      refine held_take 27 8 (v := .bool true) rfl rfl (by kernel_rfl) (by kernel_rfl) (by kernel_rfl) (fun _ _ _ h => h) (Or.inl ⟨by kernel_rfl, fun w _ => by kernel_rfl⟩) hH ?_
      (try simp only [List.setIfInBounds_toArray, List.set_cons_zero, List.set_cons_succ])
      refine wpAnyH_done (by kernel_rfl) ?_ _
      go_simp
      go_wp2_with fail
      go_ret
      exact ⟨rfl, HW6.out.trans' HPc9.out⟩
    · clear hin
      go_wp2_with fail
      refine (HRO'.out wr1).mono ?_
      rintro e wr2 ⟨rfl, hp⟩
      have HPR := Lib.hid (HR1.out.trans' hp)
      clear hp
      go_upto_region 11 with (fail)
      have HW6 : Hid (Past w wr2) := Lib.hid (HWB.out.trans' HPR.out)
      have HSK6 : Hid (∀ w', Past wr2 w' → (w'.rangeAt u 0 lf ∧ w'.rangeAt v 0 lg)) := Lib.hid (fun w' h => HSK.out _ (HPR.out.trans' h))
      generalize wr2 = w6 at *
      have HPD : Hid (Past w6 w6.drew) := Lib.hid (Past.drewN (Below.refl _ w6) 1)
      refine wp_region_held_drew (S := fun w' => w'.rangeAt u 0 lf ∧ w'.rangeAt v 0 lg) (by kernel_rfl) (HSK6.out _ HPD.out) (fun hH => ?_)
      refine held_take 0 64 rfl rfl (by kernel_rfl) (by kernel_rfl) (by kernel_rfl) (fun _ _ _ h => h) (yieldsIf_load_mid (by kernel_rfl) 27 (.tmp 9) rfl u 0 rfl lf _ (fun _ h => h.1) Try.underlying27 rfl hlf) hH ?_
      refine held_take 3 67 rfl rfl (by kernel_rfl) (by kernel_rfl) (by kernel_rfl) (fun _ _ _ h => h) (yieldsIf_load_mid (by kernel_rfl) 27 (.tmp 9) rfl u 0 rfl lf _ (fun _ h => h.1) Try.underlying27 rfl hlf) hH ?_
      refine wpAnyH_ready (rs := [1]) (by kernel_rfl) (by simp) ?_
      refine AllReadyH.cons rfl (fun K hK => ?_) AllReadyH.nil
      go_simp
      refine (HNF.out w6.drew).mono ?_
      rintro e1 wc1 ⟨rfl, hp⟩
      have HPc1 : Hid (Past w6 wc1) := Lib.hid (HPD.out.trans' hp)
      clear hp
      refine hK.out _ _ (HSK6.out _ HPc1.out) (fun hH => ?_)
      clear hK K
      refine held_take 2 66 (v := .int .i64 nf) rfl rfl (by kernel_rfl) (by kernel_rfl) (by kernel_rfl) (fun _ _ _ h => h) (Or.inl ⟨by kernel_rfl, fun w _ => by have hw := HWF.out; go_simp⟩) hH ?_
      (try simp only [List.setIfInBounds_toArray, List.set_cons_zero, List.set_cons_succ])
      refine wpAnyH_ready (rs := [4]) (by kernel_rfl) (by simp) ?_
      refine AllReadyH.cons rfl (fun K hK => ?_) AllReadyH.nil
      go_simp
      refine (HRN.out wc1).mono ?_
      rintro e2 wc2 ⟨rfl, hp⟩
      have HPc2 : Hid (Past w6 wc2) := Lib.hid (HPc1.out.trans' hp)
      clear hp
      refine hK.out _ _ (HSK6.out _ HPc2.out) (fun hH => ?_)
      clear hK K
      refine held_take 5 69 (v := .bool true) rfl rfl (by kernel_rfl) (by kernel_rfl) (by kernel_rfl) (fun _ _ _ h => h) (Or.inl ⟨by kernel_rfl, fun w _ => by go_simp⟩) hH ?_
      (try simp only [List.setIfInBounds_toArray, List.set_cons_zero, List.set_cons_succ])
      refine held_take 6 70 (v := .bool true) rfl rfl (by kernel_rfl) (by kernel_rfl) (by kernel_rfl) (fun _ _ _ h => h) (Or.inl ⟨by kernel_rfl, fun w _ => by kernel_rfl⟩) hH ?_
      (try simp only [List.setIfInBounds_toArray, List.set_cons_zero, List.set_cons_succ])
      refine held_take 7 71 rfl rfl (by kernel_rfl) (by kernel_rfl) (by kernel_rfl) (fun _ _ _ h => h) (yieldsIf_load_mid (by kernel_rfl) 27 (.tmp 9) rfl u 0 rfl lf _ (fun _ h => h.1) Try.underlying27 rfl hlf) hH ?_
      refine held_take 8 72 rfl rfl (by kernel_rfl) (by kernel_rfl) (by kernel_rfl) (fun _ _ _ h => h) (yieldsIf_load_mid (by kernel_rfl) 27 (.tmp 10) rfl v 0 rfl lg _ (fun _ h => h.2) Try.underlying27 rfl hlg) hH ?_
      refine held_take 11 75 rfl rfl (by kernel_rfl) (by kernel_rfl) (by kernel_rfl) (fun _ _ _ h => h) (yieldsIf_load_mid (by kernel_rfl) 27 (.tmp 9) rfl u 0 rfl lf _ (fun _ h => h.1) Try.underlying27 rfl hlf) hH ?_
      refine held_take 13 77 rfl rfl (by kernel_rfl) (by kernel_rfl) (by kernel_rfl) (fun _ _ _ h => h) (yieldsIf_load_mid (by kernel_rfl) 27 (.tmp 10) rfl v 0 rfl lg _ (fun _ h => h.2) Try.underlying27 rfl hlg) hH ?_
      refine wpAnyH_ready (rs := [9]) (by kernel_rfl) (by simp) ?_
      refine AllReadyH.cons rfl (fun K hK => ?_) AllReadyH.nil
      go_simp
      refine (HAD.out wc2).mono ?_
      rintro e3 wc3 ⟨rfl, hp⟩
      have HPc3 : Hid (Past w6 wc3) := Lib.hid (HPc2.out.trans' hp)
      clear hp
      refine hK.out _ _ (HSK6.out _ HPc3.out) (fun hH => ?_)
      clear hK K
      refine wpAnyH_ready (rs := [10]) (by kernel_rfl) (by simp) ?_
      refine AllReadyH.cons rfl (fun K hK => ?_) AllReadyH.nil
      go_simp
      refine (HNS.out wc3).mono ?_
      rintro e4 wc4 ⟨rfl, hp⟩
      have HPc4 : Hid (Past w6 wc4) := Lib.hid (HPc3.out.trans' hp)
      clear hp
      refine hK.out _ _ (HSK6.out _ HPc4.out) (fun hH => ?_)
      clear hK K
      refine wpAnyH_ready (rs := [12]) (by kernel_rfl) (by simp) ?_
      refine AllReadyH.cons rfl (fun K hK => ?_) AllReadyH.nil
      go_simp
      refine (HNF.out wc4).mono ?_
      rintro e5 wc5 ⟨rfl, hp⟩
      have HPc5 : Hid (Past w6 wc5) := Lib.hid (HPc4.out.trans' hp)
      clear hp
      refine hK.out _ _ (HSK6.out _ HPc5.out) (fun hH => ?_)
      clear hK K
      refine wpAnyH_ready (rs := [14]) (by kernel_rfl) (by simp) ?_
      refine AllReadyH.cons rfl (fun K hK => ?_) AllReadyH.nil
      go_simp
      refine (HNG.out wc5).mono ?_
      rintro e6 wc6 ⟨rfl, hp⟩
      have HPc6 : Hid (Past w6 wc6) := Lib.hid (HPc5.out.trans' hp)
      clear hp
      refine hK.out _ _ (HSK6.out _ HPc6.out) (fun hH => ?_)
      clear hK K
      refine held_take 15 79 (v := .int .u32 sm) rfl rfl (by kernel_rfl) (by kernel_rfl) (by kernel_rfl) (fun _ _ _ h => h) (Or.inl ⟨by kernel_rfl, fun w _ => by obtain ⟨hwa, hwb⟩ := HWS.out; go_simp⟩) hH ?_
      (try simp only [List.setIfInBounds_toArray, List.set_cons_zero, List.set_cons_succ])
      refine held_take 16 80 (v := .bool true) rfl rfl (by kernel_rfl) (by kernel_rfl) (by kernel_rfl) (fun _ _ _ h => h) (Or.inl ⟨by kernel_rfl, fun w _ => by have hw := HLE.out; go_simp⟩) hH ?_
      (try simp only [List.setIfInBounds_toArray, List.set_cons_zero, List.set_cons_succ])
      refine held_take 17 81 (v := .bool true) rfl rfl (by kernel_rfl) (by kernel_rfl) (by kernel_rfl) (fun _ _ _ h => h) (Or.inl ⟨by kernel_rfl, fun w _ => by kernel_rfl⟩) hH ?_
      (try simp only [List.setIfInBounds_toArray, List.set_cons_zero, List.set_cons_succ])
      refine held_take 18 82 (v := .bool true) rfl rfl (by kernel_rfl) (by kernel_rfl) (by kernel_rfl) (fun _ _ _ h => h) (Or.inl ⟨by kernel_rfl, fun w _ => by kernel_rfl⟩) hH ?_
      (try simp only [List.setIfInBounds_toArray, List.set_cons_zero, List.set_cons_succ])
      refine held_take 19 83 (v := .agg lz.toArray) rfl rfl (by kernel_rfl) (by kernel_rfl) (by kernel_rfl) (fun _ _ _ h => h) (Or.inl ⟨by kernel_rfl, fun w _ => by have hz := HZP.out; go_simp⟩) hH ?_
      (try simp only [List.setIfInBounds_toArray, List.set_cons_zero, List.set_cons_succ])
      refine held_take 20 84 rfl rfl (by kernel_rfl) (by kernel_rfl) (by kernel_rfl) (fun _ _ _ h => h) (yieldsIf_load_mid (by kernel_rfl) 27 (.tmp 9) rfl u 0 rfl lf _ (fun _ h => h.1) Try.underlying27 rfl hlf) hH ?_
      refine held_take 23 87 rfl rfl (by kernel_rfl) (by kernel_rfl) (by kernel_rfl) (fun _ _ _ h => h) (yieldsIf_load_mid (by kernel_rfl) 27 (.tmp 9) rfl u 0 rfl lf _ (fun _ h => h.1) Try.underlying27 rfl hlf) hH ?_
      refine wpAnyH_ready (rs := [21]) (by kernel_rfl) (by simp) ?_
      refine AllReadyH.cons rfl (fun K hK => ?_) AllReadyH.nil
      go_simp
      refine (HSB.out wc6).mono ?_
      rintro e7 wc7 ⟨rfl, hp⟩
      have HPc7 : Hid (Past w6 wc7) := Lib.hid (HPc6.out.trans' hp)
      clear hp
      refine hK.out _ _ (HSK6.out _ HPc7.out) (fun hH => ?_)
      clear hK K
      refine wpAnyH_ready (rs := [22]) (by kernel_rfl) (by simp) ?_
      refine AllReadyH.cons rfl (fun K hK => ?_) AllReadyH.nil
      go_simp
      refine (HNN.out wc7).mono ?_
      rintro e8 wc8 ⟨rfl, hp⟩
      have HPc8 : Hid (Past w6 wc8) := Lib.hid (HPc7.out.trans' hp)
      clear hp
      refine hK.out _ _ (HSK6.out _ HPc8.out) (fun hH => ?_)
      clear hK K
      refine wpAnyH_ready (rs := [24]) (by kernel_rfl) (by simp) ?_
      refine AllReadyH.cons rfl (fun K hK => ?_) AllReadyH.nil
      go_simp
      refine (HNF.out wc8).mono ?_
      rintro e9 wc9 ⟨rfl, hp⟩
      have HPc9 : Hid (Past w6 wc9) := Lib.hid (HPc8.out.trans' hp)
      clear hp
      refine hK.out _ _ (HSK6.out _ HPc9.out) (fun hH => ?_)
      clear hK K
      refine held_take 25 89 (v := .bool true) rfl rfl (by kernel_rfl) (by kernel_rfl) (by kernel_rfl) (fun _ _ _ h => h) (Or.inl ⟨by kernel_rfl, fun w _ => by go_simp⟩) hH ?_
      (try simp only [List.setIfInBounds_toArray, List.set_cons_zero, List.set_cons_succ])
      refine held_take 26 90 (v := .bool true) rfl rfl (by kernel_rfl) (by kernel_rfl) (by kernel_rfl) (fun _ _ _ h => h) (Or.inl ⟨by kernel_rfl, fun w _ => by kernel_rfl⟩) hH ?_
      (try simp only [List.setIfInBounds_toArray, List.set_cons_zero, List.set_cons_succ])
      refine held_take 27 8 (v := .bool true) rfl rfl (by kernel_rfl) (by kernel_rfl) (by kernel_rfl) (fun _ _ _ h => h) (Or.inl ⟨by kernel_rfl, fun w _ => by kernel_rfl⟩) hH ?_
      (try simp only [List.setIfInBounds_toArray, List.set_cons_zero, List.set_cons_succ])
      refine wpAnyH_done (by kernel_rfl) ?_ _
      go_simp
      go_wp2_with fail
      go_ret
      exact ⟨rfl, HW6.out.trans' HPc9.out⟩

set_option maxRecDepth 100000 in
theorem lifted (H7 : Prog17) (os : Os) (started : os.Started) (H : Type) (enc : TypeId × Value → H) :
    ReturnsInHanded {} Try.checked os 7 .any (Rows.dringNormSpec.pre6 enc Try.prog Try.f7 Rows.dringNormRow.domain false) (Rows.dringNormSpec.post enc Try.prog Try.f7 false true false false) := by
  refine returnsInHanded_of_change (C := Try.checked) own started (by kernel_rfl) Try.func7
    (ChangeSpec.witness6 (enc := enc) (C := Try.checked) false ⟨#[], #[.agg #[.int .u32 0, .int .u32 0, .int .u32 0], .agg #[.int .u32 0, .int .u32 0, .int .u32 0], .int .i64 0, .int .i64 0], []⟩ 8 (by kernel_rfl) (by kernel_rfl) (by kernel_rfl) (by kernel_rfl)) ?_
  intro W base args ds gs before hval0 hW hcnd _
  have hval : ∀ (j : Nat) t v, Try.f7.params[j]? = some t → args[j]? = some v → Value.okWide Try.prog W .any base t v := hval0
  have hW' := hW
  obtain ⟨p, q, hA0, hV, rfl, hfz, hnd⟩ := hW
  have hA : DataW.TrodAll enc Try.prog W 0 (fun _ => true) true Try.f7.params.toList args.toList ds p := hA0
  rw [Try.params7] at hA hval
  obtain ⟨v0, vs0, d0, ds0, p0, q0, hargs, rfl, rfl, h0, r0⟩ := trodAll_cons hA
  obtain ⟨v1, vs1, d1, ds1, p1, q1, rfl, rfl, rfl, h1, r1⟩ := trodAll_cons r0
  obtain ⟨v2, vs2, d2, ds2, p2, q2, rfl, rfl, rfl, h2, r2⟩ := trodAll_cons r1
  obtain ⟨v3, vs3, d3, ds3, p3, q3, rfl, rfl, rfl, h3, r3⟩ := trodAll_cons r2
  obtain ⟨rfl, rfl, rfl⟩ := trodAll_nil r3
  obtain rfl : args = #[v0, v1, v2, v3] := by cases args; simp_all
  obtain ⟨rfl, rfl⟩ := trodVars_none hV
  obtain ⟨a0, b0, c0, rfl, rfl, rfl, wa0, wb0, wc0⟩ := open3 (hval 0 23 v0 rfl rfl) h0
  obtain ⟨a1, b1, c1, rfl, rfl, rfl, wa1, wb1, wc1⟩ := open3 (hval 1 23 v1 rfl rfl) h1
  obtain ⟨a2, rfl, rfl, rfl, w2⟩ := open_int Try.underlying3 (hval 2 3 v2 rfl rfl) h2
  obtain ⟨a3, rfl, rfl, rfl, w3⟩ := open_int Try.underlying2 (hval 3 2 v3 rfl rfl) h3
  clear hA0 hval0
  refine (walk H7 a0 b0 c0 a1 b1 c1 a2 a3 W wa0 wb0 wc0 wa1 wb1 wc1 w2 w3).mono fun e W' ⟨he, bel⟩ => ?_
  subst he
  exact ⟨_, rfl, _, _, _, [], _, [], hW', trodAll_mk1 (shut_bool Try.underlying4 _), (trodAll_cons_mk (shut3 wa0 wb0 wc0) (trodAll_cons_mk (shut3 wa1 wb1 wc1) (trodAll_cons_mk (shut_int Try.underlying3 w2) (trodAll_cons_mk (shut_int Try.underlying2 w3) trodAll_mk0)))), rfl, bel.frame _, fun h => by cases h⟩

theorem over (H7 : Prog17) : Rows.dringNormRow.holds Try.pinned (OpenSpec.ofChange Rows.dringNormSpec) :=
  OpenClaim.holds_of_wide 7 Try.f7 rfl rfl rfl rfl rfl rfl rfl ⟨rfl, rfl, rfl, rfl, rfl⟩ rfl rfl rfl rfl rfl (by kernel_rfl) Try.func7 (by kernel_rfl)
    (of_decide_eq_true (by kernel_rfl)) (by unfold Func.isWrapper; first | (rw [if_pos (by decide +kernel)]; kernel_rfl) | (rw [if_neg (by decide +kernel)]; exact ⟨rfl, rfl⟩))
    (fun os started H enc _ => lifted H7 os started H enc)

theorem proved : Rows.DringNormSaid := over prog17
#print axioms proved
end Go.Proofs.Ytngbmaojgfocgaa.dr.dringNorm
