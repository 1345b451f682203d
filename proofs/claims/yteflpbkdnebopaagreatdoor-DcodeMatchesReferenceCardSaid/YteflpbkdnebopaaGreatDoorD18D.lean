/- The methods pack and unpack of packing. -/
import Derived.Test.YteflpbkdnebopaaGreatDoorD18C
namespace Go.Proofs.YteflpbkdnebopaaGreatDoor
open Go.RowKit
set_option linter.unusedVariables false
set_option maxRecDepth 100000

theorem step_wanted18 {P : Program} {ops : Array Oper} {o : Oper} {a : Act} {w : World} {K : Act → World → Prop} {Q : Exit → Act → World → Prop} {E : Prop} (hg : o.guard = none) (h : Oper.wp P o a w K Q) :
    if Region.wanted o (yielded ops a.tmps) = true then Oper.wp P o a w K Q else E := by
  rw [if_pos (by simp [Region.wanted, hg])]
  exact h
theorem range_lst {w : World} {g : Nat} {t : TypeId} {f : Nat → Int} (h : Row w g t (arr .u32 256 f)) : w.rangeAt g 0 (lst f) := fun j v hj => by
  rw [Nat.zero_add, h.cell]
  rw [arr_lst]
  simpa using hj
set_option maxHeartbeats 4000000 in
theorem punpackM_any (D : Nat) (d1 : 1 ≤ D) (d2 : D ≤ 32) (top : Int) (t0 : 0 ≤ top) (t1 : top < 4294967296) (A : Option Addr) (L c : Nat) (xs : List Int) (w : World) (hS : Sl w A L c xs) (hL : L ≤ 10000) (hl : xs.length = 32 * D) :
    Calls Tryz.prog 37 #[.agg (pkV top (D : Int)), .slice A L c] w fun e w' =>
      e = .returned (.tuple #[.agg (arr .u32 256 (if nrmQ (plyD D top xs) 256 ≤ top then plyD D top xs else fun _ => 0)), .bool (decide (nrmQ (plyD D top xs) 256 ≤ top))]) ∧ Past w w' := by
  obtain ⟨g, hg⟩ : ∃ g, w.heap.size = g := ⟨_, rfl⟩
  obtain ⟨w0, hw0⟩ : ∃ W, (w.alloc (.cells (pkV top (D : Int)) 85)).alloc (.cells (arr .u32 256 fun _ => 0) 57) = W := ⟨_, rfl⟩
  have hp0 : Past w w0 := by rw [← hw0]; exact ((Below.refl _ _).alloc (Nat.le_refl _) _).alloc (by simp) _
  have HK0 : Hid (Row w0 g 85 (pkV top (D : Int))) := Lib.hid (by rw [← hw0, ← hg]; exact (Row.new _ _ _).alloc _)
  have HR0 : Hid (Row w0 (g + 1) 57 (arr .u32 256 fun _ => 0)) := Lib.hid (by
    rw [← hw0, ← hg]
    have := Row.new (w.alloc (.cells (pkV top (D : Int)) 85)) 57 (arr .u32 256 fun _ => 0)
    simpa using this)
  have HP0 := Lib.hid hp0
  have HU := Lib.hid (punpack18_any D d1 d2 top t0 t1 A L c xs w0 (hS.past hp0) hL)
  have HPL : Hid (unpF D top xs = plyD D top xs) := Lib.hid (by unfold unpF; rw [if_pos hl])
  rw [HPL.out, decide_eq_true hl] at HU
  have HRP : Hid (R32 (plyD D top xs)) := Lib.hid (R32.of_low fun j => plyD_rng D top xs j)
  have HN := Lib.hid (fun w => pnorm_any (plyD D top xs) HRP.out w)
  have HW0 := Lib.hid hw0
  have HGS : Hid (w.heap.size ≤ g) := Lib.hid (by omega)
  have HZ := Lib.hid zeroP
  have HI := Lib.hid infP
  have HO := Lib.hid (fun f => arr_one .u32 256 f)
  have HSZ : Hid (∀ f h : Nat → Int, (arr .u32 256 f).size = (arr .u32 256 h).size) := Lib.hid (fun f h => by rw [arr_size, arr_size])
  obtain ⟨F, hF⟩ : ∃ F, plyD D top xs = F := ⟨_, rfl⟩
  rw [hF] at HU HRP HN
  have HF := Lib.hid hF
  rw [hF]
  obtain ⟨N, hN⟩ : ∃ N, nrmQ F 256 = N := ⟨_, rfl⟩
  rw [hN] at HN
  rw [hN]
  have hNb := nrmQ_rng F 256
  rw [hN] at hNb
  have HNB := Lib.hid hNb
  obtain ⟨zs, hzs⟩ : ∃ zs, arr .u32 256 (fun _ => (0 : Int)) = zs := ⟨_, rfl⟩
  have HZS := Lib.hid hzs
  rw [hzs] at HZ
  have HIL := Lib.hid (inf_lst F)
  have HSK : Hid (∀ (w' : World) u, Row w' u 57 (arr .u32 256 F) → w'.rangeAt u 0 (lst F)) := Lib.hid (fun w' u h => range_lst h)
  have HAL := Lib.hid (arr_lst F)
  have HT0 := Lib.hid (And.intro t0 t1)
  clear hw0 hS hL hl d1 d2 hzs hp0 hF hN hNb
  go_enter Tryz.func37, Tryz.ntmps37
  have hz := HZ.out
  go_upto_region 1 with (fail)
  rw [← HZS.out, HW0.out]
  try rw [hg]
  clear HW0 hz
  have k0 : w0.cell? ⟨g, 0, none⟩ = some (.int .u32 top) := by rw [HK0.out.cell]; rfl
  have k1 : w0.cell? ⟨g, 1, none⟩ = some (.int .i64 (D : Int)) := by rw [HK0.out.cell]; rfl
  go_wp2_with fail
  refine HU.out.mono ?_
  rintro e w1 ⟨rfl, hp1⟩
  have HP1 := Lib.hid (HP0.out.trans' hp1)
  have HK1 := Lib.hid (HK0.out.past hp1)
  have HR1 := Lib.hid (HR0.out.past hp1)
  clear hp1 HU k0 k1 HK0 HR0
  have hz := HZ.out
  obtain ⟨u, hu⟩ : ∃ u, w1.heap.size = u := ⟨_, rfl⟩
  have hgu : g + 1 < u := by rw [← hu]; exact HR1.out.lt
  have hrz : Row (w1.alloc (.cells (arr .u32 256 fun _ => 0) 57)) u 57 (arr .u32 256 fun _ => 0) := by rw [← hu]; exact Row.new _ _ _
  obtain ⟨w2, hw2⟩ : ∃ W, (w1.alloc (.cells (arr .u32 256 fun _ => 0) 57)).setRow u (arr .u32 256 F) = W := ⟨_, rfl⟩
  have HP12 : Hid (Past w1 w2) := Lib.hid (by rw [← hw2]; exact below_setRow ((Below.refl _ _).alloc (Nat.le_refl _) _) (by omega) _)
  have HP2 : Hid (Past w w2) := Lib.hid (HP1.out.trans' HP12.out)
  have HQ2 : Hid (Row w2 u 57 (arr .u32 256 F)) := Lib.hid (by rw [← hw2]; exact setRow_heap _ u _ _ _ _ hrz)
  have HK2 := Lib.hid (HK1.out.past HP12.out)
  have HR2 := Lib.hid (HR1.out.past HP12.out)
  have HW2 := Lib.hid hw2
  have hi2 := HI.out F
  have ho2 := HO.out F
  have hs2 := HSZ.out (fun _ => 0) F
  rw [HZS.out] at hrz hs2 hw2
  rw [HZS.out] at HW2
  have HGU := Lib.hid hgu
  clear hw2 HK1 HR1 hgu hg
  generalize hcf : arr .u32 256 F = cF at *
  have HCF := Lib.hid hcf
  clear hcf
  generalize lst F = lF at *
  rw [HAL.out] at HN
  go_upto_region 2 with (first | (refine wpList_store_row rfl 57 _ _ rfl u _ rfl rfl _ _ hrz hi2 hs2 ho2 ?_) | fail)
  rw [HW2.out]
  try rw [hu]
  clear HW2 hrz hu hz hs2
  obtain ⟨w2d, hw2d⟩ : ∃ W, W = w2.drew := ⟨_, rfl⟩
  have HSS : Hid (∀ w', Past w2d w' → w'.rangeAt u 0 lF ∧ w'.cell? ⟨g, 0, none⟩ = some (.int .u32 top)) := Lib.hid (fun w' h => by
    have hp : Past w2 w' := (show Past w2 w2d by rw [hw2d]; exact Past.drewN (Below.refl _ w2) 1).trans' h
    refine ⟨HSK.out _ _ (HQ2.out.past hp), ?_⟩
    rw [(HK2.out.past hp).cell]
    rfl)
  have HP0d : Hid (Past w2d w2d) := Lib.hid (Below.refl _ _)
  have HD2 : Hid (Past w2 w2d) := Lib.hid (by rw [hw2d]; exact Past.drewN (Below.refl _ w2) 1)
  refine wp_region_held_drew (S := fun w' => w'.rangeAt u 0 lF ∧ w'.cell? ⟨g, 0, none⟩ = some (.int .u32 top)) (by kernel_rfl) (by rw [← hw2d]; exact HSS.out _ HP0d.out) (fun hH => ?_)
  change wpAnyH _ _ _ _ _ _ _ _ (World.drew _)
  rw [← hw2d]
  clear hH hw2d
  have hH := HSS.out _ HP0d.out
  refine held_take 0 17 (v := .bool true) rfl rfl (by kernel_rfl) (by kernel_rfl) (by kernel_rfl) (fun _ _ _ h => h) (Or.inl ⟨by kernel_rfl, fun w _ => by kernel_rfl⟩) hH ?_
  (try simp only [List.setIfInBounds_toArray, List.set_cons_zero, List.set_cons_succ])
  refine held_take 1 18 (v := .bool false) rfl rfl (by kernel_rfl) (by kernel_rfl) (by kernel_rfl) (fun _ _ _ h => h) (Or.inl ⟨by kernel_rfl, fun w _ => by kernel_rfl⟩) hH ?_
  (try simp only [List.setIfInBounds_toArray, List.set_cons_zero, List.set_cons_succ])
  refine held_take 2 19 (v := .bool false) rfl rfl (by kernel_rfl) (by kernel_rfl) (by kernel_rfl) (fun _ _ _ h => h) (Or.inl ⟨by kernel_rfl, fun w _ => by kernel_rfl⟩) hH ?_
  (try simp only [List.setIfInBounds_toArray, List.set_cons_zero, List.set_cons_succ])
  refine held_take 3 20 rfl rfl (by kernel_rfl) (by kernel_rfl) (by kernel_rfl) (fun _ _ _ h => h) (yieldsIf_load_mid (by kernel_rfl) 57 (.tmp 6) rfl u 0 rfl lF _ (fun _ h => h.1) Tryz.underlying57 rfl HIL.out) hH ?_
  refine held_take 5 22 (v := .pointer (some ⟨g, 0, none⟩)) rfl rfl (by kernel_rfl) (by kernel_rfl) (by kernel_rfl) (fun _ _ _ h => h) (Or.inl ⟨by kernel_rfl, fun w _ => by go_simp⟩) hH ?_
  (try simp only [List.setIfInBounds_toArray, List.set_cons_zero, List.set_cons_succ])
  refine held_take 6 23 (v := .int .u32 top) rfl rfl (by kernel_rfl) (by kernel_rfl) (by kernel_rfl) (fun _ _ _ h => h) (Or.inl ⟨by kernel_rfl, fun w hSw => by
    have hcell := hSw.2
    go_simp⟩) hH ?_
  (try simp only [List.setIfInBounds_toArray, List.set_cons_zero, List.set_cons_succ])
  refine wpAnyH_ready (rs := [4]) (by kernel_rfl) (by simp) ?_
  refine AllReadyH.cons rfl (fun K hK => ?_) AllReadyH.nil
  go_simp
  refine (HN.out _).mono ?_
  rintro e1 w3 ⟨rfl, hp⟩
  have HP23 : Hid (Past w2d w3) := Lib.hid hp
  have HS3 : Hid (w3.rangeAt u 0 lF ∧ w3.cell? ⟨g, 0, none⟩ = some (.int .u32 top)) := Lib.hid (HSS.out _ HP23.out)
  clear hp
  refine hK.out _ _ HS3.out (fun hH => ?_)
  clear hK K
  refine held_take 7 24 (v := .bool (decide (top < N))) rfl rfl (by kernel_rfl) (by kernel_rfl) (by kernel_rfl) (fun _ _ _ h => h) (Or.inl ⟨by kernel_rfl, fun w _ => by go_simp⟩) hH ?_
  (try simp only [List.setIfInBounds_toArray, List.set_cons_zero, List.set_cons_succ])
  refine held_take 8 25 (v := .bool (decide (top < N))) rfl rfl (by kernel_rfl) (by kernel_rfl) (by kernel_rfl) (fun _ _ _ h => h) (Or.inl ⟨by kernel_rfl, fun w _ => by kernel_rfl⟩) hH ?_
  (try simp only [List.setIfInBounds_toArray, List.set_cons_zero, List.set_cons_succ])
  refine wpAnyH_done (by kernel_rfl) ?_ _
  go_simp
  have HP3 : Hid (Past w w3) := Lib.hid (HP2.out.trans' (HD2.out.trans' HP23.out))
  have HQ3 := Lib.hid (HQ2.out.past (HD2.out.trans' HP23.out))
  have HR3 := Lib.hid (HR2.out.past (HD2.out.trans' HP23.out))
  clear HS3 HSS HK2 HQ2 HR2 hH
  by_cases hc : N ≤ top
  · have hc2 : ¬ top < N := by omega
    have HE : Hid ((if N ≤ top then F else fun _ => 0) = F) := Lib.hid (if_pos hc)
    have HDC : Hid (decide (N ≤ top) = true) := Lib.hid (decide_eq_true hc)
    have hq3 := HQ3.out
    have hr3 := HR3.out
    have hs3 : zs.size = cF.size := by rw [← HZS.out, ← HCF.out]; exact HSZ.out _ _
    rw [HZS.out] at hr3
    clear hc
    go_wp2_with (first | (refine wpList_load_row rfl 57 _ rfl u rfl _ _ (0, 0) _ hq3 Tryz.underlying57 rfl hi2 ?_) | (refine wpList_store_row rfl 57 _ _ rfl (g + 1) _ rfl rfl _ _ hr3 hi2 hs3 ho2 ?_))
    refine bodyPost_ret (results_cr rfl _ _ ⟨g + 1, 0, none⟩ _ rfl (load_poly _ (g + 1) _ (setRow_heap _ (g + 1) _ _ _ _ hr3) hi2)) (by rfl) ?_
    exact ⟨by rw [HCF.out]; rfl, below_setRow HP3.out (by have := HGS.out; omega) _⟩
  · have hc2 : top < N := by omega
    have HE : Hid (arr .u32 256 (if N ≤ top then F else fun _ => 0) = zs) := Lib.hid (by rw [if_neg hc]; exact HZS.out)
    have HDC : Hid (decide (N ≤ top) = false) := Lib.hid (decide_eq_false hc)
    have hr3 := HR3.out
    have hiz := HI.out fun _ => 0
    have hoz := HO.out fun _ => 0
    have hz := HZ.out
    rw [HZS.out] at hr3 hiz hoz
    clear hc
    go_wp2_with (refine wpList_store_row rfl 57 _ _ rfl (g + 1) _ rfl rfl _ _ hr3 hiz (by rfl) hoz ?_)
    refine bodyPost_ret (results_cr rfl _ _ ⟨g + 1, 0, none⟩ _ rfl (load_poly _ (g + 1) _ (setRow_heap _ (g + 1) _ _ _ _ hr3) hiz)) (by rfl) ?_
    exact ⟨by rw [HZS.out]; rfl, below_setRow HP3.out (by have := HGS.out; omega) _⟩
set_option maxHeartbeats 4000000 in
theorem ppackM_any (D : Nat) (top : Int) (t0 : 0 ≤ top) (t1 : top < 4294967296) (f : Nat → Int) (hf : R32 f) (hn : nrmQ f 256 ≤ top) (w : World) :
    Calls Tryz.prog 47 #[.agg (pkV top (D : Int)), .agg (arr .u32 256 f)] w (ROpt (rpack (D : Int) (blL top f)) w) := by
  obtain ⟨g, hg⟩ : ∃ g, w.heap.size = g := ⟨_, rfl⟩
  obtain ⟨w0, hw0⟩ : ∃ W, (w.alloc (.cells (pkV top (D : Int)) 85)).alloc (.cells (arr .u32 256 f) 57) = W := ⟨_, rfl⟩
  have hp0 : Past w w0 := by rw [← hw0]; exact ((Below.refl _ _).alloc (Nat.le_refl _) _).alloc (by simp) _
  have HK0 : Hid (Row w0 g 85 (pkV top (D : Int))) := Lib.hid (by rw [← hw0, ← hg]; exact (Row.new _ _ _).alloc _)
  have HR0 : Hid (Row w0 (g + 1) 57 (arr .u32 256 f)) := Lib.hid (by
    rw [← hw0, ← hg]
    have := Row.new (w.alloc (.cells (pkV top (D : Int)) 85)) 57 (arr .u32 256 f)
    simpa using this)
  have HP0 := Lib.hid hp0
  have HPK := Lib.hid (fun w => pack18_any f hf top (D : Int) t0 t1 w)
  have HN := Lib.hid (fun w => pnorm_any f hf w)
  have HW0 := Lib.hid hw0
  have hif := infP f
  obtain ⟨N, hN⟩ : ∃ N, nrmQ f 256 = N := ⟨_, rfl⟩
  rw [hN] at HN hn
  have hNb := nrmQ_rng f 256
  rw [hN] at hNb
  have HNB := Lib.hid hNb
  have HIL := Lib.hid (inf_lst f)
  have HSK : Hid (∀ (w' : World) u, Row w' u 57 (arr .u32 256 f) → w'.rangeAt u 0 (lst f)) := Lib.hid (fun w' u h => range_lst h)
  have HAL := Lib.hid (arr_lst f)
  have hc2 : ¬ top < N := by omega
  have HC2 := Lib.hid hc2
  obtain ⟨O, hO⟩ : ∃ O, rpack (D : Int) (blL top f) = O := ⟨_, rfl⟩
  rw [hO] at HPK
  rw [hO]
  clear hw0 hf hp0 hN hNb hn t0 t1 hO
  generalize hcf : arr .u32 256 f = cF at *
  clear hcf
  generalize lst f = lF at *
  rw [HAL.out] at HN
  go_enter Tryz.func47, Tryz.ntmps47
  go_upto_region 1 with (fail)
  rw [HW0.out]
  try rw [hg]
  clear HW0 hg hc2
  obtain ⟨w2d, hw2d⟩ : ∃ W, W = w0.drew := ⟨_, rfl⟩
  have HSS : Hid (∀ w', Past w2d w' → w'.rangeAt (g + 1) 0 lF ∧ w'.cell? ⟨g, 0, none⟩ = some (.int .u32 top)) := Lib.hid (fun w' h => by
    have hp : Past w0 w' := (show Past w0 w2d by rw [hw2d]; exact Past.drewN (Below.refl _ w0) 1).trans' h
    refine ⟨HSK.out _ _ (HR0.out.past hp), ?_⟩
    rw [(HK0.out.past hp).cell]
    rfl)
  have HP0d : Hid (Past w2d w2d) := Lib.hid (Below.refl _ _)
  have HD2 : Hid (Past w0 w2d) := Lib.hid (by rw [hw2d]; exact Past.drewN (Below.refl _ w0) 1)
  refine wp_region_held_drew (S := fun w' => w'.rangeAt (g + 1) 0 lF ∧ w'.cell? ⟨g, 0, none⟩ = some (.int .u32 top)) (by kernel_rfl) (by rw [← hw2d]; exact HSS.out _ HP0d.out) (fun hH => ?_)
  change wpAnyH _ _ _ _ _ _ _ _ (World.drew _)
  rw [← hw2d]
  clear hH hw2d
  have hH := HSS.out _ HP0d.out
  refine held_take 0 6 rfl rfl (by kernel_rfl) (by kernel_rfl) (by kernel_rfl) (fun _ _ _ h => h) (yieldsIf_load_mid (by kernel_rfl) 57 (.tmp 3) rfl (g + 1) 0 rfl lF _ (fun _ h => h.1) Tryz.underlying57 rfl HIL.out) hH ?_
  refine held_take 2 8 (v := .pointer (some ⟨g, 0, none⟩)) rfl rfl (by kernel_rfl) (by kernel_rfl) (by kernel_rfl) (fun _ _ _ h => h) (Or.inl ⟨by kernel_rfl, fun w _ => by go_simp⟩) hH ?_
  refine held_take 3 9 (v := .int .u32 top) rfl rfl (by kernel_rfl) (by kernel_rfl) (by kernel_rfl) (fun _ _ _ h => h) (Or.inl ⟨by kernel_rfl, fun w hSw => by
    have hcell := hSw.2
    go_simp⟩) hH ?_
  refine wpAnyH_ready (rs := [1]) (by kernel_rfl) (by simp) ?_
  refine AllReadyH.cons rfl (fun K hK => ?_) AllReadyH.nil
  go_simp
  refine (HN.out _).mono ?_
  rintro e2 w3 ⟨rfl, hp⟩
  have HP23 : Hid (Past w2d w3) := Lib.hid hp
  clear hp
  refine hK.out _ _ (HSS.out _ HP23.out) (fun hH => ?_)
  clear hK K
  refine held_take 4 10 (v := .bool (decide (top < N))) rfl rfl (by kernel_rfl) (by kernel_rfl) (by kernel_rfl) (fun _ _ _ h => h) (Or.inl ⟨by kernel_rfl, fun w _ => by go_simp⟩) hH ?_
  refine wpAnyH_done (by kernel_rfl) ?_ _
  go_simp
  have HP3 : Hid (Past w w3) := Lib.hid (HP0.out.trans' (HD2.out.trans' HP23.out))
  have hr3 := HR0.out.past (HD2.out.trans' HP23.out)
  have hk3 := HK0.out.past (HD2.out.trans' HP23.out)
  have k0 : w3.cell? ⟨g, 0, none⟩ = some (.int .u32 top) := by rw [hk3.cell]; rfl
  have k1 : w3.cell? ⟨g, 1, none⟩ = some (.int .i64 (D : Int)) := by rw [hk3.cell]; rfl
  have hc2 := HC2.out
  clear HSS HK0 HR0 hH hk3
  go_wp2_with (refine wpList_load_row rfl 57 _ rfl (g + 1) rfl _ _ (0, 0) _ hr3 Tryz.underlying57 rfl hif ?_)
  refine (HPK.out w3).mono ?_
  intro e4 w4 h
  obtain ⟨A, c, rfl, h2, h3, h4⟩ := h.any
  have HE := Lib.hid (ROpt.mk h2 (HP3.out.trans' h3) h4)
  clear h h2 h3 h4 HPK
  generalize O.getD [] = L at *
  go_wp2_with fail
  go_ret2
  exact HE.out
end Go.Proofs.YteflpbkdnebopaaGreatDoor
