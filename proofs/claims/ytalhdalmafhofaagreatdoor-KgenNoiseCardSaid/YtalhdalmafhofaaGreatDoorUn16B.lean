/- Uniform, where the output has enough numbers. -/
import Derived.Test.YtalhdalmafhofaaGreatDoorUn16A
import Derived.Deep.RegionHeld
namespace Go.Proofs.YtalhdalmafhofaaGreatDoor
open Go.RowKit
set_option maxRecDepth 100000
set_option linter.unusedVariables false

theorem nuF_rng (B : Nat → Int) (hB : ∀ j, 0 ≤ B j ∧ B j < 256) (m : Nat) : 0 ≤ nuF B m ∧ nuF B m < 4096 := by
  have h0 := hB (3 * (m / 2))
  have h1 := hB (3 * (m / 2) + 1)
  have h2 := hB (3 * (m / 2) + 2)
  unfold nuF
  split <;> omega
theorem step_wanted16 {P : Program} {ops : Array Oper} {o : Oper} {a : Act} {w : World} {K : Act → World → Prop} {Q : Exit → Act → World → Prop} {E : Prop} (hg : o.guard = none) (h : Oper.wp P o a w K Q) :
    if Region.wanted o (yielded ops a.tmps) = true then Oper.wp P o a w K Q else E := by
  rw [if_pos (by simp [Region.wanted, hg])]
  exact h
theorem index2a (a b : Int) (w : World) : (Instr.index 84 (.agg #[.int .u16 a, .int .u16 b]) (.int .i64 0)).run Tryz.prog w = .ok (.int .u16 a) w := by kernel_rfl
theorem index2b (a b : Int) (w : World) : (Instr.index 84 (.agg #[.int .u16 a, .int .u16 b]) (.int .i64 1)).run Tryz.prog w = .ok (.int .u16 b) w := by kernel_rfl
/-- What stands after k groups: the stream, how many bytes were read, the coefficients. -/
def UI (w wx : World) (g gs g1 u : Nat) (S : Nat → Lane) (k : Nat) (F : Nat → Int) : Prop :=
  Past w wx ∧ Row wx g 30 (arr .u16 256 fun _ => 0) ∧ Row wx g1 41 #[.pointer (some ⟨gs, 0, none⟩)] ∧ Row wx (g1 + 1) 3 #[.int .i64 ((3 * k : Nat) : Int)] ∧ Stm gs 168 S wx (3 * k) ∧ LM .u16 wx u 30 256 F
set_option maxHeartbeats 4000000 in
theorem uniform_any (A : Option Addr) (n c : Nat) (xs : List Int) (w : World) (hS : Sl w A n c xs) (hn : n ≤ 1000) (hu : UOk xs) :
    Calls Tryz.prog 29 #[.slice A n c] w fun r w' => ∃ (F : Nat → Int) (v : Int), r = .returned (.tuple #[.agg (arr .u16 256 F), .int .i64 v]) ∧ (∀ j, 0 ≤ F j ∧ F j < 3329) ∧ Past w w' := by
  obtain ⟨M, hM1, hM2⟩ := hu
  obtain ⟨g, hg⟩ : ∃ g, w.heap.size = g := ⟨_, rfl⟩
  obtain ⟨w1, hw1⟩ : ∃ w', w.alloc (.cells (arr .u16 256 fun _ => 0) 30) = w' := ⟨_, rfl⟩
  have hp1 : Past w w1 := by rw [← hw1]; exact (Below.refl _ _).alloc (Nat.le_refl _) _
  have hr1 : Row w1 g 30 (arr .u16 256 fun _ => 0) := by rw [← hw1, ← hg]; exact Row.new _ _ _
  have hl := hS.len
  have hsl := Sls.one w1 25 (hS.past hp1)
  obtain ⟨w2, hw2⟩ : ∃ w', w1.alloc (.cells #[.slice A n c] 25) = w' := ⟨_, rfl⟩
  obtain ⟨g0, hg0⟩ : ∃ g, w1.heap.size = g := ⟨_, rfl⟩
  rw [hw2, hg0] at hsl
  have hp2 : Past w w2 := by rw [← hw2]; exact hp1.alloc hp1.size _
  have hr2 : Row w2 g 30 (arr .u16 256 fun _ => 0) := by rw [← hw2]; exact hr1.alloc _
  have HNW := Lib.hid (hNew128_any _ 1 1 _ _ _ w2 hsl (by decide) (by rw [cat_one, hl]; exact hn))
  rw [cat_one] at HNW
  have HZ := Lib.hid zeroP
  have HW1 := Lib.hid hw1
  have HW2 := Lib.hid hw2
  have HG := Lib.hid (And.intro hg hg0)
  have HP2 := Lib.hid hp2
  have HR2 := Lib.hid hr2
  have HM := Lib.hid (And.intro hM1 hM2)
  generalize rstate xs 168 31 = S at *
  clear hp1 hr1 hsl hw1 hw2 hp2 hr2 hM1 hM2 hS hl hn
  go_enter Tryz.func29, Tryz.ntmps29
  have hz := HZ.out
  go_upto_region 1 with (fail)
  rw [HW1.out]
  try rw [hg]
  clear HW1 hz
  go_step3
  go_wp2_with fail
  rw [HW2.out]
  clear HW2
  refine HNW.out.mono ?_
  rintro r w3 ⟨gs, rfl, hgs, hst, hp3⟩
  have HP3 : Hid (Past w w3) := Lib.hid (HP2.out.trans' hp3)
  have HR3 : Hid (Row w3 g 30 (arr .u16 256 fun _ => 0)) := Lib.hid (HR2.out.past hp3)
  have HST := Lib.hid hst
  have HGS : Hid (g < gs ∧ gs < w3.heap.size ∧ w.heap.size ≤ gs) := Lib.hid (by have h1 := HR2.out.lt; have h2 := hst.lt; have h3 := HP2.out.size; omega)
  clear hgs hst hp3 HNW HR2
  go_upto_region 3 with (fail)
  obtain ⟨g1, hg1⟩ : ∃ g1, w3.heap.size = g1 := ⟨_, rfl⟩
  rw [hg1]
  obtain ⟨w5, hw5⟩ : ∃ w', (w3.alloc (.cells #[.pointer (some ⟨gs, 0, none⟩)] 41)).alloc (.cells #[.int .i64 0] 3) = w' := ⟨_, rfl⟩
  rw [hw5]
  obtain ⟨u, hu⟩ : ∃ u, w5.heap.size = u := ⟨_, rfl⟩
  obtain ⟨w6, hw6⟩ : ∃ w', w5.alloc (.cells (arr .u16 256 fun _ => 0) 30) = w' := ⟨_, rfl⟩
  have hs5 : w5.heap.size = g1 + 1 + 1 := by rw [← hw5]; simp [World.size_alloc, hg1]
  have hp4 : Past w (w3.alloc (.cells #[.pointer (some ⟨gs, 0, none⟩)] 41)) := HP3.out.alloc HP3.out.size _
  have hp5 : Past w w5 := by rw [← hw5]; exact hp4.alloc hp4.size _
  have HN : Hid (w.heap.size = g ∧ g < gs ∧ gs < g1 ∧ g1 + 1 < u) := Lib.hid (by have := HGS.out; have := HG.out; omega)
  have H0 : Hid (UI w w6 g gs g1 u S 0 fun _ => 0) := Lib.hid (by
    have a1 := Row.new w3 41 #[.pointer (some ⟨gs, 0, none⟩)]
    have a2 := Row.new (w3.alloc (.cells #[.pointer (some ⟨gs, 0, none⟩)] 41)) 3 #[.int .i64 0]
    have a3 := Row.new w5 30 (arr .u16 256 fun _ => 0)
    simp only [World.size_alloc] at a2
    rw [hg1] at a1 a2
    rw [hw5] at a2
    rw [hu, hw6] at a3
    have b1 : Row w6 (g1 + 1) 3 #[.int .i64 0] := by rw [← hw6]; exact a2.alloc _
    refine ⟨by rw [← hw6]; exact hp5.alloc hp5.size _, ?_, ?_, b1, ?_, a3⟩
    · rw [← hw6, ← hw5]; exact ((HR3.out.alloc _).alloc _).alloc _
    · rw [← hw6, ← hw5]; exact (a1.alloc _).alloc _
    · rw [← hw6, ← hw5]
      have q1 : Past w3 (((w3.alloc (.cells #[.pointer (some ⟨gs, 0, none⟩)] 41)).alloc (.cells #[.int .i64 0] 3)).alloc (.cells (arr .u16 256 fun _ => 0) 30)) := (((Below.refl _ _).alloc (Nat.le_refl _) _).alloc (by simp) _).alloc (by simp; omega) _
      exact HST.out.keep (q1.block gs (by have := HGS.out; omega)))
  have HW6 := Lib.hid hw6
  have hz := HZ.out
  clear hw5 hs5 hp4 hp5 hw6 HR3 HST HGS HP3 hg1
  go_upto_region 4 with (fail)
  rw [HW6.out]
  try rw [hu]
  clear HW6 hz hu
  go_wp2_with fail
  -- LOOP
  go_step3
  go_wp2_with fail
  go_loopg [8] M (fun q s8 wx => ∃ (k cc : Nat) (F : Nat → Int), k ≤ M ∧ q = M - k ∧ s8 = .int .i64 (cc : Int) ∧ cc < 256 ∧ Hid (cntF (nuF (rout S 168)) (2 * k) = cc) ∧ Hid (UI w wx g gs g1 u S k F) ∧ Hid (∀ j, 0 ≤ F j ∧ F j < 3329))
  case atStart => exact ⟨0, 0, _, Nat.zero_le _, rfl, rfl, by decide, Lib.hid rfl, H0, Lib.hid fun j => by decide⟩
  case round =>
    clear H0
    obtain ⟨k, cc, F, hk, hq, rfl, hcl, HCNT, HU, HF⟩ := hrel
    have HGQ := Lib.hid hq
    clear hq
    have HKM : Hid (k < M) := Lib.hid (by
      rcases Nat.lt_or_ge k M with h | h
      · exact h
      · have h1 := HM.out.2
        obtain rfl : k = M := by omega
        rw [HCNT.out] at h1
        omega)
    have hrr : ∀ j, 0 ≤ rout S 168 j ∧ rout S 168 j < 256 := fun j => rout_rng S 168 j
    have b0 := nuF_rng (rout S 168) hrr (2 * k)
    have b1 := nuF_rng (rout S 168) hrr (2 * k + 1)
    have HNX := Lib.hid (unext_any g1 (g1 + 1) gs k S wr (HU.out.2.2.1.cell 0) HU.out.2.2.2.1 HU.out.2.2.2.2.1 (by have := HKM.out; have := HM.out.1; omega) (by have := HN.out; omega))
    generalize nuF (rout S 168) = N at *
    obtain ⟨a, ha⟩ : ∃ a, N (2 * k) = a := ⟨_, rfl⟩
    obtain ⟨b, hb⟩ : ∃ a, N (2 * k + 1) = a := ⟨_, rfl⟩
    rw [ha, hb] at HNX
    rw [ha] at b0
    rw [hb] at b1
    have HNV0 : Hid (a = N (2 * k + 0)) := Lib.hid ha.symm
    have HNV1 : Hid (b = N (2 * k + 1)) := Lib.hid hb.symm
    obtain ⟨a0, a1⟩ := b0
    obtain ⟨b0, b1⟩ := b1
    have HAB := Lib.hid (And.intro a0 (And.intro a1 (And.intro b0 b1)))
    have HCL0 := Lib.hid hcl
    clear hrr ha hb hk a0 a1 b0 b1 hcl
    go_wp2_with fail
    refine HNX.out.mono ?_
    rintro r w7 ⟨rfl, htw, hst, hru⟩
    have HU7 : Hid (UI w w7 g gs g1 u S (k + 1) F) := Lib.hid (by
      have h := HU.out
      have hn := HN.out
      have hpw : Past w w7 := Below.trans h.1 (htw.1 w.heap.size (by omega) (by omega) h.1.size)
      exact ⟨hpw, htw.row h.2.1 (by omega) (by omega), htw.row h.2.2.1 (by omega) (by omega), hru, hst, htw.row h.2.2.2.2.2 (by omega) (by omega)⟩)
    clear htw hst hru HNX HU
    go_wp2_with fail
    go_loopg [8, 17] 2 (fun q s8 s17 wx => ∃ (i cd : Nat) (FX : Nat → Int), i ≤ 2 ∧ q = 2 - i ∧ s8 = .int .i64 (cd : Int) ∧ s17 = .int .i64 (i : Int) ∧ cd < 256 ∧ Hid (cntF N (2 * k + i) = cd) ∧ Hid (UI w wx g gs g1 u S (k + 1) FX) ∧ Hid (∀ j, 0 ≤ FX j ∧ FX j < 3329))
    case atStart => exact ⟨0, cc, F, by decide, rfl, rfl, rfl, HCL0.out, HCNT, HU7, HF⟩
    case round =>
      clear HCNT HCL0 HU7 HF
      obtain ⟨i, cc, FX, hi, hq, rfl, rfl, hcl, HCNT, HUX, HFX⟩ := hrel
      have HGQ2 := Lib.hid hq
      clear hq
      obtain ⟨a0, a1, b0, b1⟩ := HAB.out
      rcases (show i = 0 ∨ i = 1 ∨ i = 2 by omega) with rfl | rfl | rfl
      · have hix := index2a a b
        clear b0 b1 hi
        by_cases hlow : a < 3329
        · have hge : ¬ (3329 : Int) ≤ a := by omega
          have hcn : cntF N (2 * k + 0 + 1) = cc + 1 := by
            show cntF N (2 * k + 0) + (if N (2 * k + 0) < 3329 then 1 else 0) = cc + 1
            rw [HCNT.out, ← HNV0.out, if_pos hlow]
          have hci : (cc : Int) < 256 := by omega
          have hc0 : (0 : Int) ≤ (cc : Int) := by omega
          have hUU := HUX.out
          have hc1 := hUU.2.2.2.2.2.at cc (by omega)
          have hf1 := hUU.2.2.2.2.2.fr cc
          obtain ⟨w9, hw9⟩ : ∃ w', wr.setCell ⟨u, cc, none⟩ (.int .u16 a) = w' := ⟨_, rfl⟩
          obtain ⟨F2, hF2⟩ : ∃ F2, upd FX cc a = F2 := ⟨_, rfl⟩
          have HU9 : Hid (UI w w9 g gs g1 u S (k + 1) F2) := Lib.hid (by
            have hh := HN.out
            rw [← hw9, ← hF2]
            exact ⟨hUU.1.set (by show _ ≤ u; omega) _, hUU.2.1.setOther (by omega) _ _, hUU.2.2.1.setOther (by omega) _ _, hUU.2.2.2.1.setOther (by omega) _ _, hUU.2.2.2.2.1.keep (by simp [World.setCell, Array.getElem?_modify]; intro h; omega), hUU.2.2.2.2.2.put cc (by omega) a⟩)
          have HF9 : Hid (∀ j, 0 ≤ F2 j ∧ F2 j < 3329) := Lib.hid (fun j => by
            rw [← hF2]
            by_cases e1 : j = cc
            · subst e1; rw [upd_at]; exact ⟨by omega, hlow⟩
            · rw [upd_ne _ _ e1]; exact HFX.out j)
          have HW9 := Lib.hid hw9
          have HCN2 := Lib.hid hcn
          clear hUU hw9 hF2 hcn HUX HFX
          by_cases h256 : cc + 1 = 256
          · have hcI : (cc : Int) = 255 := by omega
            clear h256
            have hcc : cc = 255 := by omega
            subst hcc
            go_wp2_with fail
            try rw [HW9.out]
            obtain ⟨wd, hwd⟩ : ∃ W, W = w9.drew := ⟨_, rfl⟩
            have HUD : Hid (UI w wd g gs g1 u S (k + 1) F2) := Lib.hid (by rw [hwd]; exact ⟨Past.drewN HU9.out.1 1, HU9.out.2⟩)
            have hi2 := infP F2
            have hs2 : (arr .u16 256 fun _ => 0).size = (arr .u16 256 F2).size := by rw [arr_size, arr_size]
            have ho2 := arr_one .u16 256 F2
            have HLR := Lib.hid (lst_len F2).2
            have hr1 := HUD.out.2.1
            have HRL : Hid (wd.rangeAt u 0 (lst F2)) := Lib.hid (row_lst HUD.out.2.2.2.2.2)
            have HRL2 : Hid ((wd.setRow g (arr .u16 256 F2)).rangeAt u 0 (lst F2)) := Lib.hid (row_lst (show Row _ u 30 (arr .u16 256 F2) from (setRow_other wd g u _ (by have := HN.out; omega)).trans HUD.out.2.2.2.2.2))
            have HKU : Hid (wd.cell? ⟨g1 + 1, 0, none⟩ = some (.int .i64 ((3 * (k + 1) : Nat) : Int))) := Lib.hid (HUD.out.2.2.2.1.cell 0)
            have HKU2 : Hid ((wd.setRow g (arr .u16 256 F2)).cell? ⟨g1 + 1, 0, none⟩ = some (.int .i64 ((3 * (k + 1) : Nat) : Int))) := Lib.hid (Row.cell (show Row _ (g1 + 1) 3 #[.int .i64 ((3 * (k + 1) : Nat) : Int)] from (setRow_other wd g (g1 + 1) _ (by have := HN.out; omega)).trans HUD.out.2.2.2.1) 0)
            have HPF : Hid (Past w (wd.setRow g (arr .u16 256 F2))) := Lib.hid (below_setRow HUD.out.1 (by have := HN.out; omega) _)
            obtain ⟨z3, hz3⟩ : ∃ z : Int, ((3 * (k + 1) : Nat) : Int) = z := ⟨_, rfl⟩
            rw [hz3] at HKU HKU2
            clear hz3
            refine wp_region_held_drew (S := fun w' => w'.rangeAt u 0 (lst F2) ∧ w'.cell? ⟨g1 + 1, 0, none⟩ = some (.int .i64 z3)) (by kernel_rfl) (by rw [← hwd]; exact ⟨HRL.out, HKU.out⟩) (fun hH => ?_)
            change wpAnyH _ _ _ _ _ _ _ _ (World.drew _)
            rw [← hwd]
            clear hH hwd
            have hH := And.intro HRL.out HKU.out
            refine held_take 0 30 rfl rfl (by kernel_rfl) (by kernel_rfl) (by kernel_rfl) (fun _ _ _ h => h) (yieldsIf_load_mid (by kernel_rfl) 30 (.tmp 7) rfl u 0 rfl (lst F2) _ (fun _ h => h.1) Tryz.underlying30 rfl HLR.out) hH ?_
            (try simp only [List.setIfInBounds_toArray, List.set_cons_zero, List.set_cons_succ])
            refine held_take 1 31 (v := .int .i64 z3) rfl rfl (by kernel_rfl) (by kernel_rfl) (by kernel_rfl) (fun _ _ _ h => h) (Or.inl ⟨by kernel_rfl, fun w hSw => by
              have hcell := hSw.2
              go_simp⟩) hH ?_
            (try simp only [List.setIfInBounds_toArray, List.set_cons_zero, List.set_cons_succ])
            refine wpAnyH_ready (rs := [2]) (by kernel_rfl) (by simp) ?_
            refine AllReadyH.cons (by simp only [List.getElem?_toArray, List.getElem?_cons_succ, List.getElem?_cons_zero]; rfl) (fun K hK => ?_) AllReadyH.nil
            refine step_wanted16 rfl ?_
            refine wp_store_row 30 (.tmp 2) (.tmp 30) rfl g (arr .u16 256 F2) rfl rfl _ _ hr1 hi2 hs2 ho2 ?_
            refine hK.out _ _ ⟨HRL2.out, HKU2.out⟩ (fun hH => ?_)
            clear hK K
            refine held_take 3 3 (v := .int .i64 z3) rfl rfl (by kernel_rfl) (by kernel_rfl) (by kernel_rfl) (fun _ _ _ h => h) (Or.inl ⟨by kernel_rfl, fun w _ => by kernel_rfl⟩) hH ?_
            refine wpAnyH_done (by kernel_rfl) ?_ _
            go_simp
            go_wp2_with fail
            rw [Exit.noGoto_ret]
            refine bodyPost_ret (results_cr rfl _ _ ⟨g, 0, none⟩ _ rfl (load_poly _ g _ (setRow_heap _ g _ _ _ _ hr1) hi2)) (by rfl) ?_
            exact ⟨F2, _, rfl, HF9.out, HPF.out⟩
          · have hcI : ¬ (cc : Int) = 255 := by omega
            have HCL : Hid (cc + 1 < 256) := Lib.hid (by omega)
            have HNC : Hid (wrap64 ((cc : Int) + 1) = ((cc + 1 : Nat) : Int)) := Lib.hid (by rw [IntWalk.wrap64_in _ (by omega)]; omega)
            obtain ⟨cd, hcd⟩ : ∃ cd, cc + 1 = cd := ⟨_, rfl⟩
            rw [hcd] at HCL HNC HCN2
            have hcdI : (cc : Int) + 1 = (cd : Int) := by omega
            have hwcd : wrap64 (cd : Int) = (cd : Int) := IntWalk.wrap64_in _ (by omega)
            have hnd : ¬ (cd : Int) = 256 := by have := HCL.out; omega
            clear h256 hcd
            go_wp2_with fail
            try rw [HW9.out]
            go_roundg (2 - (0 + 1))
            case rel => exact ⟨0 + 1, cd, F2, by decide, rfl, rfl, rfl, HCL.out, Lib.hid HCN2.out, HU9, HF9⟩
            case measure => have := HGQ2.out; omega
        · have hge : (3329 : Int) ≤ a := by omega
          have HCN2 : Hid (cntF N (2 * k + 0 + 1) = cc) := Lib.hid (by
            show cntF N (2 * k + 0) + (if N (2 * k + 0) < 3329 then 1 else 0) = cc
            rw [HCNT.out, ← HNV0.out, if_neg hlow]; rfl)
          have HCL := Lib.hid hcl
          clear hlow hcl
          go_wp2_with fail
          go_roundg (2 - (0 + 1))
          case rel => exact ⟨0 + 1, cc, FX, by decide, rfl, rfl, rfl, HCL.out, HCN2, HUX, HFX⟩
          case measure => have := HGQ2.out; omega
      · have hix := index2b a b
        clear a0 a1 hi
        by_cases hlow : b < 3329
        · have hge : ¬ (3329 : Int) ≤ b := by omega
          have hcn : cntF N (2 * k + 1 + 1) = cc + 1 := by
            show cntF N (2 * k + 1) + (if N (2 * k + 1) < 3329 then 1 else 0) = cc + 1
            rw [HCNT.out, ← HNV1.out, if_pos hlow]
          have hci : (cc : Int) < 256 := by omega
          have hc0 : (0 : Int) ≤ (cc : Int) := by omega
          have hUU := HUX.out
          have hc1 := hUU.2.2.2.2.2.at cc (by omega)
          have hf1 := hUU.2.2.2.2.2.fr cc
          obtain ⟨w9, hw9⟩ : ∃ w', wr.setCell ⟨u, cc, none⟩ (.int .u16 b) = w' := ⟨_, rfl⟩
          obtain ⟨F2, hF2⟩ : ∃ F2, upd FX cc b = F2 := ⟨_, rfl⟩
          have HU9 : Hid (UI w w9 g gs g1 u S (k + 1) F2) := Lib.hid (by
            have hh := HN.out
            rw [← hw9, ← hF2]
            exact ⟨hUU.1.set (by show _ ≤ u; omega) _, hUU.2.1.setOther (by omega) _ _, hUU.2.2.1.setOther (by omega) _ _, hUU.2.2.2.1.setOther (by omega) _ _, hUU.2.2.2.2.1.keep (by simp [World.setCell, Array.getElem?_modify]; intro h; omega), hUU.2.2.2.2.2.put cc (by omega) b⟩)
          have HF9 : Hid (∀ j, 0 ≤ F2 j ∧ F2 j < 3329) := Lib.hid (fun j => by
            rw [← hF2]
            by_cases e1 : j = cc
            · subst e1; rw [upd_at]; exact ⟨by omega, hlow⟩
            · rw [upd_ne _ _ e1]; exact HFX.out j)
          have HW9 := Lib.hid hw9
          have HCN2 := Lib.hid hcn
          clear hUU hw9 hF2 hcn HUX HFX
          by_cases h256 : cc + 1 = 256
          · have hcI : (cc : Int) = 255 := by omega
            clear h256
            have hcc : cc = 255 := by omega
            subst hcc
            go_wp2_with fail
            try rw [HW9.out]
            obtain ⟨wd, hwd⟩ : ∃ W, W = w9.drew := ⟨_, rfl⟩
            have HUD : Hid (UI w wd g gs g1 u S (k + 1) F2) := Lib.hid (by rw [hwd]; exact ⟨Past.drewN HU9.out.1 1, HU9.out.2⟩)
            have hi2 := infP F2
            have hs2 : (arr .u16 256 fun _ => 0).size = (arr .u16 256 F2).size := by rw [arr_size, arr_size]
            have ho2 := arr_one .u16 256 F2
            have HLR := Lib.hid (lst_len F2).2
            have hr1 := HUD.out.2.1
            have HRL : Hid (wd.rangeAt u 0 (lst F2)) := Lib.hid (row_lst HUD.out.2.2.2.2.2)
            have HRL2 : Hid ((wd.setRow g (arr .u16 256 F2)).rangeAt u 0 (lst F2)) := Lib.hid (row_lst (show Row _ u 30 (arr .u16 256 F2) from (setRow_other wd g u _ (by have := HN.out; omega)).trans HUD.out.2.2.2.2.2))
            have HKU : Hid (wd.cell? ⟨g1 + 1, 0, none⟩ = some (.int .i64 ((3 * (k + 1) : Nat) : Int))) := Lib.hid (HUD.out.2.2.2.1.cell 0)
            have HKU2 : Hid ((wd.setRow g (arr .u16 256 F2)).cell? ⟨g1 + 1, 0, none⟩ = some (.int .i64 ((3 * (k + 1) : Nat) : Int))) := Lib.hid (Row.cell (show Row _ (g1 + 1) 3 #[.int .i64 ((3 * (k + 1) : Nat) : Int)] from (setRow_other wd g (g1 + 1) _ (by have := HN.out; omega)).trans HUD.out.2.2.2.1) 0)
            have HPF : Hid (Past w (wd.setRow g (arr .u16 256 F2))) := Lib.hid (below_setRow HUD.out.1 (by have := HN.out; omega) _)
            obtain ⟨z3, hz3⟩ : ∃ z : Int, ((3 * (k + 1) : Nat) : Int) = z := ⟨_, rfl⟩
            rw [hz3] at HKU HKU2
            clear hz3
            refine wp_region_held_drew (S := fun w' => w'.rangeAt u 0 (lst F2) ∧ w'.cell? ⟨g1 + 1, 0, none⟩ = some (.int .i64 z3)) (by kernel_rfl) (by rw [← hwd]; exact ⟨HRL.out, HKU.out⟩) (fun hH => ?_)
            change wpAnyH _ _ _ _ _ _ _ _ (World.drew _)
            rw [← hwd]
            clear hH hwd
            have hH := And.intro HRL.out HKU.out
            refine held_take 0 30 rfl rfl (by kernel_rfl) (by kernel_rfl) (by kernel_rfl) (fun _ _ _ h => h) (yieldsIf_load_mid (by kernel_rfl) 30 (.tmp 7) rfl u 0 rfl (lst F2) _ (fun _ h => h.1) Tryz.underlying30 rfl HLR.out) hH ?_
            (try simp only [List.setIfInBounds_toArray, List.set_cons_zero, List.set_cons_succ])
            refine held_take 1 31 (v := .int .i64 z3) rfl rfl (by kernel_rfl) (by kernel_rfl) (by kernel_rfl) (fun _ _ _ h => h) (Or.inl ⟨by kernel_rfl, fun w hSw => by
              have hcell := hSw.2
              go_simp⟩) hH ?_
            (try simp only [List.setIfInBounds_toArray, List.set_cons_zero, List.set_cons_succ])
            refine wpAnyH_ready (rs := [2]) (by kernel_rfl) (by simp) ?_
            refine AllReadyH.cons (by simp only [List.getElem?_toArray, List.getElem?_cons_succ, List.getElem?_cons_zero]; rfl) (fun K hK => ?_) AllReadyH.nil
            refine step_wanted16 rfl ?_
            refine wp_store_row 30 (.tmp 2) (.tmp 30) rfl g (arr .u16 256 F2) rfl rfl _ _ hr1 hi2 hs2 ho2 ?_
            refine hK.out _ _ ⟨HRL2.out, HKU2.out⟩ (fun hH => ?_)
            clear hK K
            refine held_take 3 3 (v := .int .i64 z3) rfl rfl (by kernel_rfl) (by kernel_rfl) (by kernel_rfl) (fun _ _ _ h => h) (Or.inl ⟨by kernel_rfl, fun w _ => by kernel_rfl⟩) hH ?_
            refine wpAnyH_done (by kernel_rfl) ?_ _
            go_simp
            go_wp2_with fail
            rw [Exit.noGoto_ret]
            refine bodyPost_ret (results_cr rfl _ _ ⟨g, 0, none⟩ _ rfl (load_poly _ g _ (setRow_heap _ g _ _ _ _ hr1) hi2)) (by rfl) ?_
            exact ⟨F2, _, rfl, HF9.out, HPF.out⟩
          · have hcI : ¬ (cc : Int) = 255 := by omega
            have HCL : Hid (cc + 1 < 256) := Lib.hid (by omega)
            have HNC : Hid (wrap64 ((cc : Int) + 1) = ((cc + 1 : Nat) : Int)) := Lib.hid (by rw [IntWalk.wrap64_in _ (by omega)]; omega)
            obtain ⟨cd, hcd⟩ : ∃ cd, cc + 1 = cd := ⟨_, rfl⟩
            rw [hcd] at HCL HNC HCN2
            have hcdI : (cc : Int) + 1 = (cd : Int) := by omega
            have hwcd : wrap64 (cd : Int) = (cd : Int) := IntWalk.wrap64_in _ (by omega)
            have hnd : ¬ (cd : Int) = 256 := by have := HCL.out; omega
            clear h256 hcd
            go_wp2_with fail
            try rw [HW9.out]
            go_roundg (2 - (1 + 1))
            case rel => exact ⟨1 + 1, cd, F2, by decide, rfl, rfl, rfl, HCL.out, Lib.hid HCN2.out, HU9, HF9⟩
            case measure => have := HGQ2.out; omega
        · have hge : (3329 : Int) ≤ b := by omega
          have HCN2 : Hid (cntF N (2 * k + 1 + 1) = cc) := Lib.hid (by
            show cntF N (2 * k + 1) + (if N (2 * k + 1) < 3329 then 1 else 0) = cc
            rw [HCNT.out, ← HNV1.out, if_neg hlow]; rfl)
          have HCL := Lib.hid hcl
          clear hlow hcl
          go_wp2_with fail
          go_roundg (2 - (1 + 1))
          case rel => exact ⟨1 + 1, cc, FX, by decide, rfl, rfl, rfl, HCL.out, HCN2, HUX, HFX⟩
          case measure => have := HGQ2.out; omega
      · have HCL := Lib.hid hcl
        clear a0 a1 b0 b1 hi hcl
        go_wp2_with fail
        go_roundg (M - (k + 1))
        case rel => exact ⟨k + 1, cc, FX, HKM.out, rfl, rfl, HCL.out, HCNT, HUX, HFX⟩
        case measure => have := HGQ.out; have := HKM.out; omega
end Go.Proofs.YtalhdalmafhofaaGreatDoor
