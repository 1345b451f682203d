/- The program's Add and Sub. -/
import Derived.Test.YtmhhkhbdjkbklaaM14A
import Derived.Test.YtmhhkhbdjkbklaaAwake14
import Derived.Deep.RegionHeld
namespace Go.Proofs.Ytmhhkhbdjkbklaa
open Go.RowKit
set_option linter.unusedVariables false

set_option maxHeartbeats 4000000 in
set_option maxRecDepth 100000 in
theorem padd_any (a b : Nat → Int) (ha : ∀ j, 0 ≤ a j ∧ a j < 65536) (hb : ∀ j, 0 ≤ b j ∧ b j < 65536) (w : World) :
    Calls Try.prog 18 #[.agg (arr .u16 256 a), .agg (arr .u16 256 b)] w fun e w' => e = .returned (.agg (arr .u16 256 (addF a b))) ∧ Past w w' := by
  have HCA := Lib.hid (fun i (hi : i < 256) => arr_get .u16 256 a i hi)
  have HCB := Lib.hid (fun i (hi : i < 256) => arr_get .u16 256 b i hi)
  have HFA := Lib.hid ha
  have HFB := Lib.hid hb
  obtain ⟨g, hg⟩ : ∃ g, w.heap.size = g := ⟨_, rfl⟩
  obtain ⟨w3, hw3⟩ : ∃ w', w' = (((w.alloc (.cells (arr .u16 256 a) 28)).alloc (.cells (arr .u16 256 b) 28)).alloc (.cells (arr .u16 256 fun _ => 0) 28)).alloc (.cells (arr .u16 256 fun _ => 0) 28) := ⟨_, rfl⟩
  have H0 : Hid (Fx [(g, 28, arr .u16 256 a), (g + 1, 28, arr .u16 256 b), (g + 1 + 1, 28, arr .u16 256 fun _ => 0)] .u16 256 w w3 (g + 1 + 1 + 1) 28 fun _ => 0) := Lib.hid (by
    have h := four_fx w 28 28 28 28 (arr .u16 256 a) (arr .u16 256 b) (arr .u16 256 fun _ => 0) .u16 256 fun _ => 0
    rw [hg, ← hw3] at h
    exact h)
  have HGE : Hid (w.heap.size = g) := Lib.hid hg
  have HW3 := Lib.hid hw3
  clear ha hb hw3
  generalize arr .u16 256 a = ca at *
  generalize arr .u16 256 b = cb at *
  go_enter Try.func18, Try.ntmps18
  have hz := zeroP
  go_upto_region 2 with (fail)
  clear hz
  rw [← HW3.out]
  try rw [hg]
  clear HW3 hg
  go_wp2_with fail
  go_loopg [7] 256 (fun q s7 wx => ∃ i : Nat, i ≤ 256 ∧ q = 256 - i ∧ s7 = .int .i64 (i : Int) ∧ Hid (∃ F, Fx [(g, 28, ca), (g + 1, 28, cb), (g + 1 + 1, 28, arr .u16 256 fun _ => 0)] .u16 256 w wx (g + 1 + 1 + 1) 28 F ∧ ∀ j, j < i → F j = addF a b j))
  case atStart => exact ⟨0, Nat.zero_le _, rfl, rfl, Lib.hid ⟨_, H0.out, fun j hj => absurd hj (by omega)⟩⟩
  case round =>
    clear H0
    obtain ⟨i, hi, hq, rfl, HQ⟩ := hrel
    have HGQ := Lib.hid hq
    clear hq
    have hi0 : (0 : Int) ≤ (i : Int) := by omega
    obtain ⟨F, hT, hF⟩ := HQ.out
    by_cases hlt : i < 256
    · have hii : (i : Int) < 256 := by omega
      have HLT := Lib.hid hlt
      have hc1 : wr.cell? ⟨g, i, none⟩ = some (.int .u16 (a i)) := by
        rw [(hT.2.1 (g, 28, ca) (by simp)).cell]
        exact HCA.out i hlt
      have hc2 : wr.cell? ⟨g + 1, i, none⟩ = some (.int .u16 (b i)) := by
        rw [(hT.2.1 (g + 1, 28, cb) (by simp)).cell]
        exact HCB.out i hlt
      obtain ⟨x0, x1⟩ := HFA.out i
      obtain ⟨y0, y1⟩ := HFB.out i
      obtain ⟨wd, hwd⟩ : ∃ w', w' = wr.drew := ⟨_, rfl⟩
      have HWD := Lib.hid hwd
      have hT0 : Fx _ _ _ _ _ _ _ F := hT.drewN 1
      change Fx _ _ _ _ wr.drew _ _ _ at hT0
      have HS00 : Hid (wr.drew.cell? ⟨g, i, none⟩ = some (.int .u16 (a i)) ∧ wr.drew.cell? ⟨g + 1, i, none⟩ = some (.int .u16 (b i))) := Lib.hid ⟨hc1, hc2⟩
      rw [← hwd] at hT0 HS00
      have hc3 := hT0.2.2.at i hlt
      have hf3 := hT0.2.2.fr i
      have hT1 := hT0.put (by have := HGE.out; omega) (by intro x hx; simp at hx; rcases hx with rfl | rfl | rfl <;> simp <;> omega) i hlt (addF a b i)
      have HT2 := Lib.hid (show ∃ F', Fx _ _ _ _ _ _ _ F' ∧ ∀ j, j < i + 1 → F' j = addF a b j from ⟨_, hT1, fun j hj => by
        by_cases e1 : j = i
        · subst e1; rw [upd_at]
        · rw [upd_ne _ _ e1]; exact hF j (by omega)⟩)
      have HS11 : Hid ((wd.setCell ⟨g + 1 + 1 + 1, i, none⟩ (.int .u16 (addF a b i))).cell? ⟨g, i, none⟩ = some (.int .u16 (a i)) ∧ (wd.setCell ⟨g + 1 + 1 + 1, i, none⟩ (.int .u16 (addF a b i))).cell? ⟨g + 1, i, none⟩ = some (.int .u16 (b i))) := Lib.hid (by
        have hr1 := hT1.2.1 (g, 28, ca) (by simp)
        have hr2 := hT1.2.1 (g + 1, 28, cb) (by simp)
        exact ⟨by rw [hr1.cell]; exact HCA.out i hlt, by rw [hr2.cell]; exact HCB.out i hlt⟩)
      obtain ⟨p, hp⟩ : ∃ p, a i = p := ⟨_, rfl⟩
      obtain ⟨r, hr⟩ : ∃ p, b i = p := ⟨_, rfl⟩
      obtain ⟨y, hy⟩ : ∃ y, addF a b i = y := ⟨_, rfl⟩
      have hyp : (p + r) % 3329 = y := by rw [← hp, ← hr]; exact hy
      rw [hp] at x0 x1 HS00 HS11
      rw [hr] at y0 y1 HS00 HS11
      rw [hy] at HS11 HT2
      obtain ⟨E, hE⟩ : ∃ E, p + r = E := ⟨_, rfl⟩
      have hwE : IntKind.i64.wrap (p + r) = E := by rw [hE, IntKind.wrap_i64]; omega
      have hwp : IntKind.i64.wrap p = p := by rw [IntKind.wrap_i64]; omega
      have hwr2 : IntKind.i64.wrap r = r := by rw [IntKind.wrap_i64]; omega
      have HRE := Lib.hid (fun w => reduce_any E w (by omega) (by omega))
      rw [show E % 3329 = y by rw [← hE]; exact hyp] at HRE
      have HS0 := HS00
      have HS1 := HS11
      clear hT hT0 hF hT1 HQ hy hyp hlt hi hwd hp hr hE HS00 HS11 hc1 hc2
      go_upto_region 5 with (fail)
      refine wp_region_held_drew (S := fun w' => w'.cell? ⟨g, i, none⟩ = some (.int .u16 p) ∧ w'.cell? ⟨g + 1, i, none⟩ = some (.int .u16 r)) (by kernel_rfl) (by rw [← HWD.out]; exact HS0.out) (fun hH => ?_)
      change wpAnyH _ _ _ _ _ _ _ _ (World.drew _)
      rw [← HWD.out]
      clear hH
      have hH := HS0.out
      clear HWD
      refine held_take 0 10 (v := .int .i64 (i : Int)) rfl rfl (by kernel_rfl) (by kernel_rfl) (by kernel_rfl) (fun _ _ _ h => h) (Or.inl ⟨by kernel_rfl, fun w _ => by kernel_rfl⟩) hH ?_
      (try simp only [List.setIfInBounds_toArray, List.set_cons_zero, List.set_cons_succ])
      refine held_take 1 11 (v := .int .i64 (i : Int)) rfl rfl (by kernel_rfl) (by kernel_rfl) (by kernel_rfl) (fun _ _ _ h => h) (Or.inl ⟨by kernel_rfl, fun w _ => by kernel_rfl⟩) hH ?_
      (try simp only [List.setIfInBounds_toArray, List.set_cons_zero, List.set_cons_succ])
      refine held_take 2 12 (v := .pointer (some ⟨g, i, none⟩)) rfl rfl (by kernel_rfl) (by kernel_rfl) (by kernel_rfl) (fun _ _ _ h => h) (Or.inl ⟨by kernel_rfl, fun w _ => by go_simp⟩) hH ?_
      (try simp only [List.setIfInBounds_toArray, List.set_cons_zero, List.set_cons_succ])
      refine held_take 3 13 (v := .int .u16 p) rfl rfl (by kernel_rfl) (by kernel_rfl) (by kernel_rfl) (fun _ _ _ h => h) (Or.inl ⟨by kernel_rfl, fun w hSw => by
        have hcell := hSw.1
        go_simp⟩) hH ?_
      (try simp only [List.setIfInBounds_toArray, List.set_cons_zero, List.set_cons_succ])
      refine held_take 4 14 (v := .int .i64 p) rfl rfl (by kernel_rfl) (by kernel_rfl) (by kernel_rfl) (fun _ _ _ h => h) (Or.inl ⟨by kernel_rfl, fun w _ => by go_simp⟩) hH ?_
      (try simp only [List.setIfInBounds_toArray, List.set_cons_zero, List.set_cons_succ])
      refine held_take 5 15 (v := .int .i64 (i : Int)) rfl rfl (by kernel_rfl) (by kernel_rfl) (by kernel_rfl) (fun _ _ _ h => h) (Or.inl ⟨by kernel_rfl, fun w _ => by kernel_rfl⟩) hH ?_
      (try simp only [List.setIfInBounds_toArray, List.set_cons_zero, List.set_cons_succ])
      refine held_take 6 16 (v := .pointer (some ⟨g + 1, i, none⟩)) rfl rfl (by kernel_rfl) (by kernel_rfl) (by kernel_rfl) (fun _ _ _ h => h) (Or.inl ⟨by kernel_rfl, fun w _ => by go_simp⟩) hH ?_
      (try simp only [List.setIfInBounds_toArray, List.set_cons_zero, List.set_cons_succ])
      refine held_take 7 17 (v := .int .u16 r) rfl rfl (by kernel_rfl) (by kernel_rfl) (by kernel_rfl) (fun _ _ _ h => h) (Or.inl ⟨by kernel_rfl, fun w hSw => by
        have hcell := hSw.2
        go_simp⟩) hH ?_
      (try simp only [List.setIfInBounds_toArray, List.set_cons_zero, List.set_cons_succ])
      refine held_take 8 18 (v := .int .i64 r) rfl rfl (by kernel_rfl) (by kernel_rfl) (by kernel_rfl) (fun _ _ _ h => h) (Or.inl ⟨by kernel_rfl, fun w _ => by go_simp⟩) hH ?_
      (try simp only [List.setIfInBounds_toArray, List.set_cons_zero, List.set_cons_succ])
      refine held_take 9 19 (v := .int .i64 E) rfl rfl (by kernel_rfl) (by kernel_rfl) (by kernel_rfl) (fun _ _ _ h => h) (Or.inl ⟨by kernel_rfl, fun w _ => by go_simp⟩) hH ?_
      (try simp only [List.setIfInBounds_toArray, List.set_cons_zero, List.set_cons_succ])
      refine wpAnyH_ready (rs := [10]) (by kernel_rfl) (by simp) ?_
      refine AllReadyH.cons rfl (fun K hK => ?_) AllReadyH.nil
      go_simp
      refine (HRE.out wd).mono ?_
      rintro e9 w9 ⟨rfl, hw9⟩
      rw [hw9]
      clear hw9
      refine hK.out _ _ HS0.out (fun hH => ?_)
      clear hK K
      refine held_take 11 21 (v := .pointer (some ⟨g + 1 + 1 + 1, i, none⟩)) rfl rfl (by kernel_rfl) (by kernel_rfl) (by kernel_rfl) (fun _ _ _ h => h) (Or.inl ⟨by kernel_rfl, fun w _ => by go_simp⟩) hH ?_
      (try simp only [List.setIfInBounds_toArray, List.set_cons_zero, List.set_cons_succ])
      refine wpAnyH_ready (rs := [12]) (by kernel_rfl) (by simp) ?_
      refine AllReadyH.cons rfl (fun K hK => ?_) AllReadyH.nil
      go_simp
      refine hK.out _ _ HS1.out (fun hH => ?_)
      clear hK K
      refine wpAnyH_done (by kernel_rfl) ?_ _
      go_simp
      go_wp2_with fail
      go_roundg (256 - (i + 1))
      case rel => exact ⟨i + 1, HLT.out, rfl, by go_num, HT2⟩
      case measure => have := HGQ.out; have := HLT.out; omega
    · obtain rfl : i = 256 := by omega
      have he : arr .u16 256 F = arr .u16 256 (addF a b) := arr_ext fun j hj => hF j (by omega)
      have hr2 := hT.2.2
      have hr1 := hT.2.1 (g + 1 + 1, 28, arr .u16 256 fun _ => 0) (by simp)
      unfold LM at hr2
      rw [he] at hr2
      have hi2 := infP (addF a b)
      have hs2 : (arr .u16 256 fun _ => 0).size = (arr .u16 256 (addF a b)).size := by rw [arr_size, arr_size]
      have ho2 := arr_one .u16 256 (addF a b)
      have HP := Lib.hid hT.1
      clear hT hF he HQ HCA HCB
      generalize hcc : arr .u16 256 (addF a b) = c2 at *
      have HCC := Lib.hid hcc
      clear hcc
      generalize arr .u16 256 (fun _ => 0) = c1 at *
      simp only at hr1
      go_wp2_with (first | (refine wpList_load_row rfl 28 _ rfl (g + 1 + 1 + 1) rfl _ _ (0, 0) _ hr2 Try.underlying28 rfl hi2 ?_) | (refine wpList_store_row rfl 28 _ _ rfl (g + 1 + 1) _ rfl rfl _ _ hr1 hi2 hs2 ho2 ?_))
      refine bodyPost_ret (results_cell_row rfl _ _ (g + 1 + 1) _ c2 (0, 0) _ rfl (setRow_heap wr (g + 1 + 1) c1 c2 _ _ hr1) Try.underlying28 rfl hi2) rfl ?_
      exact ⟨by rw [HCC.out], below_setRow HP.out (by have := HGE.out; omega) _⟩
set_option maxHeartbeats 4000000 in
set_option maxRecDepth 100000 in
theorem psub_any (a b : Nat → Int) (ha : ∀ j, 0 ≤ a j ∧ a j < 65536) (hb : ∀ j, 0 ≤ b j ∧ b j < 65536) (w : World) :
    Calls Try.prog 19 #[.agg (arr .u16 256 a), .agg (arr .u16 256 b)] w fun e w' => e = .returned (.agg (arr .u16 256 (subF a b))) ∧ Past w w' := by
  have HCA := Lib.hid (fun i (hi : i < 256) => arr_get .u16 256 a i hi)
  have HCB := Lib.hid (fun i (hi : i < 256) => arr_get .u16 256 b i hi)
  have HFA := Lib.hid ha
  have HFB := Lib.hid hb
  obtain ⟨g, hg⟩ : ∃ g, w.heap.size = g := ⟨_, rfl⟩
  obtain ⟨w3, hw3⟩ : ∃ w', w' = (((w.alloc (.cells (arr .u16 256 a) 28)).alloc (.cells (arr .u16 256 b) 28)).alloc (.cells (arr .u16 256 fun _ => 0) 28)).alloc (.cells (arr .u16 256 fun _ => 0) 28) := ⟨_, rfl⟩
  have H0 : Hid (Fx [(g, 28, arr .u16 256 a), (g + 1, 28, arr .u16 256 b), (g + 1 + 1, 28, arr .u16 256 fun _ => 0)] .u16 256 w w3 (g + 1 + 1 + 1) 28 fun _ => 0) := Lib.hid (by
    have h := four_fx w 28 28 28 28 (arr .u16 256 a) (arr .u16 256 b) (arr .u16 256 fun _ => 0) .u16 256 fun _ => 0
    rw [hg, ← hw3] at h
    exact h)
  have HGE : Hid (w.heap.size = g) := Lib.hid hg
  have HW3 := Lib.hid hw3
  clear ha hb hw3
  generalize arr .u16 256 a = ca at *
  generalize arr .u16 256 b = cb at *
  go_enter Try.func19, Try.ntmps19
  have hz := zeroP
  go_upto_region 2 with (fail)
  clear hz
  rw [← HW3.out]
  try rw [hg]
  clear HW3 hg
  go_wp2_with fail
  go_loopg [7] 256 (fun q s7 wx => ∃ i : Nat, i ≤ 256 ∧ q = 256 - i ∧ s7 = .int .i64 (i : Int) ∧ Hid (∃ F, Fx [(g, 28, ca), (g + 1, 28, cb), (g + 1 + 1, 28, arr .u16 256 fun _ => 0)] .u16 256 w wx (g + 1 + 1 + 1) 28 F ∧ ∀ j, j < i → F j = subF a b j))
  case atStart => exact ⟨0, Nat.zero_le _, rfl, rfl, Lib.hid ⟨_, H0.out, fun j hj => absurd hj (by omega)⟩⟩
  case round =>
    clear H0
    obtain ⟨i, hi, hq, rfl, HQ⟩ := hrel
    have HGQ := Lib.hid hq
    clear hq
    have hi0 : (0 : Int) ≤ (i : Int) := by omega
    obtain ⟨F, hT, hF⟩ := HQ.out
    by_cases hlt : i < 256
    · have hii : (i : Int) < 256 := by omega
      have HLT := Lib.hid hlt
      have hc1 : wr.cell? ⟨g, i, none⟩ = some (.int .u16 (a i)) := by
        rw [(hT.2.1 (g, 28, ca) (by simp)).cell]
        exact HCA.out i hlt
      have hc2 : wr.cell? ⟨g + 1, i, none⟩ = some (.int .u16 (b i)) := by
        rw [(hT.2.1 (g + 1, 28, cb) (by simp)).cell]
        exact HCB.out i hlt
      obtain ⟨x0, x1⟩ := HFA.out i
      obtain ⟨y0, y1⟩ := HFB.out i
      obtain ⟨wd, hwd⟩ : ∃ w', w' = wr.drew := ⟨_, rfl⟩
      have HWD := Lib.hid hwd
      have hT0 : Fx _ _ _ _ _ _ _ F := hT.drewN 1
      change Fx _ _ _ _ wr.drew _ _ _ at hT0
      have HS00 : Hid (wr.drew.cell? ⟨g, i, none⟩ = some (.int .u16 (a i)) ∧ wr.drew.cell? ⟨g + 1, i, none⟩ = some (.int .u16 (b i))) := Lib.hid ⟨hc1, hc2⟩
      rw [← hwd] at hT0 HS00
      have hc3 := hT0.2.2.at i hlt
      have hf3 := hT0.2.2.fr i
      have hT1 := hT0.put (by have := HGE.out; omega) (by intro x hx; simp at hx; rcases hx with rfl | rfl | rfl <;> simp <;> omega) i hlt (subF a b i)
      have HT2 := Lib.hid (show ∃ F', Fx _ _ _ _ _ _ _ F' ∧ ∀ j, j < i + 1 → F' j = subF a b j from ⟨_, hT1, fun j hj => by
        by_cases e1 : j = i
        · subst e1; rw [upd_at]
        · rw [upd_ne _ _ e1]; exact hF j (by omega)⟩)
      have HS11 : Hid ((wd.setCell ⟨g + 1 + 1 + 1, i, none⟩ (.int .u16 (subF a b i))).cell? ⟨g, i, none⟩ = some (.int .u16 (a i)) ∧ (wd.setCell ⟨g + 1 + 1 + 1, i, none⟩ (.int .u16 (subF a b i))).cell? ⟨g + 1, i, none⟩ = some (.int .u16 (b i))) := Lib.hid (by
        have hr1 := hT1.2.1 (g, 28, ca) (by simp)
        have hr2 := hT1.2.1 (g + 1, 28, cb) (by simp)
        exact ⟨by rw [hr1.cell]; exact HCA.out i hlt, by rw [hr2.cell]; exact HCB.out i hlt⟩)
      obtain ⟨p, hp⟩ : ∃ p, a i = p := ⟨_, rfl⟩
      obtain ⟨r, hr⟩ : ∃ p, b i = p := ⟨_, rfl⟩
      obtain ⟨y, hy⟩ : ∃ y, subF a b i = y := ⟨_, rfl⟩
      have hyp : (p - r) % 3329 = y := by rw [← hp, ← hr]; exact hy
      rw [hp] at x0 x1 HS00 HS11
      rw [hr] at y0 y1 HS00 HS11
      rw [hy] at HS11 HT2
      obtain ⟨E, hE⟩ : ∃ E, p - r = E := ⟨_, rfl⟩
      have hwE : IntKind.i64.wrap (p - r) = E := by rw [hE, IntKind.wrap_i64]; omega
      have hwp : IntKind.i64.wrap p = p := by rw [IntKind.wrap_i64]; omega
      have hwr2 : IntKind.i64.wrap r = r := by rw [IntKind.wrap_i64]; omega
      have HRE := Lib.hid (fun w => reduce_any E w (by omega) (by omega))
      rw [show E % 3329 = y by rw [← hE]; exact hyp] at HRE
      have HS0 := HS00
      have HS1 := HS11
      clear hT hT0 hF hT1 HQ hy hyp hlt hi hwd hp hr hE HS00 HS11 hc1 hc2
      go_upto_region 5 with (fail)
      refine wp_region_held_drew (S := fun w' => w'.cell? ⟨g, i, none⟩ = some (.int .u16 p) ∧ w'.cell? ⟨g + 1, i, none⟩ = some (.int .u16 r)) (by kernel_rfl) (by rw [← HWD.out]; exact HS0.out) (fun hH => ?_)
      change wpAnyH _ _ _ _ _ _ _ _ (World.drew _)
      rw [← HWD.out]
      clear hH
      have hH := HS0.out
      clear HWD
      refine held_take 0 10 (v := .int .i64 (i : Int)) rfl rfl (by kernel_rfl) (by kernel_rfl) (by kernel_rfl) (fun _ _ _ h => h) (Or.inl ⟨by kernel_rfl, fun w _ => by kernel_rfl⟩) hH ?_
      (try simp only [List.setIfInBounds_toArray, List.set_cons_zero, List.set_cons_succ])
      refine held_take 1 11 (v := .int .i64 (i : Int)) rfl rfl (by kernel_rfl) (by kernel_rfl) (by kernel_rfl) (fun _ _ _ h => h) (Or.inl ⟨by kernel_rfl, fun w _ => by kernel_rfl⟩) hH ?_
      (try simp only [List.setIfInBounds_toArray, List.set_cons_zero, List.set_cons_succ])
      refine held_take 2 12 (v := .pointer (some ⟨g, i, none⟩)) rfl rfl (by kernel_rfl) (by kernel_rfl) (by kernel_rfl) (fun _ _ _ h => h) (Or.inl ⟨by kernel_rfl, fun w _ => by go_simp⟩) hH ?_
      (try simp only [List.setIfInBounds_toArray, List.set_cons_zero, List.set_cons_succ])
      refine held_take 3 13 (v := .int .u16 p) rfl rfl (by kernel_rfl) (by kernel_rfl) (by kernel_rfl) (fun _ _ _ h => h) (Or.inl ⟨by kernel_rfl, fun w hSw => by
        have hcell := hSw.1
        go_simp⟩) hH ?_
      (try simp only [List.setIfInBounds_toArray, List.set_cons_zero, List.set_cons_succ])
      refine held_take 4 14 (v := .int .i64 p) rfl rfl (by kernel_rfl) (by kernel_rfl) (by kernel_rfl) (fun _ _ _ h => h) (Or.inl ⟨by kernel_rfl, fun w _ => by go_simp⟩) hH ?_
      (try simp only [List.setIfInBounds_toArray, List.set_cons_zero, List.set_cons_succ])
      refine held_take 5 15 (v := .int .i64 (i : Int)) rfl rfl (by kernel_rfl) (by kernel_rfl) (by kernel_rfl) (fun _ _ _ h => h) (Or.inl ⟨by kernel_rfl, fun w _ => by kernel_rfl⟩) hH ?_
      (try simp only [List.setIfInBounds_toArray, List.set_cons_zero, List.set_cons_succ])
      refine held_take 6 16 (v := .pointer (some ⟨g + 1, i, none⟩)) rfl rfl (by kernel_rfl) (by kernel_rfl) (by kernel_rfl) (fun _ _ _ h => h) (Or.inl ⟨by kernel_rfl, fun w _ => by go_simp⟩) hH ?_
      (try simp only [List.setIfInBounds_toArray, List.set_cons_zero, List.set_cons_succ])
      refine held_take 7 17 (v := .int .u16 r) rfl rfl (by kernel_rfl) (by kernel_rfl) (by kernel_rfl) (fun _ _ _ h => h) (Or.inl ⟨by kernel_rfl, fun w hSw => by
        have hcell := hSw.2
        go_simp⟩) hH ?_
      (try simp only [List.setIfInBounds_toArray, List.set_cons_zero, List.set_cons_succ])
      refine held_take 8 18 (v := .int .i64 r) rfl rfl (by kernel_rfl) (by kernel_rfl) (by kernel_rfl) (fun _ _ _ h => h) (Or.inl ⟨by kernel_rfl, fun w _ => by go_simp⟩) hH ?_
      (try simp only [List.setIfInBounds_toArray, List.set_cons_zero, List.set_cons_succ])
      refine held_take 9 19 (v := .int .i64 E) rfl rfl (by kernel_rfl) (by kernel_rfl) (by kernel_rfl) (fun _ _ _ h => h) (Or.inl ⟨by kernel_rfl, fun w _ => by go_simp⟩) hH ?_
      (try simp only [List.setIfInBounds_toArray, List.set_cons_zero, List.set_cons_succ])
      refine wpAnyH_ready (rs := [10]) (by kernel_rfl) (by simp) ?_
      refine AllReadyH.cons rfl (fun K hK => ?_) AllReadyH.nil
      go_simp
      refine (HRE.out wd).mono ?_
      rintro e9 w9 ⟨rfl, hw9⟩
      rw [hw9]
      clear hw9
      refine hK.out _ _ HS0.out (fun hH => ?_)
      clear hK K
      refine held_take 11 21 (v := .pointer (some ⟨g + 1 + 1 + 1, i, none⟩)) rfl rfl (by kernel_rfl) (by kernel_rfl) (by kernel_rfl) (fun _ _ _ h => h) (Or.inl ⟨by kernel_rfl, fun w _ => by go_simp⟩) hH ?_
      (try simp only [List.setIfInBounds_toArray, List.set_cons_zero, List.set_cons_succ])
      refine wpAnyH_ready (rs := [12]) (by kernel_rfl) (by simp) ?_
      refine AllReadyH.cons rfl (fun K hK => ?_) AllReadyH.nil
      go_simp
      refine hK.out _ _ HS1.out (fun hH => ?_)
      clear hK K
      refine wpAnyH_done (by kernel_rfl) ?_ _
      go_simp
      go_wp2_with fail
      go_roundg (256 - (i + 1))
      case rel => exact ⟨i + 1, HLT.out, rfl, by go_num, HT2⟩
      case measure => have := HGQ.out; have := HLT.out; omega
    · obtain rfl : i = 256 := by omega
      have he : arr .u16 256 F = arr .u16 256 (subF a b) := arr_ext fun j hj => hF j (by omega)
      have hr2 := hT.2.2
      have hr1 := hT.2.1 (g + 1 + 1, 28, arr .u16 256 fun _ => 0) (by simp)
      unfold LM at hr2
      rw [he] at hr2
      have hi2 := infP (subF a b)
      have hs2 : (arr .u16 256 fun _ => 0).size = (arr .u16 256 (subF a b)).size := by rw [arr_size, arr_size]
      have ho2 := arr_one .u16 256 (subF a b)
      have HP := Lib.hid hT.1
      clear hT hF he HQ HCA HCB
      generalize hcc : arr .u16 256 (subF a b) = c2 at *
      have HCC := Lib.hid hcc
      clear hcc
      generalize arr .u16 256 (fun _ => 0) = c1 at *
      simp only at hr1
      go_wp2_with (first | (refine wpList_load_row rfl 28 _ rfl (g + 1 + 1 + 1) rfl _ _ (0, 0) _ hr2 Try.underlying28 rfl hi2 ?_) | (refine wpList_store_row rfl 28 _ _ rfl (g + 1 + 1) _ rfl rfl _ _ hr1 hi2 hs2 ho2 ?_))
      refine bodyPost_ret (results_cell_row rfl _ _ (g + 1 + 1) _ c2 (0, 0) _ rfl (setRow_heap wr (g + 1 + 1) c1 c2 _ _ hr1) Try.underlying28 rfl hi2) rfl ?_
      exact ⟨by rw [HCC.out], below_setRow HP.out (by have := HGE.out; omega) _⟩
end Go.Proofs.Ytmhhkhbdjkbklaa
