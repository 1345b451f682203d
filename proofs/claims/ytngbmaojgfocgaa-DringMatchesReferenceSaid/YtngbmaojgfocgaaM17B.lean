/- The program's combined, Add, Sub, Mul. -/
import Derived.Test.YtngbmaojgfocgaaM17A
import Derived.Deep.RegionHeld
import Derived.Shelf.Abstract
namespace Go.Proofs.Ytngbmaojgfocgaa.dr
open Go.RowKit
set_option linter.unusedVariables false
set_option maxRecDepth 100000

/-- What combined makes of two polynomials. -/
def comF (op : Int → Int → Int) (a b : Nat → Int) (i : Nat) : Int := op (a i % 8380417) (b i % 8380417) % 8380417
theorem addF_com (a b : Nat → Int) : addF a b = comF (fun x y => x + y) a b := by
  funext i
  unfold addF comF
  simp only []
  omega
theorem subF_com (a b : Nat → Int) : subF a b = comF (fun x y => x - y) a b := by
  funext i
  unfold subF comF
  simp only []
  omega
theorem mulF_com (a b : Nat → Int) : mulF a b = comF (fun x y => x * y) a b := rfl
theorem mul_bd17 {x y : Int} (x0 : 0 ≤ x) (x1 : x < 8380417) (y0 : 0 ≤ y) (y1 : y < 8380417) : 0 ≤ x * y ∧ x * y ≤ 70231372333056 :=
  ⟨Int.mul_nonneg x0 y0, Int.le_trans (Int.mul_le_mul (show x ≤ 8380416 by omega) (show y ≤ 8380416 by omega) y0 (by decide)) (by decide)⟩
set_option maxHeartbeats 4000000 in
set_option maxRecDepth 100000 in
theorem combined_any (fn : FuncId) (op : Int → Int → Int) (more : Array Value) (a b : Nat → Int) (ha : R32 a) (hb : R32 b) (w : World)
    (hent : ∀ args w, (callFunc fn args).run Try.prog w = .ok (.enter fn args) w)
    (hop : ∀ x y : Int, 0 ≤ x → x < 8380417 → 0 ≤ y → y < 8380417 → -9223372036854775808 ≤ op x y ∧ op x y < 9223372036854775808 ∧ ∀ w', Calls Try.prog fn (#[.int .i64 x, .int .i64 y] ++ more) w' fun e w'' => e = .returned (.int .i64 (op x y)) ∧ w'' = w') :
    Calls Try.prog 32 #[.agg (arr .u32 256 a), .agg (arr .u32 256 b), .func (.func fn) #[] more] w fun e w' => e = .returned (.agg (arr .u32 256 (comF op a b))) ∧ Past w w' := by
  have HCA := Lib.hid (fun i (hi : i < 256) => arr_get .u32 256 a i hi)
  have HCB := Lib.hid (fun i (hi : i < 256) => arr_get .u32 256 b i hi)
  have HFA := Lib.hid ha
  have HFB := Lib.hid hb
  have HPO := Lib.hid hop
  obtain ⟨g, hg⟩ : ∃ g, w.heap.size = g := ⟨_, rfl⟩
  obtain ⟨w3, hw3⟩ : ∃ w', w' = (((w.alloc (.cells (arr .u32 256 a) 27)).alloc (.cells (arr .u32 256 b) 27)).alloc (.cells (arr .u32 256 fun _ => 0) 27)).alloc (.cells (arr .u32 256 fun _ => 0) 27) := ⟨_, rfl⟩
  have H0 : Hid (Fx [(g, 27, arr .u32 256 a), (g + 1, 27, arr .u32 256 b), (g + 1 + 1, 27, arr .u32 256 fun _ => 0)] .u32 256 w w3 (g + 1 + 1 + 1) 27 fun _ => 0) := Lib.hid (by
    have h := four_fx w 27 27 27 27 (arr .u32 256 a) (arr .u32 256 b) (arr .u32 256 fun _ => 0) .u32 256 fun _ => 0
    rw [hg, ← hw3] at h
    exact h)
  have HGE : Hid (w.heap.size = g) := Lib.hid hg
  have HW3 := Lib.hid hw3
  clear ha hb hw3 hop
  generalize arr .u32 256 a = ca at *
  generalize arr .u32 256 b = cb at *
  go_enter Try.func32, Try.ntmps32
  have hz := zeroP
  go_upto_region 2 with (fail)
  clear hz
  rw [← HW3.out]
  try rw [hg]
  clear HW3 hg
  go_wp2_with fail
  go_loopg [9] 256 (fun q s9 wx => ∃ i : Nat, i ≤ 256 ∧ q = 256 - i ∧ s9 = .int .i64 (i : Int) ∧ Hid (∃ F, Fx [(g, 27, ca), (g + 1, 27, cb), (g + 1 + 1, 27, arr .u32 256 fun _ => 0)] .u32 256 w wx (g + 1 + 1 + 1) 27 F ∧ ∀ j, j < i → F j = comF op a b j))
  case atStart => exact ⟨0, Nat.zero_le _, rfl, rfl, Lib.hid ⟨_, H0.out, fun j hj => absurd hj (by omega)⟩⟩
  case round =>
    clear H0
    obtain ⟨i, hi, hq, rfl, HQ⟩ := hrel
    have HGQ := Lib.hid hq
    clear hq
    have hi0 : (0 : Int) ≤ (i : Int) := by omega
    obtain ⟨F, hT, hF⟩ := HQ.out
    by_cases hlt : i < 256
    · have hii : (i : Int) < 256 := by omega
      have HLT := Lib.hid hlt
      have hc1 : wr.cell? ⟨g, i, none⟩ = some (.int .u32 (a i)) := by
        rw [(hT.2.1 (g, 27, ca) (by simp)).cell]
        exact HCA.out i hlt
      have hc2 : wr.cell? ⟨g + 1, i, none⟩ = some (.int .u32 (b i)) := by
        rw [(hT.2.1 (g + 1, 27, cb) (by simp)).cell]
        exact HCB.out i hlt
      obtain ⟨x0, x1⟩ := HFA.out i
      obtain ⟨y0, y1⟩ := HFB.out i
      obtain ⟨wd, hwd⟩ : ∃ w', w' = wr.drew := ⟨_, rfl⟩
      have HWD := Lib.hid hwd
      have hT0 : Fx _ _ _ _ _ _ _ F := hT.drewN 1
      change Fx _ _ _ _ wr.drew _ _ _ at hT0
      have HS00 : Hid (wr.drew.cell? ⟨g, i, none⟩ = some (.int .u32 (a i)) ∧ wr.drew.cell? ⟨g + 1, i, none⟩ = some (.int .u32 (b i))) := Lib.hid ⟨hc1, hc2⟩
      rw [← hwd] at hT0 HS00
      have hc3 := hT0.2.2.at i hlt
      have hf3 := hT0.2.2.fr i
      have hT1 := hT0.put (by have := HGE.out; omega) (by intro x hx; simp at hx; rcases hx with rfl | rfl | rfl <;> simp <;> omega) i hlt (comF op a b i)
      have HT2 := Lib.hid (show ∃ F', Fx _ _ _ _ _ _ _ F' ∧ ∀ j, j < i + 1 → F' j = comF op a b j from ⟨_, hT1, fun j hj => by
        by_cases e1 : j = i
        · subst e1; rw [upd_at]
        · rw [upd_ne _ _ e1]; exact hF j (by omega)⟩)
      have HS11 : Hid ((wd.setCell ⟨g + 1 + 1 + 1, i, none⟩ (.int .u32 (comF op a b i))).cell? ⟨g, i, none⟩ = some (.int .u32 (a i)) ∧ (wd.setCell ⟨g + 1 + 1 + 1, i, none⟩ (.int .u32 (comF op a b i))).cell? ⟨g + 1, i, none⟩ = some (.int .u32 (b i))) := Lib.hid (by
        have hr1 := hT1.2.1 (g, 27, ca) (by simp)
        have hr2 := hT1.2.1 (g + 1, 27, cb) (by simp)
        exact ⟨by rw [hr1.cell]; exact HCA.out i hlt, by rw [hr2.cell]; exact HCB.out i hlt⟩)
      obtain ⟨y, hy⟩ : ∃ y, comF op a b i = y := ⟨_, rfl⟩
      have hyp : op (a i % 8380417) (b i % 8380417) % 8380417 = y := hy
      obtain ⟨p, hp⟩ : ∃ p, a i = p := ⟨_, rfl⟩
      obtain ⟨r, hr⟩ : ∃ p, b i = p := ⟨_, rfl⟩
      rw [hp, hr] at hyp
      rw [hp] at x0 x1 HS00 HS11
      rw [hr] at y0 y1 HS00 HS11
      rw [hy] at HS11 HT2
      obtain ⟨p1, hp1⟩ : ∃ x, p % 8380417 = x := ⟨_, rfl⟩
      obtain ⟨r1, hr1⟩ : ∃ x, r % 8380417 = x := ⟨_, rfl⟩
      have p10 : 0 ≤ p1 := by omega
      have p11 : p1 < 8380417 := by omega
      have r10 : 0 ≤ r1 := by omega
      have r11 : r1 < 8380417 := by omega
      have hpt : p.tmod 8380417 = p1 := by rw [Int.tmod_eq_emod_of_nonneg x0]; exact hp1
      have hrt : r.tmod 8380417 = r1 := by rw [Int.tmod_eq_emod_of_nonneg y0]; exact hr1
      rw [hp1, hr1] at hyp
      obtain ⟨o0, o1, hcl⟩ := HPO.out p1 r1 p10 p11 r10 r11
      obtain ⟨E, hE⟩ : ∃ E, op p1 r1 = E := ⟨_, rfl⟩
      rw [hE] at o0 o1 hcl hyp
      have HOP := Lib.hid hcl
      have hwp : IntKind.i64.wrap p1 = p1 := by rw [IntKind.wrap_i64]; omega
      have hwr2 : IntKind.i64.wrap r1 = r1 := by rw [IntKind.wrap_i64]; omega
      have hwp3 : IntKind.u32.wrap p1 = p1 := by rw [IntKind.wrap_u32]; omega
      have hwr3 : IntKind.u32.wrap r1 = r1 := by rw [IntKind.wrap_u32]; omega
      have HRE := Lib.hid (fun w => reduce_any E w o0 o1)
      rw [hyp] at HRE
      have HS0 := HS00
      have HS1 := HS11
      clear hT hT0 hF hT1 HQ hy hyp hlt hi hwd hp hr hE HS00 HS11 hc1 hc2 hcl hp1 hr1
      go_upto_region 5 with (fail)
      refine wp_region_held_drew (S := fun w' => w'.cell? ⟨g, i, none⟩ = some (.int .u32 p) ∧ w'.cell? ⟨g + 1, i, none⟩ = some (.int .u32 r)) (by kernel_rfl) (by rw [← HWD.out]; exact HS0.out) (fun hH => ?_)
      change wpAnyH _ _ _ _ _ _ _ _ (World.drew _)
      rw [← HWD.out]
      clear hH
      have hH := HS0.out
      clear HWD
      refine held_take 0 12 (v := .int .i64 (i : Int)) rfl rfl (by kernel_rfl) (by kernel_rfl) (by kernel_rfl) (fun _ _ _ h => h) (Or.inl ⟨by kernel_rfl, fun w _ => by kernel_rfl⟩) hH ?_
      (try simp only [List.setIfInBounds_toArray, List.set_cons_zero, List.set_cons_succ])
      refine held_take 1 13 (v := .func (.func fn) #[] more) rfl rfl (by kernel_rfl) (by kernel_rfl) (by kernel_rfl) (fun _ _ _ h => h) (Or.inl ⟨by kernel_rfl, fun w _ => by kernel_rfl⟩) hH ?_
      (try simp only [List.setIfInBounds_toArray, List.set_cons_zero, List.set_cons_succ])
      refine held_take 2 14 (v := .int .i64 (i : Int)) rfl rfl (by kernel_rfl) (by kernel_rfl) (by kernel_rfl) (fun _ _ _ h => h) (Or.inl ⟨by kernel_rfl, fun w _ => by kernel_rfl⟩) hH ?_
      (try simp only [List.setIfInBounds_toArray, List.set_cons_zero, List.set_cons_succ])
      refine held_take 3 15 (v := .pointer (some ⟨g, i, none⟩)) rfl rfl (by kernel_rfl) (by kernel_rfl) (by kernel_rfl) (fun _ _ _ h => h) (Or.inl ⟨by kernel_rfl, fun w _ => by go_simp⟩) hH ?_
      (try simp only [List.setIfInBounds_toArray, List.set_cons_zero, List.set_cons_succ])
      refine held_take 4 16 (v := .int .u32 p) rfl rfl (by kernel_rfl) (by kernel_rfl) (by kernel_rfl) (fun _ _ _ h => h) (Or.inl ⟨by kernel_rfl, fun w hSw => by
        have hcell := hSw.1
        go_simp⟩) hH ?_
      (try simp only [List.setIfInBounds_toArray, List.set_cons_zero, List.set_cons_succ])
      refine held_take 5 17 (v := .int .u32 p1) rfl rfl (by kernel_rfl) (by kernel_rfl) (by kernel_rfl) (fun _ _ _ h => h) (Or.inl ⟨by kernel_rfl, fun w _ => by go_simp⟩) hH ?_
      (try simp only [List.setIfInBounds_toArray, List.set_cons_zero, List.set_cons_succ])
      refine held_take 6 18 (v := .int .i64 p1) rfl rfl (by kernel_rfl) (by kernel_rfl) (by kernel_rfl) (fun _ _ _ h => h) (Or.inl ⟨by kernel_rfl, fun w _ => by go_simp⟩) hH ?_
      (try simp only [List.setIfInBounds_toArray, List.set_cons_zero, List.set_cons_succ])
      refine held_take 7 19 (v := .int .i64 (i : Int)) rfl rfl (by kernel_rfl) (by kernel_rfl) (by kernel_rfl) (fun _ _ _ h => h) (Or.inl ⟨by kernel_rfl, fun w _ => by kernel_rfl⟩) hH ?_
      (try simp only [List.setIfInBounds_toArray, List.set_cons_zero, List.set_cons_succ])
      refine held_take 8 20 (v := .pointer (some ⟨g + 1, i, none⟩)) rfl rfl (by kernel_rfl) (by kernel_rfl) (by kernel_rfl) (fun _ _ _ h => h) (Or.inl ⟨by kernel_rfl, fun w _ => by go_simp⟩) hH ?_
      (try simp only [List.setIfInBounds_toArray, List.set_cons_zero, List.set_cons_succ])
      refine held_take 9 21 (v := .int .u32 r) rfl rfl (by kernel_rfl) (by kernel_rfl) (by kernel_rfl) (fun _ _ _ h => h) (Or.inl ⟨by kernel_rfl, fun w hSw => by
        have hcell := hSw.2
        go_simp⟩) hH ?_
      (try simp only [List.setIfInBounds_toArray, List.set_cons_zero, List.set_cons_succ])
      refine held_take 10 22 (v := .int .u32 r1) rfl rfl (by kernel_rfl) (by kernel_rfl) (by kernel_rfl) (fun _ _ _ h => h) (Or.inl ⟨by kernel_rfl, fun w _ => by go_simp⟩) hH ?_
      (try simp only [List.setIfInBounds_toArray, List.set_cons_zero, List.set_cons_succ])
      refine held_take 11 23 (v := .int .i64 r1) rfl rfl (by kernel_rfl) (by kernel_rfl) (by kernel_rfl) (fun _ _ _ h => h) (Or.inl ⟨by kernel_rfl, fun w _ => by go_simp⟩) hH ?_
      (try simp only [List.setIfInBounds_toArray, List.set_cons_zero, List.set_cons_succ])
      refine wpAnyH_ready (rs := [12]) (by kernel_rfl) (by simp) ?_
      refine AllReadyH.cons rfl (fun K hK => ?_) AllReadyH.nil
      go_simp
      refine (HOP.out wd).mono ?_
      rintro e8 w8 ⟨rfl, hw8⟩
      rw [hw8]
      clear hw8
      refine hK.out _ _ HS0.out (fun hH => ?_)
      clear hK K
      refine wpAnyH_ready (rs := [13]) (by kernel_rfl) (by simp) ?_
      refine AllReadyH.cons rfl (fun K hK => ?_) AllReadyH.nil
      go_simp
      refine (HRE.out wd).mono ?_
      rintro e9 w9 ⟨rfl, hw9⟩
      rw [hw9]
      clear hw9
      refine hK.out _ _ HS0.out (fun hH => ?_)
      clear hK K
      refine held_take 14 26 (v := .pointer (some ⟨g + 1 + 1 + 1, i, none⟩)) rfl rfl (by kernel_rfl) (by kernel_rfl) (by kernel_rfl) (fun _ _ _ h => h) (Or.inl ⟨by kernel_rfl, fun w _ => by go_simp⟩) hH ?_
      (try simp only [List.setIfInBounds_toArray, List.set_cons_zero, List.set_cons_succ])
      refine wpAnyH_ready (rs := [15]) (by kernel_rfl) (by simp) ?_
      refine AllReadyH.cons rfl (fun K hK => ?_) AllReadyH.nil
      go_simp
      refine hK.out _ _ HS1.out (fun hH => ?_)
      clear hK K
      refine wpAnyH_done (by kernel_rfl) ?_ _
      go_simp
      go_wp2_with fail
      go_roundg (256 - (i + 1))
      case rel => exact ⟨i + 1, HLT.out, rfl, by go_num, HT2⟩
      case measure => have := HGQ.out; have := HLT.out; omega
    · obtain rfl : i = 256 := by omega
      have he : arr .u32 256 F = arr .u32 256 (comF op a b) := arr_ext fun j hj => hF j (by omega)
      have hr2 := hT.2.2
      have hr1 := hT.2.1 (g + 1 + 1, 27, arr .u32 256 fun _ => 0) (by simp)
      unfold LM at hr2
      rw [he] at hr2
      have hi2 := infP (comF op a b)
      have hs2 : (arr .u32 256 fun _ => 0).size = (arr .u32 256 (comF op a b)).size := by rw [arr_size, arr_size]
      have ho2 := arr_one .u32 256 (comF op a b)
      have HP := Lib.hid hT.1
      clear hT hF he HQ HCA HCB
      generalize hcc : arr .u32 256 (comF op a b) = c2 at *
      have HCC := Lib.hid hcc
      clear hcc
      generalize arr .u32 256 (fun _ => 0) = c1 at *
      simp only at hr1
      go_wp2_with (first | (refine wpList_load_row rfl 27 _ rfl (g + 1 + 1 + 1) rfl _ _ (0, 0) _ hr2 Try.underlying27 rfl hi2 ?_) | (refine wpList_store_row rfl 27 _ _ rfl (g + 1 + 1) _ rfl rfl _ _ hr1 hi2 hs2 ho2 ?_))
      refine bodyPost_ret (results_cell_row rfl _ _ (g + 1 + 1) _ c2 (0, 0) _ rfl (setRow_heap wr (g + 1 + 1) c1 c2 _ _ hr1) Try.underlying27 rfl hi2) rfl ?_
      exact ⟨by rw [HCC.out], below_setRow HP.out (by have := HGE.out; omega) _⟩
theorem addC (x y : Int) (x0 : 0 ≤ x) (x1 : x < 8380417) (y0 : 0 ≤ y) (y1 : y < 8380417) : -9223372036854775808 ≤ x + y ∧ x + y < 9223372036854775808 ∧ ∀ w', Calls Try.prog 35 (#[.int .i64 x, .int .i64 y] ++ #[]) w' fun e w'' => e = .returned (.int .i64 (x + y)) ∧ w'' = w' := by
  obtain ⟨E, hE⟩ : ∃ E, x + y = E := ⟨_, rfl⟩
  have hb : -9223372036854775808 ≤ E ∧ E < 9223372036854775808 := by
    rw [← hE]
    omega
  rw [hE]
  refine ⟨hb.1, hb.2, fun w' => ?_⟩
  have hwE : IntKind.i64.wrap (x + y) = E := by rw [hE, IntKind.wrap_i64]; omega
  clear hE
  show Calls _ _ #[.int .i64 x, .int .i64 y] _ _
  go_enter Try.func35, Try.ntmps35
  go_wp2_with fail
  go_ret
  exact ⟨rfl, rfl⟩
theorem subC (x y : Int) (x0 : 0 ≤ x) (x1 : x < 8380417) (y0 : 0 ≤ y) (y1 : y < 8380417) : -9223372036854775808 ≤ x - y ∧ x - y < 9223372036854775808 ∧ ∀ w', Calls Try.prog 34 (#[.int .i64 x, .int .i64 y] ++ #[]) w' fun e w'' => e = .returned (.int .i64 (x - y)) ∧ w'' = w' := by
  obtain ⟨E, hE⟩ : ∃ E, x - y = E := ⟨_, rfl⟩
  have hb : -9223372036854775808 ≤ E ∧ E < 9223372036854775808 := by
    rw [← hE]
    omega
  rw [hE]
  refine ⟨hb.1, hb.2, fun w' => ?_⟩
  have hwE : IntKind.i64.wrap (x - y) = E := by rw [hE, IntKind.wrap_i64]; omega
  clear hE
  show Calls _ _ #[.int .i64 x, .int .i64 y] _ _
  go_enter Try.func34, Try.ntmps34
  go_wp2_with fail
  go_ret
  exact ⟨rfl, rfl⟩
theorem mulC (x y : Int) (x0 : 0 ≤ x) (x1 : x < 8380417) (y0 : 0 ≤ y) (y1 : y < 8380417) : -9223372036854775808 ≤ x * y ∧ x * y < 9223372036854775808 ∧ ∀ w', Calls Try.prog 33 (#[.int .i64 x, .int .i64 y] ++ #[]) w' fun e w'' => e = .returned (.int .i64 (x * y)) ∧ w'' = w' := by
  obtain ⟨E, hE⟩ : ∃ E, x * y = E := ⟨_, rfl⟩
  have hb : -9223372036854775808 ≤ E ∧ E < 9223372036854775808 := by
    rw [← hE]
    have := mul_bd17 x0 x1 y0 y1; omega
  rw [hE]
  refine ⟨hb.1, hb.2, fun w' => ?_⟩
  have hwE : IntKind.i64.wrap (x * y) = E := by rw [hE, IntKind.wrap_i64]; omega
  clear hE
  show Calls _ _ #[.int .i64 x, .int .i64 y] _ _
  go_enter Try.func33, Try.ntmps33
  go_wp2_with fail
  go_ret
  exact ⟨rfl, rfl⟩
set_option maxHeartbeats 4000000 in
theorem padd_any (a b : Nat → Int) (ha : R32 a) (hb : R32 b) (w : World) : Calls Try.prog 19 #[.agg (arr .u32 256 a), .agg (arr .u32 256 b)] w fun e w' => e = .returned (.agg (arr .u32 256 (addF a b))) ∧ Past w w' := by
  have hent : ∀ args w, (callFunc 35 args).run Try.prog w = .ok (.enter 35 args) w := enters_of Try.func35 (by kernel_rfl) rfl
  have HC := Lib.hid (fun w => combined_any 35 _ #[] a b ha hb w hent addC)
  have hFe : addF a b = comF (fun x y => x + y) a b := addF_com a b
  have HE := Lib.hid (congrArg (arr .u32 256) hFe)
  rw [HE.out]
  clear hFe HE
  obtain ⟨g, hg⟩ : ∃ g, w.heap.size = g := ⟨_, rfl⟩
  obtain ⟨w3, hw3⟩ : ∃ w', w' = ((w.alloc (.cells (arr .u32 256 a) 27)).alloc (.cells (arr .u32 256 b) 27)).alloc (.cells (arr .u32 256 fun _ => 0) 27) := ⟨_, rfl⟩
  have H3 : Hid (Past w w3 ∧ Row w3 g 27 (arr .u32 256 a) ∧ Row w3 (g + 1) 27 (arr .u32 256 b) ∧ Row w3 (g + 1 + 1) 27 (arr .u32 256 fun _ => 0)) := Lib.hid (by
    have h := four_fx w 27 27 27 27 (arr .u32 256 a) (arr .u32 256 b) (arr .u32 256 fun _ => 0) .u32 256 fun _ => 0
    rw [hw3]
    exact ⟨(((Below.refl _ _).alloc (Nat.le_refl _) _).alloc (by simp) _).alloc (by simp; omega) _, by rw [← hg]; exact ((Row.new w _ _).alloc _).alloc _, by rw [← hg]; have := (Row.new (w.alloc (.cells (arr .u32 256 a) 27)) 27 (arr .u32 256 b)).alloc (.cells (arr .u32 256 fun _ => 0) 27); simpa using this, by rw [← hg]; have := Row.new ((w.alloc (.cells (arr .u32 256 a) 27)).alloc (.cells (arr .u32 256 b) 27)) 27 (arr .u32 256 fun _ => 0); simpa using this⟩)
  have HGE : Hid (w.heap.size = g) := Lib.hid hg
  have HW3 := Lib.hid hw3
  have hia := infP a
  have hib := infP b
  have hic := infP (comF (fun x y => x + y) a b)
  have hsc : (arr .u32 256 fun _ => 0).size = (arr .u32 256 (comF (fun x y => x + y) a b)).size := by rw [arr_size, arr_size]
  have hoc := arr_one .u32 256 (comF (fun x y => x + y) a b)
  clear hw3 ha hb hent
  generalize arr .u32 256 a = ca at *
  generalize arr .u32 256 b = cb at *
  generalize arr .u32 256 (comF (fun x y => x + y) a b) = cc at *
  go_enter Try.func19, Try.ntmps19
  have hz := zeroP
  go_upto_region 1 with (fail)
  clear hz
  rw [← HW3.out]
  try rw [hg]
  clear HW3 hg
  generalize arr .u32 256 (fun _ => 0) = cz at *
  have hr1 := H3.out.2.1
  have hr2 := H3.out.2.2.1
  go_wp2_with (first | (refine wpList_load_row rfl 27 _ rfl g rfl _ _ (0, 0) _ hr1 Try.underlying27 rfl hia ?_) | (refine wpList_load_row rfl 27 _ rfl (g + 1) rfl _ _ (0, 0) _ hr2 Try.underlying27 rfl hib ?_))
  refine (HC.out _).mono ?_
  rintro e w4 ⟨rfl, hp⟩
  have hr4 := H3.out.2.2.2.past hp
  have HP4 := Lib.hid (H3.out.1.trans' hp)
  clear hp hr1 hr2
  go_wp2_with (refine wpList_store_row rfl 27 _ _ rfl (g + 1 + 1) _ rfl rfl _ _ hr4 hic hsc hoc ?_)
  refine bodyPost_ret (results_cell_row rfl _ _ (g + 1 + 1) _ cc (0, 0) _ rfl (setRow_heap w4 (g + 1 + 1) cz cc _ _ hr4) Try.underlying27 rfl hic) rfl ?_
  exact ⟨rfl, below_setRow HP4.out (by have := HGE.out; omega) _⟩
set_option maxHeartbeats 4000000 in
theorem psub_any (a b : Nat → Int) (ha : R32 a) (hb : R32 b) (w : World) : Calls Try.prog 18 #[.agg (arr .u32 256 a), .agg (arr .u32 256 b)] w fun e w' => e = .returned (.agg (arr .u32 256 (subF a b))) ∧ Past w w' := by
  have hent : ∀ args w, (callFunc 34 args).run Try.prog w = .ok (.enter 34 args) w := enters_of Try.func34 (by kernel_rfl) rfl
  have HC := Lib.hid (fun w => combined_any 34 _ #[] a b ha hb w hent subC)
  have hFe : subF a b = comF (fun x y => x - y) a b := subF_com a b
  have HE := Lib.hid (congrArg (arr .u32 256) hFe)
  rw [HE.out]
  clear hFe HE
  obtain ⟨g, hg⟩ : ∃ g, w.heap.size = g := ⟨_, rfl⟩
  obtain ⟨w3, hw3⟩ : ∃ w', w' = ((w.alloc (.cells (arr .u32 256 a) 27)).alloc (.cells (arr .u32 256 b) 27)).alloc (.cells (arr .u32 256 fun _ => 0) 27) := ⟨_, rfl⟩
  have H3 : Hid (Past w w3 ∧ Row w3 g 27 (arr .u32 256 a) ∧ Row w3 (g + 1) 27 (arr .u32 256 b) ∧ Row w3 (g + 1 + 1) 27 (arr .u32 256 fun _ => 0)) := Lib.hid (by
    have h := four_fx w 27 27 27 27 (arr .u32 256 a) (arr .u32 256 b) (arr .u32 256 fun _ => 0) .u32 256 fun _ => 0
    rw [hw3]
    exact ⟨(((Below.refl _ _).alloc (Nat.le_refl _) _).alloc (by simp) _).alloc (by simp; omega) _, by rw [← hg]; exact ((Row.new w _ _).alloc _).alloc _, by rw [← hg]; have := (Row.new (w.alloc (.cells (arr .u32 256 a) 27)) 27 (arr .u32 256 b)).alloc (.cells (arr .u32 256 fun _ => 0) 27); simpa using this, by rw [← hg]; have := Row.new ((w.alloc (.cells (arr .u32 256 a) 27)).alloc (.cells (arr .u32 256 b) 27)) 27 (arr .u32 256 fun _ => 0); simpa using this⟩)
  have HGE : Hid (w.heap.size = g) := Lib.hid hg
  have HW3 := Lib.hid hw3
  have hia := infP a
  have hib := infP b
  have hic := infP (comF (fun x y => x - y) a b)
  have hsc : (arr .u32 256 fun _ => 0).size = (arr .u32 256 (comF (fun x y => x - y) a b)).size := by rw [arr_size, arr_size]
  have hoc := arr_one .u32 256 (comF (fun x y => x - y) a b)
  clear hw3 ha hb hent
  generalize arr .u32 256 a = ca at *
  generalize arr .u32 256 b = cb at *
  generalize arr .u32 256 (comF (fun x y => x - y) a b) = cc at *
  go_enter Try.func18, Try.ntmps18
  have hz := zeroP
  go_upto_region 1 with (fail)
  clear hz
  rw [← HW3.out]
  try rw [hg]
  clear HW3 hg
  generalize arr .u32 256 (fun _ => 0) = cz at *
  have hr1 := H3.out.2.1
  have hr2 := H3.out.2.2.1
  go_wp2_with (first | (refine wpList_load_row rfl 27 _ rfl g rfl _ _ (0, 0) _ hr1 Try.underlying27 rfl hia ?_) | (refine wpList_load_row rfl 27 _ rfl (g + 1) rfl _ _ (0, 0) _ hr2 Try.underlying27 rfl hib ?_))
  refine (HC.out _).mono ?_
  rintro e w4 ⟨rfl, hp⟩
  have hr4 := H3.out.2.2.2.past hp
  have HP4 := Lib.hid (H3.out.1.trans' hp)
  clear hp hr1 hr2
  go_wp2_with (refine wpList_store_row rfl 27 _ _ rfl (g + 1 + 1) _ rfl rfl _ _ hr4 hic hsc hoc ?_)
  refine bodyPost_ret (results_cell_row rfl _ _ (g + 1 + 1) _ cc (0, 0) _ rfl (setRow_heap w4 (g + 1 + 1) cz cc _ _ hr4) Try.underlying27 rfl hic) rfl ?_
  exact ⟨rfl, below_setRow HP4.out (by have := HGE.out; omega) _⟩
set_option maxHeartbeats 4000000 in
theorem pmul_any (a b : Nat → Int) (ha : R32 a) (hb : R32 b) (w : World) : Calls Try.prog 15 #[.agg (arr .u32 256 a), .agg (arr .u32 256 b)] w fun e w' => e = .returned (.agg (arr .u32 256 (mulF a b))) ∧ Past w w' := by
  have hent : ∀ args w, (callFunc 33 args).run Try.prog w = .ok (.enter 33 args) w := enters_of Try.func33 (by kernel_rfl) rfl
  have HC := Lib.hid (fun w => combined_any 33 _ #[] a b ha hb w hent mulC)
  have hFe : mulF a b = comF (fun x y => x * y) a b := mulF_com a b
  have HE := Lib.hid (congrArg (arr .u32 256) hFe)
  rw [HE.out]
  clear hFe HE
  obtain ⟨g, hg⟩ : ∃ g, w.heap.size = g := ⟨_, rfl⟩
  obtain ⟨w3, hw3⟩ : ∃ w', w' = ((w.alloc (.cells (arr .u32 256 a) 27)).alloc (.cells (arr .u32 256 b) 27)).alloc (.cells (arr .u32 256 fun _ => 0) 27) := ⟨_, rfl⟩
  have H3 : Hid (Past w w3 ∧ Row w3 g 27 (arr .u32 256 a) ∧ Row w3 (g + 1) 27 (arr .u32 256 b) ∧ Row w3 (g + 1 + 1) 27 (arr .u32 256 fun _ => 0)) := Lib.hid (by
    have h := four_fx w 27 27 27 27 (arr .u32 256 a) (arr .u32 256 b) (arr .u32 256 fun _ => 0) .u32 256 fun _ => 0
    rw [hw3]
    exact ⟨(((Below.refl _ _).alloc (Nat.le_refl _) _).alloc (by simp) _).alloc (by simp; omega) _, by rw [← hg]; exact ((Row.new w _ _).alloc _).alloc _, by rw [← hg]; have := (Row.new (w.alloc (.cells (arr .u32 256 a) 27)) 27 (arr .u32 256 b)).alloc (.cells (arr .u32 256 fun _ => 0) 27); simpa using this, by rw [← hg]; have := Row.new ((w.alloc (.cells (arr .u32 256 a) 27)).alloc (.cells (arr .u32 256 b) 27)) 27 (arr .u32 256 fun _ => 0); simpa using this⟩)
  have HGE : Hid (w.heap.size = g) := Lib.hid hg
  have HW3 := Lib.hid hw3
  have hia := infP a
  have hib := infP b
  have hic := infP (comF (fun x y => x * y) a b)
  have hsc : (arr .u32 256 fun _ => 0).size = (arr .u32 256 (comF (fun x y => x * y) a b)).size := by rw [arr_size, arr_size]
  have hoc := arr_one .u32 256 (comF (fun x y => x * y) a b)
  clear hw3 ha hb hent
  generalize arr .u32 256 a = ca at *
  generalize arr .u32 256 b = cb at *
  generalize arr .u32 256 (comF (fun x y => x * y) a b) = cc at *
  go_enter Try.func15, Try.ntmps15
  have hz := zeroP
  go_upto_region 1 with (fail)
  clear hz
  rw [← HW3.out]
  try rw [hg]
  clear HW3 hg
  generalize arr .u32 256 (fun _ => 0) = cz at *
  have hr1 := H3.out.2.1
  have hr2 := H3.out.2.2.1
  go_wp2_with (first | (refine wpList_load_row rfl 27 _ rfl g rfl _ _ (0, 0) _ hr1 Try.underlying27 rfl hia ?_) | (refine wpList_load_row rfl 27 _ rfl (g + 1) rfl _ _ (0, 0) _ hr2 Try.underlying27 rfl hib ?_))
  refine (HC.out _).mono ?_
  rintro e w4 ⟨rfl, hp⟩
  have hr4 := H3.out.2.2.2.past hp
  have HP4 := Lib.hid (H3.out.1.trans' hp)
  clear hp hr1 hr2
  go_wp2_with (refine wpList_store_row rfl 27 _ _ rfl (g + 1 + 1) _ rfl rfl _ _ hr4 hic hsc hoc ?_)
  refine bodyPost_ret (results_cell_row rfl _ _ (g + 1 + 1) _ cc (0, 0) _ rfl (setRow_heap w4 (g + 1 + 1) cz cc _ _ hr4) Try.underlying27 rfl hic) rfl ?_
  exact ⟨rfl, below_setRow HP4.out (by have := HGE.out; omega) _⟩
end Go.Proofs.Ytngbmaojgfocgaa.dr
