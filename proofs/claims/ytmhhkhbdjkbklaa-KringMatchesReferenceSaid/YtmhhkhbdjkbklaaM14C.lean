/- The program's Valid, makePowers, Root. -/
import Derived.Test.YtmhhkhbdjkbklaaM14B
namespace Go.Proofs.Ytmhhkhbdjkbklaa
open Go.RowKit
set_option linter.unusedVariables false

theorem valid_eq (f : Nat → Int) (hf : R16 f) : (eqB 256 f (addF f fun _ => 0) = true) ↔ ∀ j, j < 256 → f j < 3329 := by
  unfold eqB
  rw [List.all_eq_true]
  constructor
  · intro h j hj
    have e : f j = (f j + 0) % 3329 := by simpa [addF] using h j (List.mem_range.2 hj)
    omega
  · intro h j hj
    have h1 := h j (List.mem_range.1 hj)
    have h2 := hf j
    have e : f j = (f j + 0) % 3329 := by omega
    simpa [addF] using e
theorem runEqP (f g : Nat → Int) (w : World) : (Op.equalIn 10000 28 (.agg (arr .u16 256 f)) (.agg (arr .u16 256 g))).run Try.prog w = .ok (eqB 256 f g) w := by
  obtain ⟨i, hi, hz⟩ : ∃ i, Try.prog.info? 25 = some i ∧ i.size = 1 := by
    cases hq : Try.prog.info? 25 with
    | none =>
      have : (Try.prog.info? 25).isSome = true := by kernel_rfl
      rw [hq] at this
      cases this
    | some i =>
      have : (Try.prog.info? 25).map (·.size) = some 1 := by kernel_rfl
      rw [hq] at this
      exact ⟨i, rfl, by simpa using this⟩
  exact run_eq_arr w Try.underlying28 Try.underlying25 hi hz
theorem runIndex (f : Nat → Int) (j : Nat) (hj : j < 256) (w : World) : (Instr.index 26 (.agg (arr .u16 256 f)) (.int .i64 (j : Int))).run Try.prog w = .ok (.int .u16 (f j)) w := by
  obtain ⟨i, hi, hz⟩ : ∃ i, Try.prog.info? 25 = some i ∧ i.size = 1 := by
    cases hq : Try.prog.info? 25 with
    | none =>
      have : (Try.prog.info? 25).isSome = true := by kernel_rfl
      rw [hq] at this
      cases this
    | some i =>
      have : (Try.prog.info? 25).map (·.size) = some 1 := by kernel_rfl
      rw [hq] at this
      exact ⟨i, rfl, by simpa using this⟩
  exact run_index_cells w Try.underlying26 Try.underlying25 hi hz (j : Int) (by omega) (by omega) (arr_get .u16 256 f j hj)
set_option maxHeartbeats 4000000 in
set_option maxRecDepth 100000 in
theorem pvalid_any (f : Nat → Int) (hf : R16 f) (w : World) : Calls Try.prog 14 #[.agg (arr .u16 256 f)] w fun e w' => ∃ v, e = .returned (.bool v) ∧ (v = true ↔ ∀ j, j < 256 → f j < 3329) ∧ Past w w' := by
  have HA := Lib.hid (fun w => padd_any f (fun _ => 0) hf (fun _ => by simp) w)
  have heq := runEqP f (addF f fun _ => 0)
  have heg := egP
  have HV := Lib.hid (valid_eq f hf)
  have hlf := (lst_len f).2
  have HSZ : Hid ((arr .u16 256 fun _ => 0).size = 256) := Lib.hid (arr_size _ _ _)
  have HRL := Lib.hid (fun (w : World) (g : Nat) (h : Row w g 28 (arr .u16 256 f)) => row_lst h)
  have hz := zeroP
  simp only [arr_lst] at HA heq HSZ HRL hz ⊢
  generalize eqB 256 f (addF f fun _ => 0) = v at *
  have hwant : ∀ e w', (e = Ending.returned (.bool v) ∧ (v = true ↔ ∀ j, j < 256 → f j < 3329) ∧ Past w w') → ∃ v, e = .returned (.bool v) ∧ (v = true ↔ ∀ j, j < 256 → f j < 3329) ∧ Past w w' := fun e w' h => ⟨v, h⟩
  refine Calls.mono ?_ hwant
  clear hwant
  generalize lst f = lf at *
  generalize lst (addF f fun _ => 0) = la at *
  generalize (lst fun _ => 0) = lz at *
  have hne : ¬ lz.toArray = #[] := by
    intro e
    have h1 := HSZ.out
    rw [e] at h1
    simp at h1
  have hne2 : ¬ lz = [] := by
    intro e
    have h1 := HSZ.out
    rw [e] at h1
    simp at h1
  go_enter Try.func14, Try.ntmps14
  obtain ⟨g, hg⟩ : ∃ g, w.heap.size = g := ⟨_, rfl⟩
  obtain ⟨w1, hw1⟩ : ∃ w', w.alloc (.cells lf.toArray 28) = w' := ⟨_, rfl⟩
  have HP1 : Hid (Past w w1) := Lib.hid (by rw [← hw1]; exact (Below.refl _ w).alloc (Nat.le_refl _) _)
  have HR1 : Hid (Row w1 g 28 lf.toArray) := Lib.hid (by rw [← hw1, ← hg]; exact Row.new _ _ _)
  go_upto_region 1 with (fail)
  try rw [hw1]
  try rw [hg]
  clear hw1 hg
  have HSK : Hid (∀ w', Past w1 w' → w'.rangeAt g 0 lf) := Lib.hid (fun w' h => HRL.out _ _ (HR1.out.past h))
  have HPD : Hid (Past w1 w1.drew) := Lib.hid (Past.drewN (Below.refl _ w1) 1)
  refine wp_region_held_drew (S := fun w' => w'.rangeAt g 0 lf) (by kernel_rfl) (HSK.out _ HPD.out) (fun hH => ?_)
  refine held_take 0 3 rfl rfl (by kernel_rfl) (by kernel_rfl) (by kernel_rfl) (fun _ _ _ h => h) (yieldsIf_load_mid (by kernel_rfl) 28 (.tmp 1) rfl g 0 rfl lf _ (fun _ h => h) Try.underlying28 rfl hlf) hH ?_
  refine held_take 1 4 rfl rfl (by kernel_rfl) (by kernel_rfl) (by kernel_rfl) (fun _ _ _ h => h) (yieldsIf_load_mid (by kernel_rfl) 28 (.tmp 1) rfl g 0 rfl lf _ (fun _ h => h) Try.underlying28 rfl hlf) hH ?_
  refine held_take 2 5 (v := .agg lz.toArray) rfl rfl (by kernel_rfl) (by kernel_rfl) (by kernel_rfl) (fun _ _ _ h => h) (Or.inl ⟨by kernel_rfl, fun w _ => by go_simp⟩) hH ?_
  refine wpAnyH_ready (rs := [3]) (by kernel_rfl) (by simp) ?_
  refine AllReadyH.cons rfl (fun K hK => ?_) AllReadyH.nil
  go_simp
  refine (HA.out w1.drew).mono ?_
  rintro e1 wc1 ⟨rfl, hp⟩
  have HPc1 : Hid (Past w1 wc1) := Lib.hid (HPD.out.trans' hp)
  clear hp
  refine hK.out _ _ (HSK.out _ HPc1.out) (fun hH => ?_)
  clear hK K
  refine held_take 4 7 (v := .bool v) rfl rfl (by kernel_rfl) (by kernel_rfl) (by kernel_rfl) (fun _ _ _ h => h) (Or.inl ⟨by kernel_rfl, fun w _ => by go_simp⟩) hH ?_
  refine held_take 5 2 (v := .bool v) rfl rfl (by kernel_rfl) (by kernel_rfl) (by kernel_rfl) (fun _ _ _ h => h) (Or.inl ⟨by kernel_rfl, fun w _ => by kernel_rfl⟩) hH ?_
  refine wpAnyH_done (by kernel_rfl) ?_ _
  go_simp
  go_wp2_with fail
  go_ret
  exact ⟨rfl, HV.out, HP1.out.trans' HPc1.out⟩
set_option maxHeartbeats 4000000 in
set_option maxRecDepth 100000 in
theorem ppowers_any (w : World) : Calls Try.prog 24 #[] w fun e w' => e = .returned (.agg (arr .u16 256 pw)) ∧ Past w w' := by
  obtain ⟨g, hg⟩ : ∃ g, w.heap.size = g := ⟨_, rfl⟩
  obtain ⟨w2, hw2⟩ : ∃ w', w' = (w.alloc (.cells (arr .u16 256 fun _ => 0) 26)).alloc (.cells (arr .u16 256 fun _ => 0) 26) := ⟨_, rfl⟩
  have H0 : Hid (Fx [(g, 26, arr .u16 256 fun _ => 0)] .u16 256 w w2 (g + 1) 26 fun _ => 0) := Lib.hid (by
    have p1 : Past w (w.alloc (.cells (arr .u16 256 fun _ => 0) 26)) := (Below.refl _ w).alloc (Nat.le_refl _) _
    have r1 := Row.new w 26 (arr .u16 256 fun _ => 0)
    have r2 := Row.new (w.alloc (.cells (arr .u16 256 fun _ => 0) 26)) 26 (arr .u16 256 fun _ => 0)
    rw [World.size_alloc] at r2
    rw [hg] at r1 r2
    rw [hw2]
    refine ⟨p1.alloc (by simp) _, ?_, r2⟩
    intro x hx
    rcases List.mem_cons.1 hx with rfl | hx
    · exact r1.alloc _
    · cases hx)
  have HGE : Hid (w.heap.size = g) := Lib.hid hg
  have HW2 := Lib.hid hw2
  clear hw2
  go_enter Try.func24, Try.ntmps24
  have hz := zero256
  go_upto_region 2 with (fail)
  clear hz
  rw [← HW2.out]
  try rw [hg]
  clear HW2 hg
  go_wp2_with fail
  go_loopg [2, 4] 256 (fun q s2 s4 wx => ∃ (k : Nat) (x : Int), k ≤ 256 ∧ q = 256 - k ∧ s2 = .int .u16 x ∧ s4 = .int .i64 (k : Int) ∧ 0 ≤ x ∧ x < 3329 ∧ Hid (x = pw k) ∧ Hid (∃ F, Fx [(g, 26, arr .u16 256 fun _ => 0)] .u16 256 w wx (g + 1) 26 F ∧ ∀ j, j < k → F j = pw j))
  case atStart => exact ⟨0, 1, Nat.zero_le _, rfl, rfl, rfl, by decide, by decide, Lib.hid (by decide +kernel), Lib.hid ⟨_, H0.out, fun j hj => absurd hj (by omega)⟩⟩
  case round =>
    clear H0
    obtain ⟨k, x, hk, hq, rfl, rfl, x0, x1, HX, HQ⟩ := hrel
    have HGQ := Lib.hid hq
    clear hq
    have hk0 : (0 : Int) ≤ (k : Int) := by omega
    obtain ⟨F, hT, hF⟩ := HQ.out
    by_cases hlt : k < 256
    · have hkk : (k : Int) < 256 := by omega
      have HLT := Lib.hid hlt
      have hc1 := hT.2.2.at k hlt
      have hf1 := hT.2.2.fr k
      have hT1 := hT.put (by have := HGE.out; omega) (by intro x hx; simp at hx; rcases hx with rfl; simp) k hlt x
      have HT2 := Lib.hid (show ∃ F', Fx _ _ _ _ _ _ _ F' ∧ ∀ j, j < k + 1 → F' j = pw j from ⟨_, hT1, fun j hj => by
        by_cases e1 : j = k
        · subst e1; rw [upd_at]; exact HX.out
        · rw [upd_ne _ _ e1]; exact hF j (by omega)⟩)
      obtain ⟨m, hm⟩ : ∃ m, 17 * x = m := ⟨_, rfl⟩
      have hwm : IntKind.i64.wrap (17 * x) = m := by rw [hm, IntKind.wrap_i64]; omega
      have hwx : IntKind.i64.wrap x = x := by rw [IntKind.wrap_i64]; omega
      obtain ⟨y, hy⟩ : ∃ y, m % 3329 = y := ⟨_, rfl⟩
      have HRE := Lib.hid (fun w => reduce_any m w (by omega) (by omega))
      rw [hy] at HRE
      have HY : Hid (y = pw (k + 1) ∧ 0 ≤ y ∧ y < 3329) := Lib.hid ⟨by rw [pw_succ, ← HX.out, hm, hy], by omega, by omega⟩
      clear hT hF hT1 HQ hlt hk hy HX
      go_wp2_with fail
      refine (HRE.out _).mono ?_
      rintro e w4 ⟨rfl, hw4⟩
      rw [hw4]
      clear hw4 HRE w4
      go_wp2_with fail
      go_roundg (256 - (k + 1))
      case rel => exact ⟨k + 1, y, HLT.out, rfl, rfl, by go_num, HY.out.2.1, HY.out.2.2, Lib.hid HY.out.1, HT2⟩
      case measure => have := HGQ.out; have := HLT.out; omega
    · obtain rfl : k = 256 := by omega
      have he : arr .u16 256 F = arr .u16 256 pw := arr_ext fun j hj => hF j (by omega)
      have hr2 := hT.2.2
      have hr1 := hT.2.1 (g, 26, arr .u16 256 fun _ => 0) (by simp)
      unfold LM at hr2
      rw [he] at hr2
      have hi2 := inf256 pw
      have hs2 : (arr .u16 256 fun _ => 0).size = (arr .u16 256 pw).size := by rw [arr_size, arr_size]
      have ho2 := arr_one .u16 256 pw
      have HP := Lib.hid hT.1
      clear hT hF he HQ
      generalize hcc : arr .u16 256 pw = c2 at *
      have HCC := Lib.hid hcc
      clear hcc
      generalize arr .u16 256 (fun _ => 0) = c1 at *
      simp only at hr1
      go_wp2_with (first | (refine wpList_load_row rfl 26 _ rfl (g + 1) rfl _ _ (0, 0) _ hr2 Try.underlying26 rfl hi2 ?_) | (refine wpList_store_row rfl 26 _ _ rfl g _ rfl rfl _ _ hr1 hi2 hs2 ho2 ?_))
      refine bodyPost_ret (results_cell_row rfl _ _ g _ c2 (0, 0) _ rfl (setRow_heap wr g c1 c2 _ _ hr1) Try.underlying26 rfl hi2) rfl ?_
      exact ⟨by rw [HCC.out], below_setRow HP.out (by have := HGE.out; omega) _⟩
set_option maxHeartbeats 4000000 in
theorem prootIn_any (i : Nat) (hi : i < 128) (w : World) : Calls Try.prog 21 #[.int .i64 (i : Int)] w fun e w' => e = .returned (.tuple #[.int .u16 (rt i), .bool true]) ∧ Past w w' := by
  have h0 : ¬ (i : Int) < 0 := by omega
  have h1 : ¬ (128 : Int) ≤ (i : Int) := by omega
  have h2 : (i : Int) < 128 := by omega
  have HPW := Lib.hid (fun w => ppowers_any w)
  have HRV := Lib.hid (fun w => exponent_any i hi w)
  have hb := rv7_lt i
  have hix := runIndex pw (2 * rv7 i + 1) (by omega)
  change ∀ w : World, _ = Result.ok (Value.int IntKind.u16 (rt i)) w at hix
  generalize rt i = z at *
  obtain ⟨m, hm⟩ : ∃ m, 2 * rv7 i + 1 = m := ⟨_, rfl⟩
  rw [hm] at HRV hix
  generalize arr .u16 256 pw = cp at *
  clear hi hm hb
  go_enter Try.func21, Try.ntmps21
  go_wp2_with fail
  refine (HPW.out w).mono ?_
  rintro e w1 ⟨rfl, hp⟩
  have H1 := Lib.hid hp
  clear hp
  go_wp2_with fail
  refine (HRV.out w1).mono ?_
  rintro e w2 ⟨rfl, hw⟩
  rw [hw]
  clear hw
  go_wp2_with fail
  go_ret2
  exact ⟨rfl, H1.out⟩
theorem prootOut_any (i : Int) (h : i < 0 ∨ 127 < i) (w : World) : Calls Try.prog 21 #[.int .i64 i] w fun e w' => e = .returned (.tuple #[.int .u16 0, .bool false]) ∧ Past w w' := by
  rcases h with h | h
  · go_enter Try.func21, Try.ntmps21
    go_wp2_with fail
    go_ret2
    exact ⟨rfl, Below.refl _ _⟩
  · have h0 : ¬ i < 0 := by omega
    have h1 : (128 : Int) ≤ i := by omega
    clear h
    go_enter Try.func21, Try.ntmps21
    go_wp2_with fail
    go_ret2
    exact ⟨rfl, Below.refl _ _⟩
end Go.Proofs.Ytmhhkhbdjkbklaa
