/- The program's Reduce, reversed, splitter, makePowers, Root. -/
import Derived.Test.YtngbmaojgfocgaaP17
import Derived.Test.YtngbmaojgfocgaaAwake17
import Derived.IntWalk
namespace Go.Proofs.Ytngbmaojgfocgaa.dr
open Go.RowKit
set_option linter.unusedVariables false

theorem reduce_any (n : Int) (w : World) (h0 : -9223372036854775808 ≤ n) (h1 : n < 9223372036854775808) : Calls Try.prog 21 #[.int .i64 n] w fun e w' => e = .returned (.int .u32 (n % 8380417)) ∧ w' = w := by
  obtain ⟨x, hx⟩ : ∃ x, n % 8380417 = x := ⟨_, rfl⟩
  have x0 : 0 ≤ x := by omega
  have x1 : x < 8380417 := by omega
  obtain ⟨t, ht⟩ : ∃ t, n.tmod 8380417 = t := ⟨_, rfl⟩
  have htx : (0 ≤ t ∧ t = x) ∨ (t < 0 ∧ t = x - 8380417) := by
    rcases (show 0 ≤ n ∨ n < 0 by omega) with h | h
    · rw [Int.tmod_eq_emod_of_nonneg h] at ht
      omega
    · have := Int.tmod_eq_emod (a := n) (b := 8380417)
      rw [ht] at this
      split at this <;> omega
  have hwx : IntKind.u32.wrap x = x := by rw [IntKind.wrap_u32]; omega
  have hwt : IntKind.i64.wrap t = t := by rw [IntKind.wrap_i64]; omega
  rw [hx]
  rcases htx with ⟨h2, h3⟩ | ⟨h2, h3⟩
  · subst h3
    clear hx
    go_enter Try.func21, Try.ntmps21
    go_wp2_with fail
    go_ret
    exact ⟨rfl, rfl⟩
  · have hs : t + 8380417 = x := by omega
    have hws : IntKind.i64.wrap (t + 8380417) = x := by rw [IntKind.wrap_i64]; omega
    clear hx h3
    go_enter Try.func21, Try.ntmps21
    go_wp2_with fail
    go_ret
    exact ⟨rfl, rfl⟩
set_option maxHeartbeats 4000000 in
set_option maxRecDepth 100000 in
theorem reverse8_any (i : Nat) (hi : i < 256) (w : World) : Calls Try.prog 37 #[.int .u8 (i : Int)] w fun e w' => e = .returned (.int .u8 ((rv8 i : Nat) : Int)) ∧ w' = w := by
  have hi0 : (0 : Int) ≤ (i : Int) := by omega
  have hi1 : (i : Int) < 256 := by omega
  go_enter Try.func37, Try.ntmps37
  go_wp2_with fail
  go_ret
  refine ⟨?_, rfl⟩
  refine congrArg (fun x : Nat => Ending.returned (Value.int .u8 (x : Int))) ?_
  obtain ⟨k, rfl⟩ : ∃ k : Fin 256, k.val = i := ⟨⟨i, hi⟩, rfl⟩
  revert k
  decide +kernel
set_option maxHeartbeats 4000000 in
theorem reversed_any (i : Nat) (hi : i < 256) (w : World) : Calls Try.prog 36 #[.int .i64 (i : Int)] w fun e w' => e = .returned (.int .i64 ((rv8 i : Nat) : Int)) ∧ w' = w := by
  have hi0 : (0 : Int) ≤ (i : Int) := by omega
  have hi1 : (i : Int) < 256 := by omega
  have HR := Lib.hid (fun w => reverse8_any i hi w)
  have hb := rv8_lt i
  generalize rv8 i = r at *
  have r0 : (0 : Int) ≤ (r : Int) := by omega
  have r1 : (r : Int) < 256 := by omega
  have hw : IntKind.u8.wrap (i : Int) = (i : Int) := by rw [IntKind.wrap_u8]; omega
  have hw2 : IntKind.i64.wrap (r : Int) = (r : Int) := by rw [IntKind.wrap_i64]; omega
  have hw3 : wrap64 (r : Int) = (r : Int) := IntWalk.wrap64_in _ (by omega)
  clear hi hb
  go_enter Try.func36, Try.ntmps36
  go_wp2_with fail
  refine (HR.out w).mono ?_
  rintro e w1 ⟨rfl, hw1⟩
  rw [hw1]
  clear hw1
  go_wp2_with fail
  go_ret
  exact ⟨rfl, rfl⟩
set_option maxHeartbeats 4000000 in
theorem splitter_any (s m i : Nat) (hs : 0 < s) (hm : 128 / s = m) (hi : m + i < 256) (hs2 : s ≤ 128) (w : World) : Calls Try.prog 29 #[.int .i64 (s : Int), .int .i64 (i : Int)] w fun e w' => e = .returned (.int .i64 ((rv8 (m + i) : Nat) : Int)) ∧ w' = w := by
  have HR := Lib.hid (fun w => reversed_any (m + i) hi w)
  have hs0 : ¬ (s : Int) = 0 := by omega
  have hs1 : (0 : Int) < (s : Int) := by omega
  have hd : (128 : Int).tdiv (s : Int) = (m : Int) := by rw [← hm]; rfl
  have hd2 : (128 : Int) / (s : Int) = (m : Int) := by rw [← hm]; rfl
  obtain ⟨n, hn⟩ : ∃ n, m + i = n := ⟨_, rfl⟩
  have hnI : (m : Int) + (i : Int) = (n : Int) := by omega
  have hw : IntKind.i64.wrap ((m : Int) + (i : Int)) = (n : Int) := by rw [IntKind.wrap_i64]; omega
  have hw2 : IntKind.i64.wrap (m : Int) = (m : Int) := by rw [IntKind.wrap_i64]; omega
  have hsb : (s : Int) ≤ 128 := by omega
  have hw3 : wrap64 (n : Int) = (n : Int) := IntWalk.wrap64_in _ (by omega)
  have hw4 : wrap64 (m : Int) = (m : Int) := IntWalk.wrap64_in _ (by omega)
  rw [hn] at HR ⊢
  clear hm hi hn hs
  go_enter Try.func29, Try.ntmps29
  go_wp2_with fail
  refine (HR.out w).mono ?_
  rintro e w1 ⟨rfl, hw1⟩
  rw [hw1]
  clear hw1
  go_wp2_with fail
  go_ret
  exact ⟨rfl, rfl⟩
theorem zero512 (w : World) : (zeroValue 44).run Try.prog w = .ok (.agg (arr .u32 512 fun _ => 0)) w := by kernel_rfl
theorem inf512 (f : Nat → Int) : (Try.prog.info? 44).map (·.size) = some (arr .u32 512 f).size := by rw [arr_size]; kernel_rfl
theorem runIndex (f : Nat → Int) (j : Nat) (hj : j < 512) (w : World) : (Instr.index 44 (.agg (arr .u32 512 f)) (.int .i64 (j : Int))).run Try.prog w = .ok (.int .u32 (f j)) w := by
  obtain ⟨i, hi, hz⟩ : ∃ i, Try.prog.info? 22 = some i ∧ i.size = 1 := by
    cases hq : Try.prog.info? 22 with
    | none =>
      have : (Try.prog.info? 22).isSome = true := by kernel_rfl
      rw [hq] at this
      cases this
    | some i =>
      have : (Try.prog.info? 22).map (·.size) = some 1 := by kernel_rfl
      rw [hq] at this
      exact ⟨i, rfl, by simpa using this⟩
  exact run_index_cells w Try.underlying44 Try.underlying22 hi hz (j : Int) (by omega) (by omega) (arr_get .u32 512 f j hj)
set_option maxHeartbeats 4000000 in
set_option maxRecDepth 100000 in
theorem ppowers_any (w : World) : Calls Try.prog 26 #[] w fun e w' => e = .returned (.agg (arr .u32 512 pw)) ∧ Past w w' := by
  obtain ⟨g, hg⟩ : ∃ g, w.heap.size = g := ⟨_, rfl⟩
  obtain ⟨w2, hw2⟩ : ∃ w', w' = (w.alloc (.cells (arr .u32 512 fun _ => 0) 44)).alloc (.cells (arr .u32 512 fun _ => 0) 44) := ⟨_, rfl⟩
  have H0 : Hid (Fx [(g, 44, arr .u32 512 fun _ => 0)] .u32 512 w w2 (g + 1) 44 fun _ => 0) := Lib.hid (by
    have p1 : Past w (w.alloc (.cells (arr .u32 512 fun _ => 0) 44)) := (Below.refl _ w).alloc (Nat.le_refl _) _
    have r1 := Row.new w 44 (arr .u32 512 fun _ => 0)
    have r2 := Row.new (w.alloc (.cells (arr .u32 512 fun _ => 0) 44)) 44 (arr .u32 512 fun _ => 0)
    rw [World.size_alloc] at r2
    rw [hg] at r1 r2
    rw [hw2]
    refine ⟨p1.alloc (by simp) _, ?_, r2⟩
    intro x hx
    rcases List.mem_cons.1 hx with rfl | hx
    · exact r1.alloc _
    · cases hx)
  have HGE : Hid (w.heap.size = g) := Lib.hid hg
  have HW2 := Lib.hid hw2
  clear hw2
  go_enter Try.func26, Try.ntmps26
  have hz := zero512
  go_upto_region 2 with (fail)
  clear hz
  rw [← HW2.out]
  try rw [hg]
  clear HW2 hg
  go_wp2_with fail
  go_loopg [2, 4] 512 (fun q s2 s4 wx => ∃ (k : Nat) (x : Int), k ≤ 512 ∧ q = 512 - k ∧ s2 = .int .u32 x ∧ s4 = .int .i64 (k : Int) ∧ 0 ≤ x ∧ x < 8380417 ∧ Hid (x = pw k) ∧ Hid (∃ F, Fx [(g, 44, arr .u32 512 fun _ => 0)] .u32 512 w wx (g + 1) 44 F ∧ ∀ j, j < k → F j = pw j))
  case atStart => exact ⟨0, 1, Nat.zero_le _, rfl, rfl, rfl, by decide, by decide, Lib.hid (by decide +kernel), Lib.hid ⟨_, H0.out, fun j hj => absurd hj (by omega)⟩⟩
  case round =>
    clear H0
    obtain ⟨k, x, hk, hq, rfl, rfl, x0, x1, HX, HQ⟩ := hrel
    have HGQ := Lib.hid hq
    clear hq
    have hk0 : (0 : Int) ≤ (k : Int) := by omega
    obtain ⟨F, hT, hF⟩ := HQ.out
    by_cases hlt : k < 512
    · have hkk : (k : Int) < 512 := by omega
      have HLT := Lib.hid hlt
      have hc1 := hT.2.2.at k hlt
      have hf1 := hT.2.2.fr k
      have hT1 := hT.put (by have := HGE.out; omega) (by intro x hx; simp at hx; rcases hx with rfl; simp) k hlt x
      have HT2 := Lib.hid (show ∃ F', Fx _ _ _ _ _ _ _ F' ∧ ∀ j, j < k + 1 → F' j = pw j from ⟨_, hT1, fun j hj => by
        by_cases e1 : j = k
        · subst e1; rw [upd_at]; exact HX.out
        · rw [upd_ne _ _ e1]; exact hF j (by omega)⟩)
      obtain ⟨m, hm⟩ : ∃ m, 1753 * x = m := ⟨_, rfl⟩
      have hwm : IntKind.i64.wrap (1753 * x) = m := by rw [hm, IntKind.wrap_i64]; omega
      have hwx : IntKind.i64.wrap x = x := by rw [IntKind.wrap_i64]; omega
      obtain ⟨y, hy⟩ : ∃ y, m % 8380417 = y := ⟨_, rfl⟩
      have HRE := Lib.hid (fun w => reduce_any m w (by omega) (by omega))
      rw [hy] at HRE
      have HY : Hid (y = pw (k + 1) ∧ 0 ≤ y ∧ y < 8380417) := Lib.hid ⟨by rw [pw_succ, ← HX.out, hm, hy], by omega, by omega⟩
      clear hT hF hT1 HQ hlt hk hy HX
      go_wp2_with fail
      refine (HRE.out _).mono ?_
      rintro e w4 ⟨rfl, hw4⟩
      rw [hw4]
      clear hw4 HRE w4
      go_wp2_with fail
      go_roundg (512 - (k + 1))
      case rel => exact ⟨k + 1, y, HLT.out, rfl, rfl, by go_num, HY.out.2.1, HY.out.2.2, Lib.hid HY.out.1, HT2⟩
      case measure => have := HGQ.out; have := HLT.out; omega
    · obtain rfl : k = 512 := by omega
      have he : arr .u32 512 F = arr .u32 512 pw := arr_ext fun j hj => hF j (by omega)
      have hr2 := hT.2.2
      have hr1 := hT.2.1 (g, 44, arr .u32 512 fun _ => 0) (by simp)
      unfold LM at hr2
      rw [he] at hr2
      have hi2 := inf512 pw
      have hs2 : (arr .u32 512 fun _ => 0).size = (arr .u32 512 pw).size := by rw [arr_size, arr_size]
      have ho2 := arr_one .u32 512 pw
      have HP := Lib.hid hT.1
      clear hT hF he HQ
      generalize hcc : arr .u32 512 pw = c2 at *
      have HCC := Lib.hid hcc
      clear hcc
      generalize arr .u32 512 (fun _ => 0) = c1 at *
      simp only at hr1
      go_wp2_with (first | (refine wpList_load_row rfl 44 _ rfl (g + 1) rfl _ _ (0, 0) _ hr2 Try.underlying44 rfl hi2 ?_) | (refine wpList_store_row rfl 44 _ _ rfl g _ rfl rfl _ _ hr1 hi2 hs2 ho2 ?_))
      refine bodyPost_ret (results_cell_row rfl _ _ g _ c2 (0, 0) _ rfl (setRow_heap wr g c1 c2 _ _ hr1) Try.underlying44 rfl hi2) rfl ?_
      exact ⟨by rw [HCC.out], below_setRow HP.out (by have := HGE.out; omega) _⟩
set_option maxHeartbeats 4000000 in
theorem prootIn_any (i : Nat) (hi : i < 256) (w : World) : Calls Try.prog 22 #[.int .i64 (i : Int)] w fun e w' => e = .returned (.tuple #[.int .u32 (rt i), .bool true]) ∧ Past w w' := by
  have h0 : ¬ (i : Int) < 0 := by omega
  have h1 : ¬ (256 : Int) ≤ (i : Int) := by omega
  have h2 : (i : Int) < 256 := by omega
  have HPW := Lib.hid (fun w => ppowers_any w)
  have HRV := Lib.hid (fun w => reversed_any i hi w)
  have hb := rv8_lt i
  have hix := runIndex pw (2 * rv8 i + 1) (by omega)
  change ∀ w : World, _ = Result.ok (Value.int IntKind.u32 (rt i)) w at hix
  generalize rt i = z at *
  generalize rv8 i = r at *
  obtain ⟨m, hm⟩ : ∃ m, 2 * r + 1 = m := ⟨_, rfl⟩
  have hr2 : 2 * (r : Int) + 1 = (m : Int) := by omega
  have hw1 : IntKind.i64.wrap (2 * (r : Int)) = 2 * (r : Int) := by rw [IntKind.wrap_i64]; omega
  have hw2 : IntKind.i64.wrap (2 * (r : Int) + 1) = (m : Int) := by rw [hr2, IntKind.wrap_i64]; omega
  have hw3 : wrap64 (m : Int) = (m : Int) := IntWalk.wrap64_in _ (by omega)
  rw [hm] at hix
  generalize arr .u32 512 pw = cp at *
  clear hi hm hb
  go_enter Try.func22, Try.ntmps22
  go_wp2_with fail
  refine (HPW.out w).mono ?_
  rintro e w1 ⟨rfl, hp⟩
  have H1 := Lib.hid hp
  clear hp
  go_wp2_with fail
  refine (HRV.out w1).mono ?_
  rintro e w2 ⟨rfl, hw⟩
  rw [hw]
  clear hw
  go_wp2_with fail
  go_ret2
  exact ⟨rfl, H1.out⟩
theorem prootOut_any (i : Int) (h : i < 0 ∨ 255 < i) (w : World) : Calls Try.prog 22 #[.int .i64 i] w fun e w' => e = .returned (.tuple #[.int .u32 0, .bool false]) ∧ Past w w' := by
  rcases h with h | h
  · go_enter Try.func22, Try.ntmps22
    go_wp2_with fail
    go_ret2
    exact ⟨rfl, Below.refl _ _⟩
  · have h0 : ¬ i < 0 := by omega
    have h1 : (256 : Int) ≤ i := by omega
    clear h
    go_enter Try.func22, Try.ntmps22
    go_wp2_with fail
    go_ret2
    exact ⟨rfl, Below.refl _ _⟩
end Go.Proofs.Ytngbmaojgfocgaa.dr
