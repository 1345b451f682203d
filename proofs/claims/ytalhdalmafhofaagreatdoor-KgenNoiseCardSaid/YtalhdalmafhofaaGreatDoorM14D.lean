/- What the transform of package kring calls. The program's split. -/
import Derived.Test.YtalhdalmafhofaaGreatDoorP14
import Derived.Test.YtalhdalmafhofaaGreatDoorSpl14
import Derived.Deep.RegionHeld
namespace Go.Proofs.YtalhdalmafhofaaGreatDoor
open Go.RowKit
set_option maxRecDepth 100000
set_option linter.unusedVariables false

set_option maxHeartbeats 4000000 in
set_option maxRecDepth 100000 in
theorem reverse8_any (i : Nat) (hi : i < 128) (w : World) : Calls Tryz.prog 81 #[.int .u8 (i : Int)] w fun e w' => e = .returned (.int .u8 ((2 * rv7 i : Nat) : Int)) ∧ w' = w := by
  have hi0 : (0 : Int) ≤ (i : Int) := by omega
  have hi1 : (i : Int) < 256 := by omega
  go_enter Tryz.func81, Tryz.ntmps81
  go_wp2_with fail
  go_ret
  refine ⟨?_, rfl⟩
  refine congrArg (fun x : Nat => Ending.returned (Value.int .u8 (x : Int))) ?_
  obtain ⟨k, rfl⟩ : ∃ k : Fin 128, k.val = i := ⟨⟨i, hi⟩, rfl⟩
  revert k
  decide +kernel
set_option maxHeartbeats 4000000 in
theorem reversed_any (i : Nat) (hi : i < 128) (w : World) : Calls Tryz.prog 65 #[.int .i64 (i : Int)] w fun e w' => e = .returned (.int .i64 ((rv7 i : Nat) : Int)) ∧ w' = w := by
  have hi0 : (0 : Int) ≤ (i : Int) := by omega
  have hi1 : (i : Int) < 128 := by omega
  have HR := Lib.hid (fun w => reverse8_any i hi w)
  have hb := rv7_lt i
  generalize rv7 i = r at *
  have h2 : ((2 * r : Nat) : Int) / 2 = (r : Int) := by omega
  obtain ⟨q, hq⟩ : ∃ q : Int, ((2 * r : Nat) : Int) = q := ⟨_, rfl⟩
  rw [hq] at HR h2
  have q0 : 0 ≤ q := by omega
  have q1 : q < 256 := by omega
  have r0 : (0 : Int) ≤ (r : Int) := by omega
  have r1 : (r : Int) < 128 := by omega
  have hw : IntKind.u8.wrap (i : Int) = (i : Int) := by rw [IntKind.wrap_u8]; omega
  clear hi hb hq
  go_enter Tryz.func65, Tryz.ntmps65
  go_wp2_with fail
  refine (HR.out w).mono ?_
  rintro e w1 ⟨rfl, hw1⟩
  rw [hw1]
  clear hw1
  go_wp2_with fail
  go_ret
  exact ⟨rfl, rfl⟩
set_option maxHeartbeats 4000000 in
theorem splitter_any (s m i : Nat) (hs : 0 < s) (hm : 128 / s = m) (hi : m + i < 128) (hs2 : s ≤ 128) (w : World) : Calls Tryz.prog 64 #[.int .i64 (s : Int), .int .i64 (i : Int)] w fun e w' => e = .returned (.int .i64 ((rv7 (m + i) : Nat) : Int)) ∧ w' = w := by
  have HR := Lib.hid (fun w => reversed_any (m + i) hi w)
  have hs0 : ¬ (s : Int) = 0 := by omega
  have hs1 : (0 : Int) < (s : Int) := by omega
  have hd : (128 : Int).tdiv (s : Int) = (m : Int) := by rw [← hm]; rfl
  have hd2 : (128 : Int) / (s : Int) = (m : Int) := by rw [← hm]; rfl
  obtain ⟨n, hn⟩ : ∃ n, m + i = n := ⟨_, rfl⟩
  have hnI : (m : Int) + (i : Int) = (n : Int) := by omega
  have hw : IntKind.i64.wrap ((m : Int) + (i : Int)) = (n : Int) := by rw [IntKind.wrap_i64]; omega
  have hw2 : IntKind.i64.wrap (m : Int) = (m : Int) := by rw [IntKind.wrap_i64]; omega
  have hsb : (s : Int) ≤ 128 := by omega
  have hw3 : wrap64 (n : Int) = (n : Int) := IntWalk.wrap64_in _ (by omega)
  have hw4 : wrap64 (m : Int) = (m : Int) := IntWalk.wrap64_in _ (by omega)
  rw [hn] at HR ⊢
  clear hm hi hn hs
  go_enter Tryz.func64, Tryz.ntmps64
  go_wp2_with fail
  refine (HR.out w).mono ?_
  rintro e w1 ⟨rfl, hw1⟩
  rw [hw1]
  clear hw1
  go_wp2_with fail
  go_ret
  exact ⟨rfl, rfl⟩
set_option maxHeartbeats 4000000 in
theorem exponent_any (i : Nat) (hi : i < 128) (w : World) : Calls Tryz.prog 52 #[.int .i64 (i : Int)] w fun e w' => e = .returned (.int .i64 ((2 * rv7 i + 1 : Nat) : Int)) ∧ w' = w := by
  have HR := Lib.hid (fun w => reversed_any i hi w)
  have hb := rv7_lt i
  generalize rv7 i = r at *
  obtain ⟨m, hm⟩ : ∃ m, 2 * r + 1 = m := ⟨_, rfl⟩
  have hr2 : 2 * (r : Int) + 1 = (m : Int) := by omega
  have hw1 : IntKind.i64.wrap (2 * (r : Int)) = 2 * (r : Int) := by rw [IntKind.wrap_i64]; omega
  have hw2 : IntKind.i64.wrap (2 * (r : Int) + 1) = (m : Int) := by rw [hr2, IntKind.wrap_i64]; omega
  have hw3 : wrap64 (m : Int) = (m : Int) := IntWalk.wrap64_in _ (by omega)
  rw [hm]
  clear hm hi hb
  go_enter Tryz.func52, Tryz.ntmps52
  go_wp2_with fail
  refine (HR.out w).mono ?_
  rintro e w1 ⟨rfl, hw⟩
  rw [hw]
  clear hw
  go_wp2_with fail
  go_ret
  exact ⟨congrArg (fun x => Ending.returned (Value.int .i64 x)) hw3, rfl⟩
set_option maxHeartbeats 4000000 in
set_option maxRecDepth 100000 in
theorem ppowers_any (w : World) : Calls Tryz.prog 50 #[] w fun e w' => e = .returned (.agg (arr .u16 256 pw)) ∧ Past w w' := by
  obtain ⟨g, hg⟩ : ∃ g, w.heap.size = g := ⟨_, rfl⟩
  obtain ⟨w2, hw2⟩ : ∃ w', w' = (w.alloc (.cells (arr .u16 256 fun _ => 0) 29)).alloc (.cells (arr .u16 256 fun _ => 0) 29) := ⟨_, rfl⟩
  have H0 : Hid (Fx [(g, 29, arr .u16 256 fun _ => 0)] .u16 256 w w2 (g + 1) 29 fun _ => 0) := Lib.hid (by
    have p1 : Past w (w.alloc (.cells (arr .u16 256 fun _ => 0) 29)) := (Below.refl _ w).alloc (Nat.le_refl _) _
    have r1 := Row.new w 29 (arr .u16 256 fun _ => 0)
    have r2 := Row.new (w.alloc (.cells (arr .u16 256 fun _ => 0) 29)) 29 (arr .u16 256 fun _ => 0)
    rw [World.size_alloc] at r2
    rw [hg] at r1 r2
    rw [hw2]
    refine ⟨p1.alloc (by simp) _, ?_, r2⟩
    intro x hx
    rcases List.mem_cons.1 hx with rfl | hx
    · exact r1.alloc _
    · cases hx)
  have HGE : Hid (w.heap.size = g) := Lib.hid hg
  have HW2 := Lib.hid hw2
  clear hw2
  go_enter Tryz.func50, Tryz.ntmps50
  have hz := zero256
  go_upto_region 2 with (fail)
  clear hz
  rw [← HW2.out]
  try rw [hg]
  clear HW2 hg
  go_wp2_with fail
  go_loopg [2, 4] 256 (fun q s2 s4 wx => ∃ (k : Nat) (x : Int), k ≤ 256 ∧ q = 256 - k ∧ s2 = .int .u16 x ∧ s4 = .int .i64 (k : Int) ∧ 0 ≤ x ∧ x < 3329 ∧ Hid (x = pw k) ∧ Hid (∃ F, Fx [(g, 29, arr .u16 256 fun _ => 0)] .u16 256 w wx (g + 1) 29 F ∧ ∀ j, j < k → F j = pw j))
  case atStart => exact ⟨0, 1, Nat.zero_le _, rfl, rfl, rfl, by decide, by decide, Lib.hid (by decide +kernel), Lib.hid ⟨_, H0.out, fun j hj => absurd hj (by omega)⟩⟩
  case round =>
    clear H0
    obtain ⟨k, x, hk, hq, rfl, rfl, x0, x1, HX, HQ⟩ := hrel
    have HGQ := Lib.hid hq
    clear hq
    have hk0 : (0 : Int) ≤ (k : Int) := by omega
    obtain ⟨F, hT, hF⟩ := HQ.out
    by_cases hlt : k < 256
    · have hkk : (k : Int) < 256 := by omega
      have HLT := Lib.hid hlt
      have hc1 := hT.2.2.at k hlt
      have hf1 := hT.2.2.fr k
      have hT1 := hT.put (by have := HGE.out; omega) (by intro x hx; simp at hx; rcases hx with rfl; simp) k hlt x
      have HT2 := Lib.hid (show ∃ F', Fx _ _ _ _ _ _ _ F' ∧ ∀ j, j < k + 1 → F' j = pw j from ⟨_, hT1, fun j hj => by
        by_cases e1 : j = k
        · subst e1; rw [upd_at]; exact HX.out
        · rw [upd_ne _ _ e1]; exact hF j (by omega)⟩)
      obtain ⟨m, hm⟩ : ∃ m, 17 * x = m := ⟨_, rfl⟩
      have hwm : IntKind.i64.wrap (17 * x) = m := by rw [hm, IntKind.wrap_i64]; omega
      have hwx : IntKind.i64.wrap x = x := by rw [IntKind.wrap_i64]; omega
      obtain ⟨y, hy⟩ : ∃ y, m % 3329 = y := ⟨_, rfl⟩
      have HRE := Lib.hid (fun w => reduce_any m w (by omega) (by omega))
      rw [hy] at HRE
      have HY : Hid (y = pw (k + 1) ∧ 0 ≤ y ∧ y < 3329) := Lib.hid ⟨by rw [pw_succ, ← HX.out, hm, hy], by omega, by omega⟩
      clear hT hF hT1 HQ hlt hk hy HX
      go_wp2_with fail
      refine (HRE.out _).mono ?_
      rintro e w4 ⟨rfl, hw4⟩
      rw [hw4]
      clear hw4 HRE w4
      go_wp2_with fail
      go_roundg (256 - (k + 1))
      case rel => exact ⟨k + 1, y, HLT.out, rfl, rfl, by go_num, HY.out.2.1, HY.out.2.2, Lib.hid HY.out.1, HT2⟩
      case measure => have := HGQ.out; have := HLT.out; omega
    · obtain rfl : k = 256 := by omega
      have he : arr .u16 256 F = arr .u16 256 pw := arr_ext fun j hj => hF j (by omega)
      have hr2 := hT.2.2
      have hr1 := hT.2.1 (g, 29, arr .u16 256 fun _ => 0) (by simp)
      unfold LM at hr2
      rw [he] at hr2
      have hi2 := inf256 pw
      have hs2 : (arr .u16 256 fun _ => 0).size = (arr .u16 256 pw).size := by rw [arr_size, arr_size]
      have ho2 := arr_one .u16 256 pw
      have HP := Lib.hid hT.1
      clear hT hF he HQ
      generalize hcc : arr .u16 256 pw = c2 at *
      have HCC := Lib.hid hcc
      clear hcc
      generalize arr .u16 256 (fun _ => 0) = c1 at *
      simp only at hr1
      go_wp2_with (first | (refine wpList_load_row rfl 29 _ rfl (g + 1) rfl _ _ (0, 0) _ hr2 Tryz.underlying29 rfl hi2 ?_) | (refine wpList_store_row rfl 29 _ _ rfl g _ rfl rfl _ _ hr1 hi2 hs2 ho2 ?_))
      refine bodyPost_ret (results_cell_row rfl _ _ g _ c2 (0, 0) _ rfl (setRow_heap wr g c1 c2 _ _ hr1) Tryz.underlying29 rfl hi2) rfl ?_
      exact ⟨by rw [HCC.out], below_setRow HP.out (by have := HGE.out; omega) _⟩
end Go.Proofs.YtalhdalmafhofaaGreatDoor

namespace Go.Proofs.YtalhdalmafhofaaGreatDoor
set_option maxRecDepth 100000
open Go.RowKit
set_option linter.unusedVariables false

theorem Fx.put2 {L : List (Nat × TypeId × Array Value)} {k : IntKind} {n : Nat} {w wx : World} {g : Nat} {t : TypeId} {f : Nat → Int} (h : Fx L k n w wx g t f) (hg : w.heap.size ≤ g) (hL : ∀ x ∈ L, x.1 ≠ g) (i : Nat) (hi : i < n) (v : Int) :
    Fx L k n w (wx.setCell ⟨g, i, none⟩ (.int k v)) g t (upd f i v) :=
  ⟨h.1.set hg _, fun x hx => (h.2.1 x hx).setOther (by have := hL x hx; omega) _ _, h.2.2.put i hi v⟩
theorem split_fx (w : World) (t0 t1 t2 : TypeId) (f : Nat → Int) (c1 c2 : Array Value) :
    Fx [(w.heap.size + 1, t1, c1), (w.heap.size + 1 + 1, t2, c2)] .u16 256 w (((w.alloc (.cells (arr .u16 256 f) t0)).alloc (.cells c1 t1)).alloc (.cells c2 t2)) w.heap.size t0 f := by
  refine ⟨(((Below.refl _ _).alloc (Nat.le_refl _) _).alloc (by simp) _).alloc (by simp; omega) _, ?_, ((Row.new w t0 _).alloc _).alloc _⟩
  intro x hx
  rcases List.mem_cons.1 hx with rfl | hx
  · have := (Row.new (w.alloc (.cells (arr .u16 256 f) t0)) t1 c1).alloc (.cells c2 t2)
    simpa using this
  · rcases List.mem_cons.1 hx with rfl | hx
    · have := Row.new ((w.alloc (.cells (arr .u16 256 f) t0)).alloc (.cells c1 t1)) t2 c2
      simpa using this
    · cases hx
theorem lay_rng {s : Nat} (hs : Lay s) : 0 < s ∧ s ≤ 128 ∧ 1 ≤ 128 / s ∧ 128 / s ≤ 64 := by
  rcases hs with rfl | rfl | rfl | rfl | rfl | rfl | rfl <;> omega
theorem blk_facts {s i s2 b d : Nat} (hs : Lay s) (h2 : 2 * s = s2) (hb : s2 * i = b) (hd : b + s = d) (hi : i < 128 / s) :
    b = 2 * s * i ∧ b + s + s ≤ 256 ∧ IntKind.i64.wrap ((s2 : Int) * (i : Int)) = (b : Int) ∧ wrap64 (b : Int) = (b : Int) ∧ IntKind.i64.wrap ((b : Int) + (s : Int)) = (d : Int) ∧ wrap64 (d : Int) = (d : Int) := by
  have h1 : b = 2 * s * i := by rw [h2, hb]
  have h3 : b + s + s ≤ 256 := by
    rw [h1]
    rcases hs with rfl | rfl | rfl | rfl | rfl | rfl | rfl <;> omega
  have h4 : (s2 : Int) * (i : Int) = (b : Int) := by rw [← hb]; exact (Int.natCast_mul _ _).symm
  clear hb
  refine ⟨h1, h3, ?_, IntWalk.wrap64_in _ (by omega), ?_, IntWalk.wrap64_in _ (by omega)⟩
  · rw [h4, IntKind.wrap_i64]
    clear h4 h1
    omega
  · rw [IntKind.wrap_i64]
    clear h4 h1
    omega
theorem rv7_pos (k : Nat) (h : 0 < k) (h2 : k < 128) : 0 < rv7 k := by
  obtain ⟨i, rfl⟩ : ∃ i : Fin 128, i.val = k := ⟨⟨k, h2⟩, rfl⟩
  revert i
  decide +kernel
theorem mul_bd2 {a b : Int} (a0 : 0 ≤ a) (a1 : a < 3329) (b0 : 0 ≤ b) (b1 : b < 65536) : 0 ≤ a * b ∧ a * b ≤ 218100480 :=
  ⟨Int.mul_nonneg a0 b0, Int.le_trans (Int.mul_le_mul (show a ≤ 3328 by omega) (show b ≤ 65535 by omega) b0 (by decide)) (by decide)⟩
theorem mul_bd3 {a b : Int} (a0 : -109115775 ≤ a) (a1 : a ≤ 109115775) (b0 : 0 ≤ b) (b1 : b < 3329) : -363137299200 ≤ a * b ∧ a * b ≤ 363137299200 := by
  have h1 : a * b ≤ 109115775 * b := Int.mul_le_mul_of_nonneg_right a1 b0
  have h2 : -109115775 * b ≤ a * b := Int.mul_le_mul_of_nonneg_right a0 b0
  omega
set_option maxHeartbeats 4000000 in
set_option maxRecDepth 100000 in
theorem psplit_any (s : Nat) (hs : Lay s) (f : Nat → Int) (hf : R16 f) (w : World) :
    Calls Tryz.prog 51 #[.agg (arr .u16 256 f), .int .i64 (s : Int), .agg (arr .u16 256 pw)] w fun e w' => e = .returned (.agg (arr .u16 256 (sp s f))) ∧ Past w w' := by
  have HCP := Lib.hid (fun i (hi : i < 256) => arr_get .u16 256 pw i hi)
  have HF := Lib.hid hf
  have HS := Lib.hid hs
  obtain ⟨m, hm⟩ : ∃ m, 128 / s = m := ⟨_, rfl⟩
  have HM := Lib.hid hm
  obtain ⟨hs0, hs128, hm1, hm64⟩ := lay_rng hs
  rw [hm] at hm1 hm64
  obtain ⟨g, hg⟩ : ∃ g, w.heap.size = g := ⟨_, rfl⟩
  obtain ⟨w3, hw3⟩ : ∃ w', w' = ((w.alloc (.cells (arr .u16 256 f) 30)).alloc (.cells (arr .u16 256 pw) 29)).alloc (.cells (arr .u16 256 fun _ => 0) 30) := ⟨_, rfl⟩
  have H0 : Hid (Fx [(g + 1, 29, arr .u16 256 pw), (g + 1 + 1, 30, arr .u16 256 fun _ => 0)] .u16 256 w w3 g 30 f) := Lib.hid (by
    have h := split_fx w 30 29 30 f (arr .u16 256 pw) (arr .u16 256 fun _ => 0)
    rw [hg, ← hw3] at h
    exact h)
  have HGE : Hid (w.heap.size = g) := Lib.hid hg
  have HW3 := Lib.hid hw3
  have hsz : ¬ (s : Int) = 0 := by omega
  have hsp : (0 : Int) < (s : Int) := by omega
  have hsb : (s : Int) ≤ 128 := by omega
  have HDV : Hid ((128 : Int).tdiv (s : Int) = (m : Int) ∧ (128 : Int) / (s : Int) = (m : Int)) := Lib.hid ⟨by rw [← hm]; rfl, by rw [← hm]; rfl⟩
  have HWM : Hid (IntKind.i64.wrap (m : Int) = (m : Int) ∧ wrap64 (m : Int) = (m : Int)) := Lib.hid ⟨by rw [IntKind.wrap_i64]; omega, IntWalk.wrap64_in _ (by omega)⟩
  obtain ⟨s2, hs2⟩ : ∃ s2, 2 * s = s2 := ⟨_, rfl⟩
  have HS2 := Lib.hid hs2
  have HW2S : Hid (IntKind.i64.wrap (2 * (s : Int)) = (s2 : Int) ∧ wrap64 (s2 : Int) = (s2 : Int)) := Lib.hid ⟨by rw [IntKind.wrap_i64]; omega, IntWalk.wrap64_in _ (by omega)⟩
  clear hf hw3 hs hm hs2
  generalize arr .u16 256 f = cf at *
  generalize arr .u16 256 pw = cp at *
  go_enter Tryz.func51, Tryz.ntmps51
  have hz := zeroP
  go_upto_region 1 with (fail)
  clear hz
  rw [← HW3.out]
  try rw [hg]
  clear HW3 hg
  obtain ⟨hd, hd2⟩ := HDV.out
  obtain ⟨hwm, hwm2⟩ := HWM.out
  go_wp2_with fail
  go_loopg [14] m (fun q s14 wx => ∃ i : Nat, i ≤ m ∧ q = m - i ∧ s14 = .int .i64 (i : Int) ∧ Hid (∃ F, Fx [(g + 1, 29, cp), (g + 1 + 1, 30, arr .u16 256 fun _ => 0)] .u16 256 w wx g 30 F ∧ ∀ k, k < 256 → F k = prt (sp s f) s f i 0 k))
  case atStart => exact ⟨0, Nat.zero_le _, rfl, rfl, Lib.hid ⟨f, H0.out, fun k _ => (prt_zero _ s f k).symm⟩⟩
  case round =>
    clear H0 hd hd2 hwm hwm2 hsz
    obtain ⟨i, hi, hq, rfl, HQ⟩ := hrel
    have HGQ := Lib.hid hq
    clear hq
    have hi0 : (0 : Int) ≤ (i : Int) := by omega
    by_cases hlt : i < m
    · have hii : (i : Int) < (m : Int) := Int.ofNat_lt.2 hlt
      have HLT := Lib.hid hlt
      have HIN : Hid (∀ r, r < s → 2 * s * i + r + s < 256) := Lib.hid (fun r hr => (lay_in HS.out i r (by rw [HM.out]; exact hlt) hr).1)
      have HSP := Lib.hid (fun w => splitter_any s m i hs0 HM.out (by omega) hs128 w)
      have hn := rv7_lt (m + i)
      obtain ⟨n, hnn⟩ : ∃ n, rv7 (m + i) = n := ⟨_, rfl⟩
      rw [hnn] at HSP hn
      have HWv : Hid (pw n = wS s i) := Lib.hid (by rw [← hnn, ← HM.out]; rfl)
      obtain ⟨W, hW⟩ : ∃ W, pw n = W := ⟨_, rfl⟩
      obtain ⟨W0, W1⟩ := pw_lt n
      rw [hW] at W0 W1
      have HW : Hid (W = wS s i) := Lib.hid (by rw [← hW]; exact HWv.out)
      have hc : wr.cell? ⟨g + 1, n, none⟩ = some (.int .u16 W) := by
        obtain ⟨F, hT, _⟩ := HQ.out
        rw [(hT.2.1 (g + 1, 29, cp) (by simp)).cell]
        have := HCP.out n (by omega)
        rw [hW] at this
        exact this
      have hx0 : (0 : Int) ≤ (n : Int) := by omega
      have hx1 : (n : Int) < 256 := by omega
      have HWW : Hid (IntKind.i64.wrap W = W) := Lib.hid (by rw [IntKind.wrap_i64]; omega)
      obtain ⟨b, hb⟩ : ∃ b, s2 * i = b := ⟨_, rfl⟩
      obtain ⟨d, hd0⟩ : ∃ d, b + s = d := ⟨_, rfl⟩
      obtain ⟨HB0, hb256, hwbd⟩ := blk_facts HS.out HS2.out hb hd0 (by rw [HM.out]; exact hlt)
      have HB := Lib.hid HB0
      have HWB := Lib.hid hwbd
      have HMS : Hid (m - (i + 1) < m - i) := Lib.hid (by omega)
      clear hW HWv hnn hb HB0 hwbd hlt hi
      go_wp2_with fail
      refine (HSP.out _).mono ?_
      rintro e w4 ⟨rfl, hw4⟩
      rw [hw4]
      clear hw4 HSP w4
      obtain ⟨hw2s, hw2s2⟩ := HW2S.out
      obtain ⟨hwb, hwb2, hwd, hwd2⟩ := HWB.out
      have hwW := HWW.out
      go_wp2_with fail
      clear hc
      go_loopg [9] s (fun q s9 wx => ∃ r t : Nat, r ≤ s ∧ q = s - r ∧ b + r = t ∧ s9 = .int .i64 (t : Int) ∧ Hid (∃ F, Fx [(g + 1, 29, cp), (g + 1 + 1, 30, arr .u16 256 fun _ => 0)] .u16 256 w wx g 30 F ∧ ∀ k, k < 256 → F k = prt (sp s f) s f i r k))
      case atStart => exact ⟨0, b, Nat.zero_le _, rfl, rfl, rfl, HQ⟩
      case round =>
        rename_i wo
        obtain ⟨r, t, hr, hq, ht, rfl, HQ2⟩ := hrel
        clear HQ hw2s hw2s2 hwb hwb2 hwd hwd2 hwW
        have HGQ2 := Lib.hid hq
        clear hq
        have ht0 : (0 : Int) ≤ (t : Int) := by omega
        by_cases hlt2 : r < s
        · have htd : (t : Int) < (d : Int) := by omega
          have HLT2 := Lib.hid hlt2
          have hte : t = 2 * s * i + r := by rw [← HB.out]; exact ht.symm
          obtain ⟨u, hu⟩ : ∃ u, t + s = u := ⟨_, rfl⟩
          have hue : u = 2 * s * i + r + s := by rw [← hte]; exact hu.symm
          have hu256 : u < 256 := by omega
          have hu0 : (0 : Int) ≤ (u : Int) := by omega
          have hu1 : (u : Int) < 256 := by omega
          have ht1 : (t : Int) < 256 := by omega
          have htu : ¬ t = u := by omega
          have HWU : Hid (IntKind.i64.wrap ((t : Int) + (s : Int)) = (u : Int) ∧ wrap64 (u : Int) = (u : Int)) := Lib.hid ⟨by rw [IntKind.wrap_i64]; omega, IntWalk.wrap64_in _ (by omega)⟩
          obtain ⟨F, hT, hF⟩ := HQ2.out
          have hX : F t = f t := by
            rw [hF t (by omega), hte]
            exact prt_low _ HS.out f i r hlt2
          have hY : F u = f u := by
            rw [hF u hu256, hue]
            exact prt_high _ HS.out f i r hlt2
          obtain ⟨x0, x1⟩ := HF.out t
          obtain ⟨y0, y1⟩ := HF.out u
          rw [← hX] at x0 x1
          rw [← hY] at y0 y1
          obtain ⟨hp1, hp2⟩ := sp_pair HS.out f i r hlt2
          rw [← hue, ← hte] at hp1 hp2
          obtain ⟨X, hXe⟩ : ∃ X, F t = X := ⟨_, rfl⟩
          obtain ⟨Y, hYe⟩ : ∃ Y, F u = Y := ⟨_, rfl⟩
          rw [hXe] at hX x0 x1
          rw [hYe] at hY y0 y1
          obtain ⟨Hh, hH0⟩ : ∃ Hh, W * Y = Hh := ⟨_, rfl⟩
          have hHb := mul_bd2 W0 W1 y0 y1
          rw [hH0] at hHb
          obtain ⟨hH1, hH2⟩ := hHb
          have HWH : Hid (IntKind.i64.wrap (W * Y) = Hh) := Lib.hid (by rw [hH0, IntKind.wrap_i64]; omega)
          obtain ⟨E1, hE1⟩ : ∃ E, X + Hh = E := ⟨_, rfl⟩
          obtain ⟨E2, hE2⟩ : ∃ E, X - Hh = E := ⟨_, rfl⟩
          have HW1 : Hid (IntKind.i64.wrap (X + Hh) = E1) := Lib.hid (by rw [hE1, IntKind.wrap_i64]; omega)
          have HW2 : Hid (IntKind.i64.wrap (X - Hh) = E2) := Lib.hid (by rw [hE2, IntKind.wrap_i64]; omega)
          have hP1 : E1 % 3329 = sp s f t := by rw [hp1, ← hE1, ← hH0, ← hX, ← hY, HW.out]
          have hP2 : E2 % 3329 = sp s f u := by rw [hp2, ← hE2, ← hH0, ← hX, ← hY, HW.out]
          have HWX : Hid (IntKind.i64.wrap X = X) := Lib.hid (by rw [IntKind.wrap_i64]; omega)
          have HWY : Hid (IntKind.i64.wrap Y = Y) := Lib.hid (by rw [IntKind.wrap_i64]; omega)
          obtain ⟨P1, hPe1⟩ : ∃ P, E1 % 3329 = P := ⟨_, rfl⟩
          obtain ⟨P2, hPe2⟩ : ∃ P, E2 % 3329 = P := ⟨_, rfl⟩
          have HR1 := Lib.hid (fun w => reduce_any E1 w (by omega) (by omega))
          have HR2 := Lib.hid (fun w => reduce_any E2 w (by omega) (by omega))
          rw [hPe1] at HR1 hP1
          rw [hPe2] at HR2 hP2
          obtain ⟨wd8, hwd8⟩ : ∃ w', w' = wr.drew := ⟨_, rfl⟩
          obtain ⟨wd9, hwd9⟩ : ∃ w', w' = wd8.drew := ⟨_, rfl⟩
          have HWD8 := Lib.hid hwd8
          have HWD9 := Lib.hid hwd9
          have hT8 : Fx _ _ _ _ _ _ _ F := hT.drewN 1
          change Fx _ _ _ _ wr.drew _ _ _ at hT8
          rw [← hwd8] at hT8
          have hT9 : Fx _ _ _ _ _ _ _ F := hT8.drewN 1
          change Fx _ _ _ _ wd8.drew _ _ _ at hT9
          rw [← hwd9] at hT9
          have HS8 : Hid (wd8.cell? ⟨g, t, none⟩ = some (.int .u16 X) ∧ wd8.cell? ⟨g, u, none⟩ = some (.int .u16 Y)) := Lib.hid (by
            have h1 := hT8.2.2.at t (by omega)
            have h2 := hT8.2.2.at u hu256
            rw [hXe] at h1
            rw [hYe] at h2
            exact ⟨h1, h2⟩)
          have hc9 := hT9.2.2.at t (by omega)
          have hf9 := hT9.2.2.fr t
          have hT10 := hT9.put2 (by have := HGE.out; omega) (by intro x hx; simp at hx; rcases hx with rfl | rfl <;> simp <;> omega) t (by omega) P1
          have hc10 := hT10.2.2.at u hu256
          have hf10 := hT10.2.2.fr u
          have hT11 := hT10.put2 (by have := HGE.out; omega) (by intro x hx; simp at hx; rcases hx with rfl | rfl <;> simp <;> omega) u hu256 P2
          have HT : Hid (∃ F', Fx _ _ _ _ _ _ _ F' ∧ ∀ k, k < 256 → F' k = prt (sp s f) s f i (r + 1) k) := Lib.hid ⟨_, hT11, fun k hk => by
            have h := prt_step (sp s f) HS.out f i r hlt2 k
            rw [← hue, ← hte] at h
            rw [← h]
            by_cases k1 : k = u
            · subst k1
              rw [upd_at, if_pos rfl]
              exact hP2
            · rw [upd_ne _ _ k1, if_neg k1]
              by_cases k2 : k = t
              · subst k2
                rw [upd_at, if_pos rfl]
                exact hP1
              · rw [upd_ne _ _ k2, if_neg k2]
                exact hF k hk⟩
          have HTN : Hid (b + (r + 1) = t + 1) := Lib.hid (by omega)
          have HMS2 : Hid (s - (r + 1) < s - r) := Lib.hid (by omega)
          clear hT hT8 hT10 hT11 hF hX hY hXe hYe hp1 hp2 hP1 hP2 hPe1 hPe2 hE1 hE2 hte hue hlt2 hr ht hu hd0 hb256 hwd8 hwd9 hT9 hH0
          obtain ⟨hw2s, hw2s2⟩ := HW2S.out
          obtain ⟨hwb, hwb2, hwd, hwd2⟩ := HWB.out
          go_upto_region 8 with (fail)
          clear hw2s hw2s2 hwb hwb2 hwd hwd2
          refine wp_region_held_drew (S := fun w' => w'.cell? ⟨g, t, none⟩ = some (.int .u16 X) ∧ w'.cell? ⟨g, u, none⟩ = some (.int .u16 Y)) (by kernel_rfl) (by rw [← HWD8.out]; exact HS8.out) (fun hH => ?_)
          change wpAnyH _ _ _ _ _ _ _ _ (World.drew _)
          rw [← HWD8.out]
          clear hH
          have hH := HS8.out
          clear HWD8
          refine held_take 0 37 (v := .int .i64 (t : Int)) rfl rfl (by kernel_rfl) (by kernel_rfl) (by kernel_rfl) (fun _ _ _ h => h) (Or.inl ⟨by kernel_rfl, fun w _ => by kernel_rfl⟩) hH ?_
          (try simp only [List.setIfInBounds_toArray, List.set_cons_zero, List.set_cons_succ])
          refine held_take 1 38 (v := .pointer (some ⟨g, t, none⟩)) rfl rfl (by kernel_rfl) (by kernel_rfl) (by kernel_rfl) (fun _ _ _ h => h) (Or.inl ⟨by kernel_rfl, fun w _ => by go_simp⟩) hH ?_
          (try simp only [List.setIfInBounds_toArray, List.set_cons_zero, List.set_cons_succ])
          refine held_take 2 39 (v := .int .u16 X) rfl rfl (by kernel_rfl) (by kernel_rfl) (by kernel_rfl) (fun _ _ _ h => h) (Or.inl ⟨by kernel_rfl, fun w hSw => by
            have hcell := hSw.1
            go_simp⟩) hH ?_
          refine held_take 3 40 (v := .int .i64 X) rfl rfl (by kernel_rfl) (by kernel_rfl) (by kernel_rfl) (fun _ _ _ h => h) (Or.inl ⟨by kernel_rfl, fun w _ => by have hwX := HWX.out; go_simp⟩) hH ?_
          (try simp only [List.setIfInBounds_toArray, List.set_cons_zero, List.set_cons_succ])
          refine held_take 12 10 (v := .int .i64 X) rfl rfl (by kernel_rfl) (by kernel_rfl) (by kernel_rfl) (fun _ _ _ h => h) (Or.inl ⟨by kernel_rfl, fun w _ => by kernel_rfl⟩) hH ?_
          (try simp only [List.setIfInBounds_toArray, List.set_cons_zero, List.set_cons_succ])
          refine held_take 4 41 (v := .int .i64 W) rfl rfl (by kernel_rfl) (by kernel_rfl) (by kernel_rfl) (fun _ _ _ h => h) (Or.inl ⟨by kernel_rfl, fun w _ => by kernel_rfl⟩) hH ?_
          (try simp only [List.setIfInBounds_toArray, List.set_cons_zero, List.set_cons_succ])
          refine held_take 5 42 (v := .int .i64 (t : Int)) rfl rfl (by kernel_rfl) (by kernel_rfl) (by kernel_rfl) (fun _ _ _ h => h) (Or.inl ⟨by kernel_rfl, fun w _ => by kernel_rfl⟩) hH ?_
          (try simp only [List.setIfInBounds_toArray, List.set_cons_zero, List.set_cons_succ])
          refine held_take 6 43 (v := .int .i64 (s : Int)) rfl rfl (by kernel_rfl) (by kernel_rfl) (by kernel_rfl) (fun _ _ _ h => h) (Or.inl ⟨by kernel_rfl, fun w _ => by kernel_rfl⟩) hH ?_
          (try simp only [List.setIfInBounds_toArray, List.set_cons_zero, List.set_cons_succ])
          refine held_take 7 44 (v := .int .i64 (u : Int)) rfl rfl (by kernel_rfl) (by kernel_rfl) (by kernel_rfl) (fun _ _ _ h => h) (Or.inl ⟨by kernel_rfl, fun w _ => by have hwu := HWU.out.1; have hwu2 := HWU.out.2; go_simp⟩) hH ?_
          (try simp only [List.setIfInBounds_toArray, List.set_cons_zero, List.set_cons_succ])
          refine held_take 8 45 (v := .pointer (some ⟨g, u, none⟩)) rfl rfl (by kernel_rfl) (by kernel_rfl) (by kernel_rfl) (fun _ _ _ h => h) (Or.inl ⟨by kernel_rfl, fun w _ => by go_simp⟩) hH ?_
          (try simp only [List.setIfInBounds_toArray, List.set_cons_zero, List.set_cons_succ])
          refine held_take 9 46 (v := .int .u16 Y) rfl rfl (by kernel_rfl) (by kernel_rfl) (by kernel_rfl) (fun _ _ _ h => h) (Or.inl ⟨by kernel_rfl, fun w hSw => by
            have hcell := hSw.2
            go_simp⟩) hH ?_
          refine held_take 10 47 (v := .int .i64 Y) rfl rfl (by kernel_rfl) (by kernel_rfl) (by kernel_rfl) (fun _ _ _ h => h) (Or.inl ⟨by kernel_rfl, fun w _ => by have hwY := HWY.out; go_simp⟩) hH ?_
          (try simp only [List.setIfInBounds_toArray, List.set_cons_zero, List.set_cons_succ])
          refine held_take 11 48 (v := .int .i64 Hh) rfl rfl (by kernel_rfl) (by kernel_rfl) (by kernel_rfl) (fun _ _ _ h => h) (Or.inl ⟨by kernel_rfl, fun w _ => by have hwH := HWH.out; go_simp⟩) hH ?_
          (try simp only [List.setIfInBounds_toArray, List.set_cons_zero, List.set_cons_succ])
          refine held_take 13 11 (v := .int .i64 Hh) rfl rfl (by kernel_rfl) (by kernel_rfl) (by kernel_rfl) (fun _ _ _ h => h) (Or.inl ⟨by kernel_rfl, fun w _ => by kernel_rfl⟩) hH ?_
          (try simp only [List.setIfInBounds_toArray, List.set_cons_zero, List.set_cons_succ])
          refine wpAnyH_done (by kernel_rfl) ?_ _
          go_simp
          clear hH HS8
          go_upto_region 9 with (fail)
          refine wp_region_held_drew (S := fun _ => True) (by kernel_rfl) trivial (fun hH => ?_)
          change wpAnyH _ _ _ _ _ _ _ _ (World.drew _)
          rw [← HWD9.out]
          clear hH
          have hH : True := trivial
          clear HWD9
          refine held_take 0 49 (v := .int .i64 (t : Int)) rfl rfl (by kernel_rfl) (by kernel_rfl) (by kernel_rfl) (fun _ _ _ h => h) (Or.inl ⟨by kernel_rfl, fun w _ => by kernel_rfl⟩) hH ?_
          (try simp only [List.setIfInBounds_toArray, List.set_cons_zero, List.set_cons_succ])
          refine held_take 1 50 (v := .int .i64 (t : Int)) rfl rfl (by kernel_rfl) (by kernel_rfl) (by kernel_rfl) (fun _ _ _ h => h) (Or.inl ⟨by kernel_rfl, fun w _ => by kernel_rfl⟩) hH ?_
          (try simp only [List.setIfInBounds_toArray, List.set_cons_zero, List.set_cons_succ])
          refine held_take 2 51 (v := .int .i64 (s : Int)) rfl rfl (by kernel_rfl) (by kernel_rfl) (by kernel_rfl) (fun _ _ _ h => h) (Or.inl ⟨by kernel_rfl, fun w _ => by kernel_rfl⟩) hH ?_
          (try simp only [List.setIfInBounds_toArray, List.set_cons_zero, List.set_cons_succ])
          refine held_take 3 52 (v := .int .i64 (u : Int)) rfl rfl (by kernel_rfl) (by kernel_rfl) (by kernel_rfl) (fun _ _ _ h => h) (Or.inl ⟨by kernel_rfl, fun w _ => by have hwu := HWU.out.1; have hwu2 := HWU.out.2; go_simp⟩) hH ?_
          (try simp only [List.setIfInBounds_toArray, List.set_cons_zero, List.set_cons_succ])
          refine held_take 4 53 (v := .int .i64 X) rfl rfl (by kernel_rfl) (by kernel_rfl) (by kernel_rfl) (fun _ _ _ h => h) (Or.inl ⟨by kernel_rfl, fun w _ => by kernel_rfl⟩) hH ?_
          (try simp only [List.setIfInBounds_toArray, List.set_cons_zero, List.set_cons_succ])
          refine held_take 5 54 (v := .int .i64 Hh) rfl rfl (by kernel_rfl) (by kernel_rfl) (by kernel_rfl) (fun _ _ _ h => h) (Or.inl ⟨by kernel_rfl, fun w _ => by kernel_rfl⟩) hH ?_
          (try simp only [List.setIfInBounds_toArray, List.set_cons_zero, List.set_cons_succ])
          refine held_take 6 55 (v := .int .i64 E1) rfl rfl (by kernel_rfl) (by kernel_rfl) (by kernel_rfl) (fun _ _ _ h => h) (Or.inl ⟨by kernel_rfl, fun w _ => by have hw1 := HW1.out; go_simp⟩) hH ?_
          (try simp only [List.setIfInBounds_toArray, List.set_cons_zero, List.set_cons_succ])
          refine held_take 8 57 (v := .int .i64 X) rfl rfl (by kernel_rfl) (by kernel_rfl) (by kernel_rfl) (fun _ _ _ h => h) (Or.inl ⟨by kernel_rfl, fun w _ => by kernel_rfl⟩) hH ?_
          (try simp only [List.setIfInBounds_toArray, List.set_cons_zero, List.set_cons_succ])
          refine held_take 9 58 (v := .int .i64 Hh) rfl rfl (by kernel_rfl) (by kernel_rfl) (by kernel_rfl) (fun _ _ _ h => h) (Or.inl ⟨by kernel_rfl, fun w _ => by kernel_rfl⟩) hH ?_
          (try simp only [List.setIfInBounds_toArray, List.set_cons_zero, List.set_cons_succ])
          refine held_take 10 59 (v := .int .i64 E2) rfl rfl (by kernel_rfl) (by kernel_rfl) (by kernel_rfl) (fun _ _ _ h => h) (Or.inl ⟨by kernel_rfl, fun w _ => by have hw2 := HW2.out; go_simp⟩) hH ?_
          (try simp only [List.setIfInBounds_toArray, List.set_cons_zero, List.set_cons_succ])
          refine wpAnyH_ready (rs := [7]) (by kernel_rfl) (by simp) ?_
          refine AllReadyH.cons rfl (fun K hK => ?_) AllReadyH.nil
          go_simp
          refine (HR1.out wd9).mono ?_
          rintro e9 w9 ⟨rfl, hw9⟩
          rw [hw9]
          clear hw9
          refine hK.out _ _ trivial (fun hH => ?_)
          clear hK K
          refine held_take 12 61 (v := .pointer (some ⟨g, t, none⟩)) rfl rfl (by kernel_rfl) (by kernel_rfl) (by kernel_rfl) (fun _ _ _ h => h) (Or.inl ⟨by kernel_rfl, fun w _ => by go_simp⟩) hH ?_
          (try simp only [List.setIfInBounds_toArray, List.set_cons_zero, List.set_cons_succ])
          refine wpAnyH_ready (rs := [11]) (by kernel_rfl) (by simp) ?_
          refine AllReadyH.cons rfl (fun K hK => ?_) AllReadyH.nil
          go_simp
          refine (HR2.out wd9).mono ?_
          rintro e9 w9 ⟨rfl, hw9⟩
          rw [hw9]
          clear hw9
          refine hK.out _ _ trivial (fun hH => ?_)
          clear hK K
          refine wpAnyH_ready (rs := [13]) (by kernel_rfl) (by simp) ?_
          refine AllReadyH.cons rfl (fun K hK => ?_) AllReadyH.nil
          go_simp
          refine hK.out _ _ trivial (fun hH => ?_)
          clear hK K
          refine held_take 14 62 (v := .pointer (some ⟨g, u, none⟩)) rfl rfl (by kernel_rfl) (by kernel_rfl) (by kernel_rfl) (fun _ _ _ h => h) (Or.inl ⟨by kernel_rfl, fun w _ => by go_simp⟩) hH ?_
          (try simp only [List.setIfInBounds_toArray, List.set_cons_zero, List.set_cons_succ])
          refine wpAnyH_ready (rs := [15]) (by kernel_rfl) (by simp) ?_
          refine AllReadyH.cons rfl (fun K hK => ?_) AllReadyH.nil
          go_simp
          refine hK.out _ _ trivial (fun hH => ?_)
          clear hK K
          refine wpAnyH_done (by kernel_rfl) ?_ _
          go_simp
          go_wp2_with fail
          go_roundg (s - (r + 1))
          case rel => exact ⟨r + 1, t + 1, HLT2.out, rfl, HTN.out, by go_num, HT⟩
          case measure => rw [HGQ2.out]; exact HMS2.out
        · have htd : ¬ (t : Int) < (d : Int) := by omega
          have HE : Hid (∃ F, Fx [(g + 1, 29, cp), (g + 1 + 1, 30, arr .u16 256 fun _ => 0)] .u16 256 w wr g 30 F ∧ ∀ k, k < 256 → F k = prt (sp s f) s f (i + 1) 0 k) := Lib.hid (by
            obtain ⟨F, hT, hF⟩ := HQ2.out
            exact ⟨F, hT, fun k hk => by rw [hF k hk, show r = s by omega, prt_block _ HS.out]⟩)
          clear HQ2
          obtain ⟨hw2s, hw2s2⟩ := HW2S.out
          obtain ⟨hwb, hwb2, hwd, hwd2⟩ := HWB.out
          go_wp2_with fail
          go_roundg (m - (i + 1))
          case rel => exact ⟨i + 1, HLT.out, rfl, by go_num, HE⟩
          case measure => rw [HGQ.out]; exact HMS.out
    · have hii : ¬ (i : Int) < (m : Int) := by omega
      obtain ⟨F, hT, hF⟩ := HQ.out
      have he : arr .u16 256 F = arr .u16 256 (sp s f) := arr_ext fun j hj => by rw [hF j hj, show i = 128 / s by rw [HM.out]; omega, prt_end _ HS.out _ _ hj]
      have hr2 := hT.2.2
      have hr1 := hT.2.1 (g + 1 + 1, 30, arr .u16 256 fun _ => 0) (by simp)
      unfold LM at hr2
      rw [he] at hr2
      have hi2 := infP (sp s f)
      have hs2 : (arr .u16 256 fun _ => 0).size = (arr .u16 256 (sp s f)).size := by rw [arr_size, arr_size]
      have ho2 := arr_one .u16 256 (sp s f)
      have HP := Lib.hid hT.1
      clear hT hF he HQ HCP
      generalize hcc : arr .u16 256 (sp s f) = c2 at *
      have HCC := Lib.hid hcc
      clear hcc
      generalize arr .u16 256 (fun _ => 0) = c1 at *
      simp only at hr1
      go_wp2_with (first | (refine wpList_load_row rfl 30 _ rfl g rfl _ _ (0, 0) _ hr2 Tryz.underlying30 rfl hi2 ?_) | (refine wpList_store_row rfl 30 _ _ rfl (g + 1 + 1) _ rfl rfl _ _ hr1 hi2 hs2 ho2 ?_))
      refine bodyPost_ret (results_cell_row rfl _ _ (g + 1 + 1) _ c2 (0, 0) _ rfl (setRow_heap wr (g + 1 + 1) c1 c2 _ _ hr1) Tryz.underlying30 rfl hi2) rfl ?_
      exact ⟨by rw [HCC.out], below_setRow HP.out (by have := HGE.out; omega) _⟩
end Go.Proofs.YtalhdalmafhofaaGreatDoor
