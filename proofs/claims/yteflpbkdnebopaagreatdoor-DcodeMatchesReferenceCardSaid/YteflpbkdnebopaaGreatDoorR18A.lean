/- The reference's Vectors, width and Size. -/
import Derived.Test.YteflpbkdnebopaaGreatDoorK18
import Derived.Test.YteflpbkdnebopaaGreatDoorArr
import Derived.Deep.RegionHeld
import Derived.Deep.Cut
import Derived.IntWalk
namespace Go.Proofs.YteflpbkdnebopaaGreatDoor
open Go.RowKit
set_option linter.unusedVariables false
set_option maxRecDepth 100000

theorem quiet_at18 {P : Program} {f : FuncId} {args : Array Value} {w : World} {n : Nat} {v : Value}
    (h : Calls P f args (w.drewN n) fun e w' => e = .returned v ∧ w' = w.drewN n) : Calls P f args (w.drewN n) fun e w'' => e = .returned v ∧ ∃ m, w'' = w.drewN m :=
  h.mono fun _ _ ⟨he, hm⟩ => ⟨he, n, hm⟩
/-- The three numbers of an algorithm, in memory. -/
def VecP (a : Int) (w : World) (e : Ending) (w' : World) : Prop :=
  ∃ b, e = .returned (.slice (some ⟨b, 0, none⟩) 3 3) ∧ Row w' b 3 #[.int .i64 (kD a : Int), .int .i64 (lD a : Int), .int .i64 (eD a : Int)] ∧ Past w w'
set_option maxHeartbeats 4000000 in
theorem rvec_out (a : Int) (h : a < 4 ∨ 6 < a) (w : World) : Calls Tryz.prog 9 #[.int .i64 a] w (VecP a w) := by
  have hk : kD a = 0 := by unfold kD; rw [if_neg (by omega), if_neg (by omega), if_neg (by omega)]
  have hl : lD a = 0 := by unfold lD; rw [if_neg (by omega), if_neg (by omega), if_neg (by omega)]
  have he : eD a = 0 := by unfold eD; rw [if_neg (by omega), if_neg (by omega), if_neg (by omega)]
  unfold VecP
  rw [hk, hl, he]
  clear hk hl he
  rcases h with h | h
  · go_enter Tryz.func9, Tryz.ntmps9
    go_wp2_with fail
    go_ret
    exact ⟨_, rfl, Row.new _ _ _, (Below.refl _ _).alloc (Nat.le_refl _) _⟩
  · have h2 : ¬ a < 4 := by omega
    go_enter Tryz.func9, Tryz.ntmps9
    go_wp2_with fail
    go_ret
    exact ⟨_, rfl, Row.new _ _ _, (Below.refl _ _).alloc (Nat.le_refl _) _⟩
theorem four_new (w : World) (t s : TypeId) (c0 c1 c2 c3 : Array Value) :
    Row ((((w.alloc (.cells c0 t)).alloc (.cells c1 t)).alloc (.cells c2 t)).alloc (.cells c3 s)) w.heap.size t c0 ∧
    Row ((((w.alloc (.cells c0 t)).alloc (.cells c1 t)).alloc (.cells c2 t)).alloc (.cells c3 s)) (w.heap.size + 1) t c1 ∧
    Row ((((w.alloc (.cells c0 t)).alloc (.cells c1 t)).alloc (.cells c2 t)).alloc (.cells c3 s)) (w.heap.size + 1 + 1) t c2 ∧
    Past w ((((w.alloc (.cells c0 t)).alloc (.cells c1 t)).alloc (.cells c2 t)).alloc (.cells c3 s)) := by
  refine ⟨(((Row.new w t c0).alloc _).alloc _).alloc _, ?_, ?_, ((((Below.refl _ _).alloc (Nat.le_refl _) _).alloc (by simp) _).alloc (by simp; omega) _).alloc (by simp; omega) _⟩
  · have h := ((Row.new (w.alloc (.cells c0 t)) t c1).alloc (.cells c2 t)).alloc (.cells c3 s)
    rw [World.size_alloc] at h
    exact h
  · have h := (Row.new ((w.alloc (.cells c0 t)).alloc (.cells c1 t)) t c2).alloc (.cells c3 s)
    rw [World.size_alloc, World.size_alloc] at h
    exact h
set_option maxHeartbeats 4000000 in
theorem rvec_4 (w : World) : Calls Tryz.prog 9 #[.int .i64 4] w (VecP 4 w) := by
  unfold VecP
  go_enter Tryz.func9, Tryz.ntmps9
  go_wp2_with fail
  go_ret
  exact ⟨_, rfl, (four_new w _ _ _ _ _ _).1, (four_new w _ _ _ _ _ _).2.2.2⟩
set_option maxHeartbeats 4000000 in
theorem rvec_5 (w : World) : Calls Tryz.prog 9 #[.int .i64 5] w (VecP 5 w) := by
  unfold VecP
  go_enter Tryz.func9, Tryz.ntmps9
  go_wp2_with fail
  go_ret
  exact ⟨_, rfl, (four_new w _ _ _ _ _ _).2.1, (four_new w _ _ _ _ _ _).2.2.2⟩
set_option maxHeartbeats 4000000 in
theorem rvec_6 (w : World) : Calls Tryz.prog 9 #[.int .i64 6] w (VecP 6 w) := by
  unfold VecP
  go_enter Tryz.func9, Tryz.ntmps9
  go_wp2_with fail
  go_ret
  exact ⟨_, rfl, (four_new w _ _ _ _ _ _).2.2.1, (four_new w _ _ _ _ _ _).2.2.2⟩
theorem rvec_any (a : Int) (w : World) : Calls Tryz.prog 9 #[.int .i64 a] w (VecP a w) := by
  by_cases h : a < 4 ∨ 6 < a
  · exact rvec_out a h w
  · have : a = 4 ∨ a = 5 ∨ a = 6 := by omega
    rcases this with rfl | rfl | rfl
    · exact rvec_4 w
    · exact rvec_5 w
    · exact rvec_6 w
theorem rwidth_any (e : Int) (h : e = 0 ∨ e = 2 ∨ e = 4) (w : World) : Calls Tryz.prog 26 #[.int .i64 e] w fun r w' => r = .returned (.int .i64 (3 + e / 4)) ∧ w' = w := by
  rcases h with rfl | rfl | rfl
  all_goals
    go_enter Tryz.func26, Tryz.ntmps26
    go_wp2_with fail
    go_ret
    exact ⟨rfl, rfl⟩
theorem eD_in (a : Int) : (eD a : Int) = 0 ∨ (eD a : Int) = 2 ∨ (eD a : Int) = 4 := by unfold eD; split <;> (try split) <;> (try split) <;> simp
theorem wD_of (a : Int) : 3 + (eD a : Int) / 4 = (wD a : Int) := by
  unfold eD wD
  split
  · rename_i h; subst h; rfl
  · split
    · rfl
    · split <;> rfl
theorem kD_le (a : Int) : kD a ≤ 8 := by unfold kD; split <;> (try split) <;> (try split) <;> omega
theorem lD_le (a : Int) : lD a ≤ 7 := by unfold lD; split <;> (try split) <;> (try split) <;> omega
set_option maxHeartbeats 4000000 in
theorem rsize18_any (a : Int) (w : World) : Calls Tryz.prog 29 #[.int .i64 a] w fun r w' => r = .returned (.int .i64 (sD a : Int)) ∧ Past w w' := by
  have HV := Lib.hid (rvec_any a w)
  have HW := Lib.hid (fun w => rwidth_any (eD a) (eD_in a) w)
  have HWD := Lib.hid (wD_of a)
  rw [HWD.out] at HW
  have HR : Hid (sD a = 128 + 32 * wD a * (kD a + lD a) + 416 * kD a) := Lib.hid rfl
  have hk := kD_le a
  have hl := lD_le a
  have hww := wD_le a
  unfold VecP at HV
  generalize sD a = s at *
  generalize kD a = k at *
  generalize lD a = l at *
  generalize wD a = wd at *
  generalize eD a = e0 at *
  obtain ⟨x, hx⟩ : ∃ x, 32 * wd = x := ⟨_, rfl⟩
  obtain ⟨y, hy⟩ : ∃ y, k + l = y := ⟨_, rfl⟩
  obtain ⟨z, hz⟩ : ∃ z, x * y = z := ⟨_, rfl⟩
  have hzb : z ≤ 1920 := by rw [← hz]; exact Nat.le_trans (Nat.mul_le_mul (show x ≤ 128 by omega) (show y ≤ 15 by omega)) (by decide)
  have hxyI : (x : Int) * (y : Int) = (z : Int) := by rw [← hz]; exact (Int.natCast_mul _ _).symm
  have hs : 128 + z + 416 * k = s := by have := HR.out; rw [hx, hy, hz] at this; exact this.symm
  have HWW : Hid (IntKind.i64.wrap (32 * (wd : Int)) = (x : Int) ∧ wrap64 (x : Int) = (x : Int) ∧ IntKind.i64.wrap ((k : Int) + (l : Int)) = (y : Int) ∧ wrap64 (y : Int) = (y : Int) ∧ IntKind.i64.wrap ((x : Int) * (y : Int)) = (z : Int) ∧ wrap64 (z : Int) = (z : Int) ∧ IntKind.i64.wrap (128 + (z : Int)) = 128 + (z : Int) ∧ IntKind.i64.wrap (416 * (k : Int)) = 416 * (k : Int) ∧ IntKind.i64.wrap (128 + (z : Int) + 416 * (k : Int)) = (s : Int)) := Lib.hid
    ⟨by rw [IntKind.wrap_i64]; omega, IntWalk.wrap64_in _ (by omega), by rw [IntKind.wrap_i64]; omega, IntWalk.wrap64_in _ (by omega), by rw [hxyI, IntKind.wrap_i64]; omega, IntWalk.wrap64_in _ (by omega), by rw [IntKind.wrap_i64]; omega, by rw [IntKind.wrap_i64]; omega, by rw [IntKind.wrap_i64]; omega⟩
  clear hx hy hz hzb hxyI hs hk hl hww HR
  go_enter Tryz.func29, Tryz.ntmps29
  go_wp2_with fail
  refine HV.out.mono ?_
  rintro r w1 ⟨b, rfl, hr1, hp1⟩
  have HP1 := Lib.hid hp1
  have HR1 := Lib.hid hr1
  have k0 : w1.cell? ⟨b, 0, none⟩ = some (.int .i64 (k : Int)) := by rw [hr1.cell]; rfl
  have k1 : w1.cell? ⟨b, 1, none⟩ = some (.int .i64 (l : Int)) := by rw [hr1.cell]; rfl
  have k2 : w1.cell? ⟨b, 2, none⟩ = some (.int .i64 (e0 : Int)) := by rw [hr1.cell]; rfl
  clear hp1 hr1 HV
  go_upto_region 2 with (fail)
  obtain ⟨h1, h2, h3, h4, h5, h6, h7, h8, h9⟩ := HWW.out
  go_quiet ((go_at_call 26; exact quiet_at18 (HW.out _)))
  go_wp2_with fail
  go_ret
  exact ⟨rfl, HP1.out.drewN _⟩
end Go.Proofs.YteflpbkdnebopaaGreatDoor
