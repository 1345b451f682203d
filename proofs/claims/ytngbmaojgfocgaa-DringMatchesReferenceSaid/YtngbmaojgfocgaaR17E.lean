/- The reference's Power and Inverse. -/
import Derived.Test.YtngbmaojgfocgaaR17F
namespace Go.Proofs.Ytngbmaojgfocgaa.dr
open Go.RowKit
set_option linter.unusedVariables false

/-- What Power's loop makes of p, z and e. -/
def powR : Nat → Int → Int → Nat → Int
  | 0, p, _, _ => p
  | n + 1, p, z, e => if e = 0 then p else powR n (if e % 2 = 1 then p * z % 8380417 else p) (z * z % 8380417) (e / 2)
theorem powR_zero (n : Nat) (p z : Int) : powR n p z 0 = p := by cases n <;> rfl
theorem powR_odd (n : Nat) (p z : Int) (e : Nat) (h : e % 2 = 1) : powR (n + 1) p z e = powR n (p * z % 8380417) (z * z % 8380417) (e / 2) := by
  rw [powR, if_neg (by omega), if_pos h]
theorem powR_even (n : Nat) (p z : Int) (e : Nat) (h : ¬ e % 2 = 1) (h0 : e ≠ 0) : powR (n + 1) p z e = powR n p (z * z % 8380417) (e / 2) := by
  rw [powR, if_neg h0, if_neg h]
theorem powR_root : ∀ i : Fin 256, powR 23 1 (rt i.val) 8380415 = iW i.val := by decide +kernel
set_option maxHeartbeats 4000000 in
set_option maxRecDepth 100000 in
theorem rpower_any (z0 : Int) (e0 : Nat) (hz : 0 ≤ z0 ∧ z0 < 8380417) (he : e0 < 2 ^ 23) (w : World) :
    Calls Try.prog 31 #[.int .i64 z0, .int .i64 (e0 : Int)] w fun e w' => e = .returned (.int .i64 (powR 23 1 z0 e0)) ∧ w' = w := by
  obtain ⟨R, hR⟩ : ∃ R, powR 23 1 z0 e0 = R := ⟨_, rfl⟩
  rw [hR]
  have HR := Lib.hid hR
  have HZ := Lib.hid hz
  have HE := Lib.hid he
  clear hR hz he
  go_enter Try.func31, Try.ntmps31
  go_wp2_with fail
  go_loopg [0, 1, 5] 23 (fun q s0 s1 s5 wx => ∃ (n : Nat) (e p z : Int), q = n ∧ s0 = .int .i64 z ∧ s1 = .int .i64 e ∧ s5 = .int .i64 p ∧ 0 ≤ e ∧ e ≤ 8388607 ∧ 0 ≤ z ∧ z < 8380417 ∧ 0 ≤ p ∧ p < 8380417 ∧ Hid (e.toNat < 2 ^ n ∧ n ≤ 23) ∧ Hid (powR n p z e.toNat = R) ∧ Hid (wx = w))
  case atStart => exact ⟨23, e0, 1, z0, rfl, rfl, rfl, rfl, by omega, by have := HE.out; omega, HZ.out.1, HZ.out.2, by decide, by decide, Lib.hid ⟨HE.out, Nat.le_refl _⟩, HR, Lib.hid rfl⟩
  case round =>
    obtain ⟨n, e, p, z, hq, rfl, rfl, rfl, hen, he1, z0', z1, p0, p1, HN, HPR, HW⟩ := hrel
    have HQ := Lib.hid hq
    clear hq HR HZ HE
    by_cases h0 : e = 0
    · subst h0
      have HP : Hid (p = R) := Lib.hid (by rw [← HPR.out]; exact (powR_zero _ _ _).symm)
      go_wp2_with fail
      go_ret
      exact ⟨by rw [HP.out]; rfl, HW.out⟩
    · have hpos : 0 < e := by omega
      obtain ⟨m, hm⟩ : ∃ m, n = m + 1 := by
        cases n with
        | zero => have := HN.out.1; simp at this; omega
        | succ m => exact ⟨m, rfl⟩
      obtain ⟨e2, hee⟩ : ∃ e2, e / 2 = e2 := ⟨_, rfl⟩
      have HE2 : Hid (e2.toNat < 2 ^ m ∧ m ≤ 23) := Lib.hid (by
        have h1 := HN.out.1
        rw [hm, Nat.pow_succ] at h1
        have := HN.out.2
        omega)
      have HEB : Hid (0 ≤ e2 ∧ e2 ≤ 8388607) := Lib.hid (by omega)
      have HET : Hid (e.toNat / 2 = e2.toNat) := Lib.hid (by omega)
      obtain ⟨k0, k1⟩ := mul_bd p0 p1 z0' z1
      obtain ⟨l0, l1⟩ := mul_bd z0' z1 z0' z1
      obtain ⟨pz, hpz⟩ : ∃ x, p * z = x := ⟨_, rfl⟩
      obtain ⟨zz, hzz⟩ : ∃ x, z * z = x := ⟨_, rfl⟩
      rw [hpz] at k0 k1
      rw [hzz] at l0 l1
      have hw1 : IntKind.i64.wrap (p * z) = pz := by rw [hpz, IntKind.wrap_i64]; omega
      have hw2 : IntKind.i64.wrap (z * z) = zz := by rw [hzz, IntKind.wrap_i64]; omega
      obtain ⟨zr, hzr⟩ : ∃ x, zz % 8380417 = x := ⟨_, rfl⟩
      have HZR : Hid (0 ≤ zr ∧ zr < 8380417 ∧ zz % 8380417 = zr) := Lib.hid (by omega)
      have HEW : Hid (wrap64 e2 = e2 ∧ wrap64 (e.tdiv 2) = e2 ∧ e / 2 = e2) := Lib.hid ⟨IntWalk.wrap64_in _ (by omega), by rw [Int.tdiv_eq_ediv_of_nonneg (by omega), hee]; exact IntWalk.wrap64_in _ (by omega), hee⟩
      have hew := HEW.out.1
      by_cases ho : e.toNat % 2 = 1
      · have hoI : e % 2 = 1 := by omega
        obtain ⟨pr, hpr⟩ : ∃ x, pz % 8380417 = x := ⟨_, rfl⟩
        have HPB : Hid (0 ≤ pr ∧ pr < 8380417 ∧ pz % 8380417 = pr) := Lib.hid (by omega)
        have HNX : Hid (powR m pr zr e2.toNat = R) := Lib.hid (by rw [← HPR.out, hm, powR_odd _ _ _ _ ho, hpz, hzz, hpr, hzr, HET.out])
        have HMQ : Hid (m < n) := Lib.hid (by omega)
        clear hm ho h0 hpz hzz HPR HN
        go_wp2_with fail
        go_roundg m
        case rel => exact ⟨m, e2, pr, zr, rfl, by first | rfl | exact congrArg (Value.int .i64) HZR.out.2.2, by first | rfl | exact congrArg (Value.int .i64) HEW.out.2.1 | exact congrArg (Value.int .i64) HEW.out.2.2, by first | rfl | exact congrArg (Value.int .i64) HPB.out.2.2, HEB.out.1, HEB.out.2, HZR.out.1, HZR.out.2.1, HPB.out.1, HPB.out.2.1, HE2, HNX, HW⟩
        case measure => have := HQ.out; have := HMQ.out; omega
      · have hoI : e % 2 = 0 := by omega
        have HNX : Hid (powR m p zr e2.toNat = R) := Lib.hid (by rw [← HPR.out, hm, powR_even _ _ _ _ ho (by omega), hzz, hzr, HET.out])
        have HMQ : Hid (m < n) := Lib.hid (by omega)
        have HPB : Hid (0 ≤ p ∧ p < 8380417) := Lib.hid ⟨p0, p1⟩
        clear hm ho h0 hpz hzz HPR HN
        go_wp2_with fail
        go_roundg m
        case rel => exact ⟨m, e2, p, zr, rfl, by first | rfl | exact congrArg (Value.int .i64) HZR.out.2.2, by first | rfl | exact congrArg (Value.int .i64) HEW.out.2.1 | exact congrArg (Value.int .i64) HEW.out.2.2, rfl, HEB.out.1, HEB.out.2, HZR.out.1, HZR.out.2.1, HPB.out.1, HPB.out.2, HE2, HNX, HW⟩
        case measure => have := HQ.out; have := HMQ.out; omega
/-- The coefficients while the value i is added to the first k of them. -/
def ivk (v : Nat → Int) (i k : Nat) (j : Nat) : Int := if j < k then iv v (i + 1) j else iv v i j
theorem ivk_zero (v : Nat → Int) (i : Nat) : ivk v i 0 = iv v i := by funext j; simp [ivk]
theorem ivk_succ (v : Nat → Int) (i k : Nat) : ivk v i (k + 1) = upd (ivk v i k) k ((ivk v i k k + xk v i k) % 8380417) := by
  funext j
  unfold upd ivk
  by_cases h : j = k
  · subst h
    rw [if_pos (by omega), if_pos rfl, if_neg (by omega)]
    rfl
  · rw [if_neg h]
    by_cases h2 : j < k
    · rw [if_pos (by omega), if_pos h2]
    · rw [if_neg (by omega), if_neg h2]
theorem ivk_low (v : Nat → Int) (i k j : Nat) : 0 ≤ ivk v i k j ∧ ivk v i k j < 8380417 := by unfold ivk; split <;> exact iv_low _ _ _
set_option maxHeartbeats 8000000 in
set_option maxRecDepth 100000 in
theorem rinverse_any (f : Nat → Int) (hf : ∀ j, 0 ≤ f j ∧ f j < 4294967296) (w : World) :
    Calls Try.prog 14 #[.agg (arr .u32 256 f)] w fun e w' => e = .returned (.agg (arr .u32 256 (iv f 256))) ∧ Past w w' := by
  have HC := Lib.hid (fun i (hi : i < 256) => arr_get .u32 256 f i hi)
  have HF := Lib.hid hf
  obtain ⟨g, hg⟩ : ∃ g, w.heap.size = g := ⟨_, rfl⟩
  obtain ⟨w3, hw3⟩ : ∃ w', w' = ((w.alloc (.cells (arr .u32 256 f) 25)).alloc (.cells (arr .u32 256 fun _ => 0) 25)).alloc (.cells (arr .i64 256 fun _ => 0) 49) := ⟨_, rfl⟩
  have H0 : Hid (Fx [(g, 25, arr .u32 256 f), (g + 1, 25, arr .u32 256 fun _ => 0)] .i64 256 w w3 (g + 1 + 1) 49 fun _ => 0) := Lib.hid (by
    have h := Three.new .i64 256 w 25 25 49 (arr .u32 256 f) (arr .u32 256 fun _ => 0) fun _ => 0
    rw [hg, ← hw3] at h
    exact h.fx)
  have HGE : Hid (w.heap.size = g) := Lib.hid hg
  have HW3 := Lib.hid hw3
  clear hf hw3
  generalize arr .u32 256 f = cs at *
  go_enter Try.func14, Try.ntmps14
  have hz := zero256
  have hz2 := zero256i
  go_upto_region 2 with (fail)
  clear hz hz2
  rw [← HW3.out]
  try rw [hg]
  clear HW3 hg
  go_wp2_with fail
  go_loopg [4] 256 (fun q s4 wx => ∃ i : Nat, i ≤ 256 ∧ q = 256 - i ∧ s4 = .int .i64 (i : Int) ∧ Hid (Fx [(g, 25, cs), (g + 1, 25, arr .u32 256 fun _ => 0)] .i64 256 w wx (g + 1 + 1) 49 (iv f i)))
  case atStart => exact ⟨0, Nat.zero_le _, rfl, rfl, H0⟩
  case round =>
    clear H0
    obtain ⟨i, hi, hq, rfl, HQ⟩ := hrel
    have HGQ := Lib.hid hq
    clear hq
    have hi0 : (0 : Int) ≤ (i : Int) := by omega
    by_cases hlt : i < 256
    · have hii : (i : Int) < 256 := by omega
      have HLT := Lib.hid hlt
      have HRT := Lib.hid (fun w => rroot_any i hlt w)
      have HPW := Lib.hid (fun w => rpower_any (rt i) 8380415 (rt_lt i) (by decide) w)
      rw [show powR 23 1 (rt i) 8380415 = iW i from powR_root ⟨i, hlt⟩] at HPW
      have hT0 := HQ.out
      have ka : wr.cell? ⟨g, i, none⟩ = some (.int .u32 (f i)) := by
        rw [(hT0.2.1 (g, 25, cs) (by simp)).cell]
        exact HC.out i hlt
      obtain ⟨A0, A1⟩ := HF.out i
      have HXZ : Hid (xk f i 0 = f i % 8380417 * 8347681 % 8380417) := Lib.hid rfl
      have HXS : Hid (∀ k, xk f i (k + 1) = xk f i k * iW i % 8380417) := Lib.hid fun k => rfl
      have HIV := Lib.hid (ivk_zero f i)
      have HIE : Hid (ivk f i 256 = ivk f i 256) := Lib.hid rfl
      obtain ⟨p, hp⟩ : ∃ p, f i = p := ⟨_, rfl⟩
      rw [hp] at ka A0 A1 HXZ
      obtain ⟨x, hx⟩ : ∃ x, p % 8380417 = x := ⟨_, rfl⟩
      have hx0 : 0 ≤ x := by omega
      have hx1 : x < 8380417 := by omega
      obtain ⟨y, hy⟩ : ∃ y, x * 8347681 % 8380417 = y := ⟨_, rfl⟩
      have HY : Hid (y = xk f i 0) := Lib.hid (by rw [HXZ.out, hx, hy])
      have hwx : IntKind.i64.wrap (x * 8347681) = x * 8347681 := by rw [IntKind.wrap_i64]; omega
      have HYB : Hid (0 ≤ y ∧ y < 8380417) := Lib.hid (by omega)
      have HYE := Lib.hid hy
      have HVB : Hid (0 ≤ iW i ∧ iW i < 8380417) := Lib.hid (pw_lt _)
      clear hlt hi hT0 hp HXZ
      generalize rt i = z at *
      obtain ⟨v, hv⟩ : ∃ v, iW i = v := ⟨_, rfl⟩
      rw [hv] at HPW HXS HVB
      clear hv
      go_wp2_with fail
      refine (HRT.out _).mono ?_
      rintro e w4 ⟨rfl, hw⟩
      rw [hw]
      clear hw w4
      go_wp2_with fail
      refine (HPW.out _).mono ?_
      rintro e w4 ⟨rfl, hw⟩
      rw [hw]
      clear hw w4
      go_wp2_with fail
      clear ka hx hy hwx
      go_loopg [7, 8] 256 (fun q s7 s8 wx => ∃ (k : Nat) (x : Int), k ≤ 256 ∧ q = 256 - k ∧ s7 = .int .i64 x ∧ s8 = .int .i64 (k : Int) ∧ 0 ≤ x ∧ x < 8380417 ∧ Hid (x = xk f i k) ∧ Hid (Fx [(g, 25, cs), (g + 1, 25, arr .u32 256 fun _ => 0)] .i64 256 w wx (g + 1 + 1) 49 (ivk f i k)))
      case atStart => exact ⟨0, y, Nat.zero_le _, rfl, by first | rfl | exact congrArg (Value.int .i64) HYE.out, rfl, HYB.out.1, HYB.out.2, HY, Lib.hid (by rw [HIV.out]; exact HQ.out)⟩
      case round =>
        obtain ⟨k, x, hk, hq, rfl, rfl, x0, x1, HX, HT⟩ := hrel
        have HGQ2 := Lib.hid hq
        clear hq
        have hk0 : (0 : Int) ≤ (k : Int) := by omega
        by_cases hlt2 : k < 256
        · have hkk : (k : Int) < 256 := by omega
          have HLT2 := Lib.hid hlt2
          have hT := HT.out
          have hc1 := hT.2.2.at k hlt2
          have hf1 := hT.2.2.fr k
          obtain ⟨o0, o1⟩ := ivk_low f i k k
          have hT1 := hT.put (by have := HGE.out; omega) (by intro x hx; simp at hx; rcases hx with rfl | rfl <;> simp <;> omega) k hlt2 ((ivk f i k k + xk f i k) % 8380417)
          have HT2 : Hid (Fx _ _ _ _ _ _ _ (ivk f i (k + 1))) := Lib.hid (by rw [ivk_succ]; exact hT1)
          rw [← HX.out] at HT2
          obtain ⟨o, ho⟩ : ∃ o, ivk f i k k = o := ⟨_, rfl⟩
          rw [ho] at hc1 o0 o1 HT2
          obtain ⟨t, ht⟩ : ∃ t, (o + x) % 8380417 = t := ⟨_, rfl⟩
          rw [ht] at HT2
          obtain ⟨m0, m1⟩ := mul_bd x0 x1 HVB.out.1 HVB.out.2
          obtain ⟨m, hm⟩ : ∃ m, x * v = m := ⟨_, rfl⟩
          rw [hm] at m0 m1
          have hwm : IntKind.i64.wrap (x * v) = m := by rw [hm, IntKind.wrap_i64]; omega
          obtain ⟨x', hx'⟩ : ∃ x', m % 8380417 = x' := ⟨_, rfl⟩
          have HXE := Lib.hid hx'
          have HX' : Hid (x' = xk f i (k + 1) ∧ 0 ≤ x' ∧ x' < 8380417) := Lib.hid ⟨by rw [HXS.out k, ← HX.out, hm, hx'], by omega, by omega⟩
          clear hT hT1 ho hm hk hlt2 HT
          go_wp2_with fail
          go_roundg (256 - (k + 1))
          case rel => exact ⟨k + 1, x', HLT2.out, rfl, by first | rfl | exact congrArg (Value.int .i64) HXE.out, by go_num, HX'.out.2.1, HX'.out.2.2, Lib.hid HX'.out.1, HT2⟩
          case measure => have := HGQ2.out; have := HLT2.out; omega
        · obtain rfl : k = 256 := by omega
          have HE : Hid (Fx [(g, 25, cs), (g + 1, 25, arr .u32 256 fun _ => 0)] .i64 256 w wr (g + 1 + 1) 49 (iv f (i + 1))) := Lib.hid ⟨HT.out.1, HT.out.2.1, by
            have h := HT.out.2.2
            unfold LM at h ⊢
            rw [arr_ext (f := iv f (i + 1)) (g := ivk f i 256) fun j hj => by unfold ivk; rw [if_pos hj]]
            exact h⟩
          go_wp2_with fail
          go_roundg (256 - (i + 1))
          case rel => exact ⟨i + 1, HLT.out, rfl, by go_num, HE⟩
          case measure => have := HGQ.out; have := HLT.out; omega
    · obtain rfl : i = 256 := by omega
      have hT := HQ.out
      obtain ⟨u, hu⟩ : ∃ u, wr.heap.size = u := ⟨_, rfl⟩
      obtain ⟨w5, hw5⟩ : ∃ w', wr.alloc (.cells (arr .u32 256 fun _ => 0) 25) = w' := ⟨_, rfl⟩
      have hLL := (hT.2.2 : Row _ _ _ _).lt
      have H5 : Hid (Fx [(g + 1, 25, arr .u32 256 fun _ => 0), (g + 1 + 1, 49, arr .i64 256 (iv f 256))] .u32 256 w w5 u 25 fun _ => 0) := Lib.hid (by
        rw [← hw5, ← hu]
        refine ⟨hT.1.alloc hT.1.size _, ?_, Row.new _ _ _⟩
        intro x hx
        rcases List.mem_cons.1 hx with rfl | hx
        · exact (hT.2.1 (g + 1, 25, arr .u32 256 fun _ => 0) (by simp)).alloc _
        · rcases List.mem_cons.1 hx with rfl | hx
          · exact Row.alloc hT.2.2 _
          · cases hx)
      have HU : Hid (w.heap.size ≤ u ∧ g + 1 + 1 < u) := Lib.hid ⟨by rw [← hu]; exact hT.1.size, by omega⟩
      have HW5 := Lib.hid hw5
      have HUE := Lib.hid hu
      clear hT HQ HF HC hw5 hLL hi0 hi hlt hu
      have hz := zero256
      go_upto_region 14 with (fail)
      clear hz
      rw [HW5.out]
      try rw [HUE.out]
      clear HW5 HUE
      go_wp2_with fail
      go_loopg [10] 256 (fun q s10 wx => ∃ i : Nat, i ≤ 256 ∧ q = 256 - i ∧ s10 = .int .i64 (i : Int) ∧ Hid (∃ F, Fx [(g + 1, 25, arr .u32 256 fun _ => 0), (g + 1 + 1, 49, arr .i64 256 (iv f 256))] .u32 256 w wx u 25 F ∧ ∀ j, j < i → F j = iv f 256 j))
      case atStart => exact ⟨0, Nat.zero_le _, rfl, rfl, Lib.hid ⟨_, H5.out, fun j hj => absurd hj (by omega)⟩⟩
      case round =>
        clear H5
        obtain ⟨i, hi, hq, rfl, HQ⟩ := hrel
        have HGQ2 := Lib.hid hq
        clear hq
        have hi0 : (0 : Int) ≤ (i : Int) := by omega
        obtain ⟨F, hT, hF⟩ := HQ.out
        by_cases hlt : i < 256
        · have hii : (i : Int) < 256 := by omega
          have HLT := Lib.hid hlt
          obtain ⟨l0, l1⟩ := iv_low f 256 i
          obtain ⟨v, hv⟩ : ∃ v, iv f 256 i = v := ⟨_, rfl⟩
          have ka : wr.cell? ⟨g + 1 + 1, i, none⟩ = some (.int .i64 v) := by
            rw [(hT.2.1 (g + 1 + 1, 49, arr .i64 256 (iv f 256)) (by simp)).cell, arr_get .i64 256 _ i hlt, hv]
          rw [hv] at l0 l1
          have hc1 := hT.2.2.at i hlt
          have hf1 := hT.2.2.fr i
          have hT1 := hT.put HU.out.1 (by intro x hx; have := HU.out.2; simp at hx; rcases hx with rfl | rfl <;> simp <;> omega) i hlt v
          have HT2 := Lib.hid (show ∃ F', Fx _ _ _ _ _ _ _ F' ∧ ∀ j, j < i + 1 → F' j = iv f 256 j from ⟨_, hT1, fun j hj => by
            by_cases e1 : j = i
            · subst e1; rw [upd_at, hv]
            · rw [upd_ne _ _ e1]; exact hF j (by omega)⟩)
          clear hT hF hT1 HQ hv hlt hi
          go_wp2_with fail
          go_roundg (256 - (i + 1))
          case rel => exact ⟨i + 1, HLT.out, rfl, by go_num, HT2⟩
          case measure => have := HGQ2.out; have := HLT.out; omega
        · obtain rfl : i = 256 := by omega
          have he : arr .u32 256 F = arr .u32 256 (iv f 256) := arr_ext fun j hj => hF j (by omega)
          have hr2 := hT.2.2
          have hr1 := hT.2.1 (g + 1, 25, arr .u32 256 fun _ => 0) (by simp)
          unfold LM at hr2
          rw [he] at hr2
          have hi2 := inf256 (iv f 256)
          have hs2 : (arr .u32 256 fun _ => 0).size = (arr .u32 256 (iv f 256)).size := by rw [arr_size, arr_size]
          have ho2 := arr_one .u32 256 (iv f 256)
          have HP := Lib.hid hT.1
          clear hT hF he HQ
          generalize hcc : arr .u32 256 (iv f 256) = c2 at *
          have HCC := Lib.hid hcc
          clear hcc
          generalize arr .u32 256 (fun _ => 0) = c1 at *
          simp only at hr1
          go_wp2_with (first | (refine wpList_load_row rfl 25 _ rfl u rfl _ _ (0, 0) _ hr2 Try.underlying25 rfl hi2 ?_) | (refine wpList_store_row rfl 25 _ _ rfl (g + 1) _ rfl rfl _ _ hr1 hi2 hs2 ho2 ?_))
          refine bodyPost_ret (results_cell_row rfl _ _ (g + 1) _ c2 (0, 0) _ rfl (setRow_heap wr (g + 1) c1 c2 _ _ hr1) Try.underlying25 rfl hi2) rfl ?_
          exact ⟨by rw [HCC.out], below_setRow HP.out (by have := HGE.out; omega) _⟩
end Go.Proofs.Ytngbmaojgfocgaa.dr
