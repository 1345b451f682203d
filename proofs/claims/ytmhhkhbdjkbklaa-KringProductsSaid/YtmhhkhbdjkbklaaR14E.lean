/- The reference's Mul. -/
import Derived.Test.YtmhhkhbdjkbklaaR14D
namespace Go.Proofs.Ytmhhkhbdjkbklaa
open Go.RowKit
set_option linter.unusedVariables false

/-- The product in the transform, reckoned as the reference does. -/
theorem mul_at (a b : Nat → Int) (i : Nat) :
    (a (2 * i) % 3329 * (b (2 * i) % 3329) % 3329 + a (2 * i + 1) % 3329 * (b (2 * i + 1) % 3329) % 3329 * rt i % 3329) % 3329 = mulF a b (2 * i)
    ∧ (a (2 * i) % 3329 * (b (2 * i + 1) % 3329) % 3329 + a (2 * i + 1) % 3329 * (b (2 * i) % 3329) % 3329) % 3329 = mulF a b (2 * i + 1) := by
  have e0 : mulF a b (2 * i) = (a (2 * i) * b (2 * i) + rt i * a (2 * i + 1) * b (2 * i + 1)) % 3329 := by
    unfold mulF
    rw [if_pos (by omega), show 2 * i / 2 = i by omega]
  have e1 : mulF a b (2 * i + 1) = (a (2 * i) * b (2 * i + 1) + a (2 * i + 1) * b (2 * i)) % 3329 := by
    unfold mulF
    rw [if_neg (by omega), show 2 * i + 1 - 1 = 2 * i by omega]
  rw [e0, e1]
  constructor
  · refine ((cg_c _ _).add (((cg.mod _).trans ((cg_c _ _).mul (cg.refl _))).trans (cg.of_eq ?_))).eq
    grind
  · exact ((cg_c _ _).add (cg_c _ _)).eq
set_option maxHeartbeats 4000000 in
set_option maxRecDepth 100000 in
theorem rmul_any (a b : Nat → Int) (ha : ∀ j, 0 ≤ a j ∧ a j < 65536) (hb : ∀ j, 0 ≤ b j ∧ b j < 65536) (w : World) :
    Calls Try.prog 16 #[.agg (arr .u16 256 a), .agg (arr .u16 256 b)] w fun e w' => e = .returned (.agg (arr .u16 256 (mulF a b))) ∧ Past w w' := by
  have HCA := Lib.hid (fun i (hi : i < 256) => arr_get .u16 256 a i hi)
  have HCB := Lib.hid (fun i (hi : i < 256) => arr_get .u16 256 b i hi)
  have HFA := Lib.hid ha
  have HFB := Lib.hid hb
  obtain ⟨g, hg⟩ : ∃ g, w.heap.size = g := ⟨_, rfl⟩
  obtain ⟨w3, hw3⟩ : ∃ w', w' = (((w.alloc (.cells (arr .u16 256 a) 26)).alloc (.cells (arr .u16 256 b) 26)).alloc (.cells (arr .u16 256 fun _ => 0) 26)).alloc (.cells (arr .u16 256 fun _ => 0) 26) := ⟨_, rfl⟩
  have H0 : Hid (Fx [(g, 26, arr .u16 256 a), (g + 1, 26, arr .u16 256 b), (g + 1 + 1, 26, arr .u16 256 fun _ => 0)] .u16 256 w w3 (g + 1 + 1 + 1) 26 fun _ => 0) := Lib.hid (by
    have h := four_fx w 26 26 26 26 (arr .u16 256 a) (arr .u16 256 b) (arr .u16 256 fun _ => 0) .u16 256 fun _ => 0
    rw [hg, ← hw3] at h
    exact h)
  have HGE : Hid (w.heap.size = g) := Lib.hid hg
  have HW3 := Lib.hid hw3
  clear ha hb hw3
  generalize arr .u16 256 a = ca at *
  generalize arr .u16 256 b = cb at *
  go_enter Try.func16, Try.ntmps16
  have hz := zero256
  go_upto_region 2 with (fail)
  clear hz
  rw [← HW3.out]
  try rw [hg]
  clear HW3 hg
  go_wp2_with fail
  go_loopg [6] 128 (fun q s6 wx => ∃ i : Nat, i ≤ 128 ∧ q = 128 - i ∧ s6 = .int .i64 (i : Int) ∧ Hid (∃ F, Fx [(g, 26, ca), (g + 1, 26, cb), (g + 1 + 1, 26, arr .u16 256 fun _ => 0)] .u16 256 w wx (g + 1 + 1 + 1) 26 F ∧ ∀ j, j < 2 * i → F j = mulF a b j))
  case atStart => exact ⟨0, Nat.zero_le _, rfl, rfl, Lib.hid ⟨_, H0.out, fun j hj => absurd hj (by omega)⟩⟩
  case round =>
    clear H0
    obtain ⟨i, hi, hq, rfl, HQ⟩ := hrel
    have HGQ := Lib.hid hq
    clear hq
    have hi0 : (0 : Int) ≤ (i : Int) := by omega
    obtain ⟨F, hT, hF⟩ := HQ.out
    by_cases hlt : i < 128
    · have hii : (i : Int) < 128 := by omega
      have HLT := Lib.hid hlt
      have HRT := Lib.hid (fun w => rroot_any i hlt w)
      obtain ⟨z0, z1⟩ := rt_lt i
      have HM := Lib.hid (mul_at a b i)
      obtain ⟨z, hz⟩ : ∃ z, rt i = z := ⟨_, rfl⟩
      rw [hz] at HRT z0 z1 HM
      have hca := hT.2.1 (g, 26, ca) (by simp)
      have hcb := hT.2.1 (g + 1, 26, cb) (by simp)
      have ka0 : wr.cell? ⟨g, 2 * i, none⟩ = some (.int .u16 (a (2 * i))) := by rw [hca.cell]; exact HCA.out (2 * i) (by omega)
      have ka1 : wr.cell? ⟨g, 2 * i + 1, none⟩ = some (.int .u16 (a (2 * i + 1))) := by rw [hca.cell]; exact HCA.out (2 * i + 1) (by omega)
      have kb0 : wr.cell? ⟨g + 1, 2 * i, none⟩ = some (.int .u16 (b (2 * i))) := by rw [hcb.cell]; exact HCB.out (2 * i) (by omega)
      have kb1 : wr.cell? ⟨g + 1, 2 * i + 1, none⟩ = some (.int .u16 (b (2 * i + 1))) := by rw [hcb.cell]; exact HCB.out (2 * i + 1) (by omega)
      obtain ⟨a00, a01⟩ := HFA.out (2 * i)
      obtain ⟨a10, a11⟩ := HFA.out (2 * i + 1)
      obtain ⟨b00, b01⟩ := HFB.out (2 * i)
      obtain ⟨b10, b11⟩ := HFB.out (2 * i + 1)
      obtain ⟨r0, hr0⟩ : ∃ r, mulF a b (2 * i) = r := ⟨_, rfl⟩
      obtain ⟨r1, hr1⟩ : ∃ r, mulF a b (2 * i + 1) = r := ⟨_, rfl⟩
      rw [hr0, hr1] at HM
      have HR01 := Lib.hid (And.intro hr0 hr1)
      have hc1 := hT.2.2.at (2 * i) (by omega)
      have hf1 := hT.2.2.fr (2 * i)
      have hT1 := hT.put (by have := HGE.out; omega) (by intro x hx; simp at hx; rcases hx with rfl | rfl | rfl <;> simp <;> omega) (2 * i) (by omega) r0
      have hc2 := hT1.2.2.at (2 * i + 1) (by omega)
      have hf2 := hT1.2.2.fr (2 * i + 1)
      have hca1 := hT1.2.1 (g, 26, ca) (by simp)
      have hT2 := hT1.put (by have := HGE.out; omega) (by intro x hx; simp at hx; rcases hx with rfl | rfl | rfl <;> simp <;> omega) (2 * i + 1) (by omega) r1
      have HT2 := Lib.hid (show ∃ F', Fx _ _ _ _ _ _ _ F' ∧ ∀ j, j < 2 * (i + 1) → F' j = mulF a b j from ⟨_, hT2, fun j hj => by
        by_cases e1 : j = 2 * i + 1
        · subst e1; rw [upd_at, HR01.out.2]
        · rw [upd_ne _ _ e1]
          by_cases e2 : j = 2 * i
          · subst e2; rw [upd_at, HR01.out.1]
          · rw [upd_ne _ _ e2]; exact hF j (by omega)⟩)
      clear hT hF hT1 hT2 HQ hca hcb hca1 hlt hi hz hr0 hr1
      generalize a (2 * i) = A0 at *
      generalize a (2 * i + 1) = A1 at *
      generalize b (2 * i) = B0 at *
      generalize b (2 * i + 1) = B1 at *
      obtain ⟨x, hx⟩ : ∃ x, A0 % 3329 = x := ⟨_, rfl⟩
      obtain ⟨y, hy⟩ : ∃ x, A1 % 3329 = x := ⟨_, rfl⟩
      obtain ⟨u, hu⟩ : ∃ x, B0 % 3329 = x := ⟨_, rfl⟩
      obtain ⟨v, hv⟩ : ∃ x, B1 % 3329 = x := ⟨_, rfl⟩
      have x0 : 0 ≤ x ∧ x < 3329 := by omega
      have y0 : 0 ≤ y ∧ y < 3329 := by omega
      have u0 : 0 ≤ u ∧ u < 3329 := by omega
      have v0 : 0 ≤ v ∧ v < 3329 := by omega
      rw [hx, hy, hu, hv] at HM
      obtain ⟨m1, hm1⟩ : ∃ m, x * u = m := ⟨_, rfl⟩
      obtain ⟨p1, q1⟩ := mul_bd x0.1 x0.2 u0.1 u0.2
      rw [hm1] at p1 q1
      have hw1 : IntKind.i64.wrap (x * u) = m1 := by rw [hm1, IntKind.wrap_i64]; omega
      obtain ⟨n1, hn1⟩ : ∃ m, m1 % 3329 = m := ⟨_, rfl⟩
      have s1 : 0 ≤ n1 ∧ n1 < 3329 := by omega
      obtain ⟨m2, hm2⟩ : ∃ m, y * v = m := ⟨_, rfl⟩
      obtain ⟨p2, q2⟩ := mul_bd y0.1 y0.2 v0.1 v0.2
      rw [hm2] at p2 q2
      have hw2 : IntKind.i64.wrap (y * v) = m2 := by rw [hm2, IntKind.wrap_i64]; omega
      obtain ⟨n2, hn2⟩ : ∃ m, m2 % 3329 = m := ⟨_, rfl⟩
      have s2 : 0 ≤ n2 ∧ n2 < 3329 := by omega
      obtain ⟨m3, hm3⟩ : ∃ m, n2 * z = m := ⟨_, rfl⟩
      obtain ⟨p3, q3⟩ := mul_bd s2.1 s2.2 (And.intro z0 z1).1 (And.intro z0 z1).2
      rw [hm3] at p3 q3
      have hw3 : IntKind.i64.wrap (n2 * z) = m3 := by rw [hm3, IntKind.wrap_i64]; omega
      obtain ⟨n3, hn3⟩ : ∃ m, m3 % 3329 = m := ⟨_, rfl⟩
      have s3 : 0 ≤ n3 ∧ n3 < 3329 := by omega
      obtain ⟨m4, hm4⟩ : ∃ m, x * v = m := ⟨_, rfl⟩
      obtain ⟨p4, q4⟩ := mul_bd x0.1 x0.2 v0.1 v0.2
      rw [hm4] at p4 q4
      have hw4 : IntKind.i64.wrap (x * v) = m4 := by rw [hm4, IntKind.wrap_i64]; omega
      obtain ⟨n4, hn4⟩ : ∃ m, m4 % 3329 = m := ⟨_, rfl⟩
      have s4 : 0 ≤ n4 ∧ n4 < 3329 := by omega
      obtain ⟨m5, hm5⟩ : ∃ m, y * u = m := ⟨_, rfl⟩
      obtain ⟨p5, q5⟩ := mul_bd y0.1 y0.2 u0.1 u0.2
      rw [hm5] at p5 q5
      have hw5 : IntKind.i64.wrap (y * u) = m5 := by rw [hm5, IntKind.wrap_i64]; omega
      obtain ⟨n5, hn5⟩ : ∃ m, m5 % 3329 = m := ⟨_, rfl⟩
      have s5 : 0 ≤ n5 ∧ n5 < 3329 := by omega
      rw [hm1, hm2, hn1, hn2, hm3, hn3, hm4, hm5, hn4, hn5] at HM
      obtain ⟨e1, e2⟩ := HM.out
      have HB : Hid (0 ≤ n1 ∧ 0 ≤ n3 ∧ 0 ≤ n4 ∧ 0 ≤ n5) := Lib.hid (by omega)
      obtain ⟨t1, t1'⟩ := s1
      obtain ⟨t2, t2'⟩ := s2
      obtain ⟨t3, t3'⟩ := s3
      obtain ⟨t4, t4'⟩ := s4
      obtain ⟨t5, t5'⟩ := s5
      have rb0 : 0 ≤ r0 ∧ r0 < 3329 := by omega
      have rb1 : 0 ≤ r1 ∧ r1 < 3329 := by omega
      clear hm1 hm2 hm3 hm4 hm5 HM
      clear x0 y0 u0 v0
      go_wp2_with fail
      refine (HRT.out _).mono ?_
      rintro e w4 ⟨rfl, hw⟩
      rw [hw]
      clear hw HRT w4
      go_wp2_with fail
      go_roundg (128 - (i + 1))
      case rel => exact ⟨i + 1, HLT.out, rfl, by go_num, HT2⟩
      case measure => have := HGQ.out; have := HLT.out; omega
    · obtain rfl : i = 128 := by omega
      have he : arr .u16 256 F = arr .u16 256 (mulF a b) := arr_ext fun j hj => hF j (by omega)
      have hr2 := hT.2.2
      have hr1 := hT.2.1 (g + 1 + 1, 26, arr .u16 256 fun _ => 0) (by simp)
      unfold LM at hr2
      rw [he] at hr2
      have hi2 := inf256 (mulF a b)
      have hs2 : (arr .u16 256 fun _ => 0).size = (arr .u16 256 (mulF a b)).size := by rw [arr_size, arr_size]
      have ho2 := arr_one .u16 256 (mulF a b)
      have HP := Lib.hid hT.1
      clear hT hF he HQ HCA HCB
      generalize hcc : arr .u16 256 (mulF a b) = c2 at *
      have HCC := Lib.hid hcc
      clear hcc
      generalize arr .u16 256 (fun _ => 0) = c1 at *
      simp only at hr1
      go_wp2_with (first | (refine wpList_load_row rfl 26 _ rfl (g + 1 + 1 + 1) rfl _ _ (0, 0) _ hr2 Try.underlying26 rfl hi2 ?_) | (refine wpList_store_row rfl 26 _ _ rfl (g + 1 + 1) _ rfl rfl _ _ hr1 hi2 hs2 ho2 ?_))
      refine bodyPost_ret (results_cell_row rfl _ _ (g + 1 + 1) _ c2 (0, 0) _ rfl (setRow_heap wr (g + 1 + 1) c1 c2 _ _ hr1) Try.underlying26 rfl hi2) rfl ?_
      exact ⟨by rw [HCC.out], below_setRow HP.out (by have := HGE.out; omega) _⟩
end Go.Proofs.Ytmhhkhbdjkbklaa
