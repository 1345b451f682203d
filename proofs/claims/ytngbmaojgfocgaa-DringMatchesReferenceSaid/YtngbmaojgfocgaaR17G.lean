/- The reference's Mul and Norm. -/
import Derived.Test.YtngbmaojgfocgaaR17E
namespace Go.Proofs.Ytngbmaojgfocgaa.dr
open Go.RowKit
set_option linter.unusedVariables false

set_option maxHeartbeats 4000000 in
set_option maxRecDepth 100000 in
theorem rmul17_any (a b : Nat → Int) (ha : ∀ j, 0 ≤ a j ∧ a j < 4294967296) (hb : ∀ j, 0 ≤ b j ∧ b j < 4294967296) (w : World) :
    Calls Try.prog 16 #[.agg (arr .u32 256 a), .agg (arr .u32 256 b)] w fun e w' => e = .returned (.agg (arr .u32 256 (mulF a b))) ∧ Past w w' := by
  have HCA := Lib.hid (fun i (hi : i < 256) => arr_get .u32 256 a i hi)
  have HCB := Lib.hid (fun i (hi : i < 256) => arr_get .u32 256 b i hi)
  have HFA := Lib.hid ha
  have HFB := Lib.hid hb
  obtain ⟨g, hg⟩ : ∃ g, w.heap.size = g := ⟨_, rfl⟩
  obtain ⟨w3, hw3⟩ : ∃ w', w' = (((w.alloc (.cells (arr .u32 256 a) 25)).alloc (.cells (arr .u32 256 b) 25)).alloc (.cells (arr .u32 256 fun _ => 0) 25)).alloc (.cells (arr .u32 256 fun _ => 0) 25) := ⟨_, rfl⟩
  have H0 : Hid (Fx [(g, 25, arr .u32 256 a), (g + 1, 25, arr .u32 256 b), (g + 1 + 1, 25, arr .u32 256 fun _ => 0)] .u32 256 w w3 (g + 1 + 1 + 1) 25 fun _ => 0) := Lib.hid (by
    have h := four_fx w 25 25 25 25 (arr .u32 256 a) (arr .u32 256 b) (arr .u32 256 fun _ => 0) .u32 256 fun _ => 0
    rw [hg, ← hw3] at h
    exact h)
  have HGE : Hid (w.heap.size = g) := Lib.hid hg
  have HW3 := Lib.hid hw3
  clear ha hb hw3
  generalize arr .u32 256 a = ca at *
  generalize arr .u32 256 b = cb at *
  go_enter Try.func16, Try.ntmps16
  have hz := zero256
  go_upto_region 2 with (fail)
  clear hz
  rw [← HW3.out]
  try rw [hg]
  clear HW3 hg
  go_wp2_with fail
  go_loopg [6] 256 (fun q s6 wx => ∃ i : Nat, i ≤ 256 ∧ q = 256 - i ∧ s6 = .int .i64 (i : Int) ∧ Hid (∃ F, Fx [(g, 25, ca), (g + 1, 25, cb), (g + 1 + 1, 25, arr .u32 256 fun _ => 0)] .u32 256 w wx (g + 1 + 1 + 1) 25 F ∧ ∀ j, j < i → F j = mulF a b j))
  case atStart => exact ⟨0, Nat.zero_le _, rfl, rfl, Lib.hid ⟨_, H0.out, fun j hj => absurd hj (by omega)⟩⟩
  case round =>
    clear H0
    obtain ⟨i, hi, hq, rfl, HQ⟩ := hrel
    have HGQ := Lib.hid hq
    clear hq
    have hi0 : (0 : Int) ≤ (i : Int) := by omega
    obtain ⟨F, hT, hF⟩ := HQ.out
    by_cases hlt : i < 256
    · have hii : (i : Int) < 256 := by omega
      have HLT := Lib.hid hlt
      have hc1 : wr.cell? ⟨g, i, none⟩ = some (.int .u32 (a i)) := by
        rw [(hT.2.1 (g, 25, ca) (by simp)).cell]
        exact HCA.out i hlt
      have hc2 : wr.cell? ⟨g + 1, i, none⟩ = some (.int .u32 (b i)) := by
        rw [(hT.2.1 (g + 1, 25, cb) (by simp)).cell]
        exact HCB.out i hlt
      have hc3 := hT.2.2.at i hlt
      have hf3 := hT.2.2.fr i
      obtain ⟨x0, x1⟩ := HFA.out i
      obtain ⟨y0, y1⟩ := HFB.out i
      have hT1 := hT.put (by have := HGE.out; omega) (by intro x hx; simp at hx; rcases hx with rfl | rfl | rfl <;> simp <;> omega) i hlt (mulF a b i)
      have HT2 := Lib.hid (show ∃ F', Fx _ _ _ _ _ _ _ F' ∧ ∀ j, j < i + 1 → F' j = mulF a b j from ⟨_, hT1, fun j hj => by
        by_cases e1 : j = i
        · subst e1; rw [upd_at]
        · rw [upd_ne _ _ e1]; exact hF j (by omega)⟩)
      have HM : Hid (mulF a b i = a i % 8380417 * (b i % 8380417) % 8380417) := Lib.hid rfl
      generalize mulF a b i = y at *
      generalize a i = p at *
      generalize b i = r at *
      obtain ⟨x, hx⟩ : ∃ x, p % 8380417 = x := ⟨_, rfl⟩
      obtain ⟨v, hv⟩ : ∃ x, r % 8380417 = x := ⟨_, rfl⟩
      have hx0 : 0 ≤ x ∧ x < 8380417 := by omega
      have hv0 : 0 ≤ v ∧ v < 8380417 := by omega
      obtain ⟨m0, m1⟩ := mul_bd hx0.1 hx0.2 hv0.1 hv0.2
      obtain ⟨m, hm⟩ : ∃ m, x * v = m := ⟨_, rfl⟩
      rw [hm] at m0 m1
      have hwm : IntKind.i64.wrap (x * v) = m := by rw [hm, IntKind.wrap_i64]; omega
      have hmy : m % 8380417 = y := by rw [HM.out, hx, hv, hm]
      have hyb : 0 ≤ y ∧ y < 8380417 := by omega
      clear hT hF hT1 HQ hlt hi hm hx0 hv0
      go_wp2_with fail
      go_region
      go_wp2_with fail
      go_roundg (256 - (i + 1))
      case rel => exact ⟨i + 1, HLT.out, rfl, by go_num, Lib.hid (HT2.out.imp fun F h => ⟨h.1.drewN 1, h.2⟩)⟩
      case measure => have := HGQ.out; have := HLT.out; omega
    · obtain rfl : i = 256 := by omega
      have he : arr .u32 256 F = arr .u32 256 (mulF a b) := arr_ext fun j hj => hF j (by omega)
      have hr2 := hT.2.2
      have hr1 := hT.2.1 (g + 1 + 1, 25, arr .u32 256 fun _ => 0) (by simp)
      unfold LM at hr2
      rw [he] at hr2
      have hi2 := inf256 (mulF a b)
      have hs2 : (arr .u32 256 fun _ => 0).size = (arr .u32 256 (mulF a b)).size := by rw [arr_size, arr_size]
      have ho2 := arr_one .u32 256 (mulF a b)
      have HP := Lib.hid hT.1
      clear hT hF he HQ HCA HCB
      generalize hcc : arr .u32 256 (mulF a b) = c2 at *
      have HCC := Lib.hid hcc
      clear hcc
      generalize arr .u32 256 (fun _ => 0) = c1 at *
      simp only at hr1
      go_wp2_with (first | (refine wpList_load_row rfl 25 _ rfl (g + 1 + 1 + 1) rfl _ _ (0, 0) _ hr2 Try.underlying25 rfl hi2 ?_) | (refine wpList_store_row rfl 25 _ _ rfl (g + 1 + 1) _ rfl rfl _ _ hr1 hi2 hs2 ho2 ?_))
      refine bodyPost_ret (results_cell_row rfl _ _ (g + 1 + 1) _ c2 (0, 0) _ rfl (setRow_heap wr (g + 1 + 1) c1 c2 _ _ hr1) Try.underlying25 rfl hi2) rfl ?_
      exact ⟨by rw [HCC.out], below_setRow HP.out (by have := HGE.out; omega) _⟩
set_option maxHeartbeats 4000000 in
set_option maxRecDepth 100000 in
theorem rnorm_any (f : Nat → Int) (hf : ∀ j, 0 ≤ f j ∧ f j < 4294967296) (w : World) :
    Calls Try.prog 25 #[.agg (arr .u32 256 f)] w fun e w' => e = .returned (.int .i64 (nrm f 256)) ∧ Past w w' := by
  have HC := Lib.hid (fun i (hi : i < 256) => arr_get .u32 256 f i hi)
  have HF := Lib.hid hf
  obtain ⟨g, hg⟩ : ∃ g, w.heap.size = g := ⟨_, rfl⟩
  obtain ⟨w1, hw1⟩ : ∃ W, w.alloc (.cells (arr .u32 256 f) 25) = W := ⟨_, rfl⟩
  have HP1 : Hid (Past w w1) := Lib.hid (by rw [← hw1]; exact (Below.refl _ _).alloc (Nat.le_refl _) _)
  have HR1 : Hid (Row w1 g 25 (arr .u32 256 f)) := Lib.hid (by rw [← hw1, ← hg]; exact Row.new _ _ _)
  have HW1 := Lib.hid hw1
  clear hf hw1
  generalize arr .u32 256 f = cs at *
  go_enter Try.func25, Try.ntmps25
  go_upto_region 1 with (fail)
  rw [HW1.out]
  try rw [hg]
  clear HW1 hg
  go_wp2_with fail
  go_loopg [3, 4] 256 (fun q s3 s4 wx => ∃ (i : Nat) (n : Int), i ≤ 256 ∧ q = 256 - i ∧ s3 = .int .i64 n ∧ s4 = .int .i64 (i : Int) ∧ 0 ≤ n ∧ n ≤ 4190208 ∧ Hid (n = nrm f i) ∧ Hid (wx = w1))
  case atStart => exact ⟨0, 0, Nat.zero_le _, rfl, rfl, rfl, by decide, by decide, Lib.hid rfl, Lib.hid rfl⟩
  case round =>
    obtain ⟨i, n, hi, hq, rfl, rfl, n0, n1, HN, HW⟩ := hrel
    have HGQ := Lib.hid hq
    clear hq
    have hi0 : (0 : Int) ≤ (i : Int) := by omega
    by_cases hlt : i < 256
    · have hii : (i : Int) < 256 := by omega
      have HLT := Lib.hid hlt
      have ka : wr.cell? ⟨g, i, none⟩ = some (.int .u32 (f i)) := by
        rw [HW.out, HR1.out.cell]
        exact HC.out i hlt
      obtain ⟨A0, A1⟩ := HF.out i
      have HS : Hid (nrm f (i + 1) = if n < szF (f i) then szF (f i) else n) := Lib.hid (by rw [HN.out]; rfl)
      have HZ : Hid (szF (f i) = if 8380417 - f i % 8380417 < f i % 8380417 then 8380417 - f i % 8380417 else f i % 8380417) := Lib.hid rfl
      generalize f i = p at *
      obtain ⟨c, hc⟩ : ∃ c, p % 8380417 = c := ⟨_, rfl⟩
      rw [hc] at HZ
      have c0 : 0 ≤ c := by omega
      have c1 : c < 8380417 := by omega
      have hwc : IntKind.i64.wrap (8380417 - c) = 8380417 - c := by rw [IntKind.wrap_i64]; omega
      clear hlt hi
      by_cases hb : 8380417 - c < c
      · obtain ⟨t, ht⟩ : ∃ t, 8380417 - c = t := ⟨_, rfl⟩
        have HT : Hid (szF p = t) := Lib.hid (by rw [HZ.out, if_pos hb, ht])
        rw [HT.out] at HS
        have HTB : Hid (0 ≤ t ∧ t ≤ 4190208) := Lib.hid (by omega)
        rw [ht] at hwc hb
        by_cases hn : n < t
        · have HE : Hid (nrm f (i + 1) = t) := Lib.hid (by rw [HS.out, if_pos hn])
          go_wp2_with fail
          go_roundg (256 - (i + 1))
          case rel => exact ⟨i + 1, t, HLT.out, rfl, rfl, by go_num, HTB.out.1, HTB.out.2, Lib.hid HE.out.symm, HW⟩
          case measure => have := HGQ.out; have := HLT.out; omega
        · have HE : Hid (nrm f (i + 1) = n) := Lib.hid (by rw [HS.out, if_neg hn])
          have HNB : Hid (0 ≤ n ∧ n ≤ 4190208) := Lib.hid ⟨n0, n1⟩
          go_wp2_with fail
          go_roundg (256 - (i + 1))
          case rel => exact ⟨i + 1, n, HLT.out, rfl, rfl, by go_num, HNB.out.1, HNB.out.2, Lib.hid HE.out.symm, HW⟩
          case measure => have := HGQ.out; have := HLT.out; omega
      · have HT : Hid (szF p = c) := Lib.hid (by rw [HZ.out, if_neg hb])
        rw [HT.out] at HS
        have HTB : Hid (0 ≤ c ∧ c ≤ 4190208) := Lib.hid (by omega)
        have HCE := Lib.hid hc
        obtain ⟨d, hd⟩ : ∃ d, 8380417 - c = d := ⟨_, rfl⟩
        rw [hd] at hwc hb
        by_cases hn : n < c
        · have HE : Hid (nrm f (i + 1) = c) := Lib.hid (by rw [HS.out, if_pos hn])
          go_wp2_with fail
          go_roundg (256 - (i + 1))
          case rel => exact ⟨i + 1, c, HLT.out, rfl, by first | rfl | exact congrArg (Value.int .i64) HCE.out, by go_num, HTB.out.1, HTB.out.2, Lib.hid HE.out.symm, HW⟩
          case measure => have := HGQ.out; have := HLT.out; omega
        · have HE : Hid (nrm f (i + 1) = n) := Lib.hid (by rw [HS.out, if_neg hn])
          have HNB : Hid (0 ≤ n ∧ n ≤ 4190208) := Lib.hid ⟨n0, n1⟩
          go_wp2_with fail
          go_roundg (256 - (i + 1))
          case rel => exact ⟨i + 1, n, HLT.out, rfl, rfl, by go_num, HNB.out.1, HNB.out.2, Lib.hid HE.out.symm, HW⟩
          case measure => have := HGQ.out; have := HLT.out; omega
    · obtain rfl : i = 256 := by omega
      have hii : ¬ (256 : Int) < 256 := by omega
      go_wp2_with fail
      go_ret
      exact ⟨by rw [HN.out]; rfl, by rw [HW.out]; exact HP1.out⟩
end Go.Proofs.Ytngbmaojgfocgaa.dr
