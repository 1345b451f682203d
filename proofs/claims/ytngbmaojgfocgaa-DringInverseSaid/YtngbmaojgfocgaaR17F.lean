/- The reference's Product. -/
import Derived.Test.YtngbmaojgfocgaaR17D
namespace Go.Proofs.Ytngbmaojgfocgaa.dr
open Go.RowKit
set_option linter.unusedVariables false

theorem zero256i (w : World) : (zeroValue 49).run Try.prog w = .ok (.agg (arr .i64 256 fun _ => 0)) w := by kernel_rfl
theorem pstep_upd (a b : Nat → Int) (i : Nat) (o : Nat → Int) (k : Nat) : pstep a b i o k = if i + k < 256 then upd o (i + k) ((o (i + k) + a i % 8380417 * (b k % 8380417) % 8380417) % 8380417) else upd o (i + k - 256) ((o (i + k - 256) + 8380417 - a i % 8380417 * (b k % 8380417) % 8380417) % 8380417) := rfl
set_option maxHeartbeats 8000000 in
set_option maxRecDepth 100000 in
theorem rproduct_any (a b : Nat → Int) (ha : ∀ j, 0 ≤ a j ∧ a j < 4294967296) (hb : ∀ j, 0 ≤ b j ∧ b j < 4294967296) (w : World) :
    Calls Try.prog 17 #[.agg (arr .u32 256 a), .agg (arr .u32 256 b)] w fun e w' => e = .returned (.agg (arr .u32 256 (prod a b 256))) ∧ Past w w' := by
  have HCA := Lib.hid (fun i (hi : i < 256) => arr_get .u32 256 a i hi)
  have HCB := Lib.hid (fun i (hi : i < 256) => arr_get .u32 256 b i hi)
  have HFA := Lib.hid ha
  have HFB := Lib.hid hb
  obtain ⟨g, hg⟩ : ∃ g, w.heap.size = g := ⟨_, rfl⟩
  obtain ⟨w3, hw3⟩ : ∃ w', w' = (((w.alloc (.cells (arr .u32 256 a) 25)).alloc (.cells (arr .u32 256 b) 25)).alloc (.cells (arr .u32 256 fun _ => 0) 25)).alloc (.cells (arr .i64 256 fun _ => 0) 49) := ⟨_, rfl⟩
  have H0 : Hid (Fx [(g, 25, arr .u32 256 a), (g + 1, 25, arr .u32 256 b), (g + 1 + 1, 25, arr .u32 256 fun _ => 0)] .i64 256 w w3 (g + 1 + 1 + 1) 49 fun _ => 0) := Lib.hid (by
    have h := four_fx w 25 25 25 49 (arr .u32 256 a) (arr .u32 256 b) (arr .u32 256 fun _ => 0) .i64 256 fun _ => 0
    rw [hg, ← hw3] at h
    exact h)
  have HGE : Hid (w.heap.size = g) := Lib.hid hg
  have HW3 := Lib.hid hw3
  clear ha hb hw3
  generalize arr .u32 256 a = ca at *
  generalize arr .u32 256 b = cb at *
  go_enter Try.func17, Try.ntmps17
  have hz := zero256
  have hz2 := zero256i
  go_upto_region 2 with (fail)
  clear hz hz2
  rw [← HW3.out]
  try rw [hg]
  clear HW3 hg
  go_wp2_with fail
  go_loopg [6] 256 (fun q s6 wx => ∃ i : Nat, i ≤ 256 ∧ q = 256 - i ∧ s6 = .int .i64 (i : Int) ∧ Hid (Fx [(g, 25, ca), (g + 1, 25, cb), (g + 1 + 1, 25, arr .u32 256 fun _ => 0)] .i64 256 w wx (g + 1 + 1 + 1) 49 (prod a b i)))
  case atStart => exact ⟨0, Nat.zero_le _, rfl, rfl, H0⟩
  case round =>
    clear H0
    obtain ⟨i, hi, hq, rfl, HQ⟩ := hrel
    have HGQ := Lib.hid hq
    clear hq
    have hi0 : (0 : Int) ≤ (i : Int) := by omega
    by_cases hlt : i < 256
    · have hii : (i : Int) < 256 := by omega
      have HLT := Lib.hid hlt
      have hT0 := HQ.out
      have ka : wr.cell? ⟨g, i, none⟩ = some (.int .u32 (a i)) := by
        rw [(hT0.2.1 (g, 25, ca) (by simp)).cell]
        exact HCA.out i hlt
      obtain ⟨A0, A1⟩ := HFA.out i
      obtain ⟨p, hp⟩ : ∃ p, a i = p := ⟨_, rfl⟩
      rw [hp] at ka A0 A1
      obtain ⟨x, hx⟩ : ∃ x, p % 8380417 = x := ⟨_, rfl⟩
      have HX0 : Hid (0 ≤ x ∧ x < 8380417) := Lib.hid (by omega)
      have HPX : Hid (a i % 8380417 = x) := Lib.hid (by rw [hp, hx])
      clear hlt hi hT0 hp
      go_wp2_with fail
      rw [hx]
      clear ka hx
      go_loopg [8] 256 (fun q s7 wx => ∃ k : Nat, k ≤ 256 ∧ q = 256 - k ∧ s7 = .int .i64 (k : Int) ∧ Hid (Fx [(g, 25, ca), (g + 1, 25, cb), (g + 1 + 1, 25, arr .u32 256 fun _ => 0)] .i64 256 w wx (g + 1 + 1 + 1) 49 (prow a b i (prod a b i) k)))
      case atStart => exact ⟨0, Nat.zero_le _, rfl, rfl, HQ⟩
      case round =>
        clear HQ
        obtain ⟨k, hk, hq, rfl, HQ⟩ := hrel
        have HGQ2 := Lib.hid hq
        clear hq
        have hk0 : (0 : Int) ≤ (k : Int) := by omega
        by_cases hlt2 : k < 256
        · have hkk : (k : Int) < 256 := by omega
          have HLT2 := Lib.hid hlt2
          have hT := HQ.out
          have kb : wr.cell? ⟨g + 1, k, none⟩ = some (.int .u32 (b k)) := by
            rw [(hT.2.1 (g + 1, 25, cb) (by simp)).cell]
            exact HCB.out k hlt2
          obtain ⟨B0, B1⟩ := HFB.out k
          have hlow := prow_low a b i (prod a b i) (prod_low a b i) k
          have HSU := Lib.hid (pstep_upd a b i (prow a b i (prod a b i) k) k)
          have HSX : Hid (prow a b i (prod a b i) (k + 1) = pstep a b i (prow a b i (prod a b i) k) k) := Lib.hid rfl
          generalize prow a b i (prod a b i) k = F at *
          obtain ⟨r, hr⟩ : ∃ p, b k = p := ⟨_, rfl⟩
          rw [hr] at kb B0 B1 HSU
          obtain ⟨y, hy⟩ : ∃ x, r % 8380417 = x := ⟨_, rfl⟩
          have hx0 := HX0.out
          have hy0 : 0 ≤ y ∧ y < 8380417 := by omega
          obtain ⟨m, hm⟩ : ∃ m, x * y = m := ⟨_, rfl⟩
          obtain ⟨m0, m1⟩ := mul_bd hx0.1 hx0.2 hy0.1 hy0.2
          rw [hm] at m0 m1
          have hwm : IntKind.i64.wrap (x * y) = m := by rw [hm, IntKind.wrap_i64]; omega
          obtain ⟨c, hc⟩ : ∃ c, m % 8380417 = c := ⟨_, rfl⟩
          have c0 : 0 ≤ c := by omega
          have c1 : c < 8380417 := by omega
          rw [HPX.out, hy, hm, hc] at HSU
          have HMM := Lib.hid (And.intro hx0 hy0)
          have HD : Hid (Fx [(g, 25, ca), (g + 1, 25, cb), (g + 1 + 1, 25, arr .u32 256 fun _ => 0)] .i64 256 w wr (g + 1 + 1 + 1) 49 F) := Lib.hid hT
          have HLOW := Lib.hid hlow
          clear hr hm hT hk hlt2 hx0 hy0 hlow
          go_upto_region 10 with (fail)
          clear kb
          obtain ⟨n, hn⟩ : ∃ n, i + k = n := ⟨_, rfl⟩
          by_cases hsm : n < 256
          · have hs : (i : Int) + (k : Int) = (n : Int) := by omega
            have hn256 : (n : Int) < 256 := by omega
            have HV : Hid (pstep a b i F k = upd F n ((F n + c) % 8380417)) := Lib.hid (by rw [HSU.out, if_pos (by omega), hn])
            have hT := HD.out
            have hc1 := hT.2.2.at n (by omega)
            have hf1 := hT.2.2.fr n
            obtain ⟨o0, o1⟩ := HLOW.out n
            have hT1 := hT.put (by have := HGE.out; omega) (by intro x hx; simp at hx; rcases hx with rfl | rfl | rfl <;> simp <;> omega) n (by omega) ((F n + c) % 8380417)
            have HT2 : Hid (Fx _ _ _ _ _ _ _ (prow a b i (prod a b i) (k + 1))) := Lib.hid (by rw [HSX.out, HV.out]; exact hT1)
            obtain ⟨o, ho⟩ : ∃ o, F n = o := ⟨_, rfl⟩
            rw [ho] at hc1 o0 o1 HT2
            clear hT hT1 HD HV HSU HSX ho hn
            go_wp2_with fail
            go_roundg (256 - (k + 1))
            case rel => exact ⟨k + 1, HLT2.out, rfl, by go_num, HT2⟩
            case measure => have := HGQ2.out; have := HLT2.out; omega
          · have hs : (i : Int) + (k : Int) = (n : Int) := by omega
            have hn256 : ¬ (n : Int) < 256 := by omega
            obtain ⟨d, hd⟩ : ∃ d, n - 256 = d := ⟨_, rfl⟩
            have hdI : (n : Int) - 256 = (d : Int) := by omega
            have hd0 : (0 : Int) ≤ (d : Int) := by omega
            have hd1 : (d : Int) < 256 := by omega
            have HV : Hid (pstep a b i F k = upd F d ((F d + 8380417 - c) % 8380417)) := Lib.hid (by rw [HSU.out, if_neg (by omega), hn, hd])
            have hT := HD.out
            have hc1 := hT.2.2.at d (by omega)
            have hf1 := hT.2.2.fr d
            obtain ⟨o0, o1⟩ := HLOW.out d
            have hT1 := hT.put (by have := HGE.out; omega) (by intro x hx; simp at hx; rcases hx with rfl | rfl | rfl <;> simp <;> omega) d (by omega) ((F d + 8380417 - c) % 8380417)
            have HT2 : Hid (Fx _ _ _ _ _ _ _ (prow a b i (prod a b i) (k + 1))) := Lib.hid (by rw [HSX.out, HV.out]; exact hT1)
            obtain ⟨o, ho⟩ : ∃ o, F d = o := ⟨_, rfl⟩
            rw [ho] at hc1 o0 o1 HT2
            obtain ⟨e, he⟩ : ∃ e, o + 8380417 - c = e := ⟨_, rfl⟩
            rw [he] at HT2
            have he0 : 0 ≤ e := by omega
            have he1 : e ≤ 16760834 := by omega
            clear hT hT1 HD HV HSU HSX ho hn hd
            go_wp2_with fail
            go_roundg (256 - (k + 1))
            case rel => exact ⟨k + 1, HLT2.out, rfl, by go_num, HT2⟩
            case measure => have := HGQ2.out; have := HLT2.out; omega
        · obtain rfl : k = 256 := by omega
          go_wp2_with fail
          go_roundg (256 - (i + 1))
          case rel => exact ⟨i + 1, HLT.out, rfl, by go_num, HQ⟩
          case measure => have := HGQ.out; have := HLT.out; omega
    · obtain rfl : i = 256 := by omega
      have hT := HQ.out
      obtain ⟨u, hu⟩ : ∃ u, wr.heap.size = u := ⟨_, rfl⟩
      obtain ⟨w5, hw5⟩ : ∃ w', wr.alloc (.cells (arr .u32 256 fun _ => 0) 25) = w' := ⟨_, rfl⟩
      have hLL := (hT.2.2 : Row _ _ _ _).lt
      have H5 : Hid (Fx [(g + 1 + 1, 25, arr .u32 256 fun _ => 0), (g + 1 + 1 + 1, 49, arr .i64 256 (prod a b 256))] .u32 256 w w5 u 25 fun _ => 0) := Lib.hid (by
        rw [← hw5, ← hu]
        refine ⟨hT.1.alloc hT.1.size _, ?_, Row.new _ _ _⟩
        intro x hx
        rcases List.mem_cons.1 hx with rfl | hx
        · exact (hT.2.1 (g + 1 + 1, 25, arr .u32 256 fun _ => 0) (by simp)).alloc _
        · rcases List.mem_cons.1 hx with rfl | hx
          · exact Row.alloc hT.2.2 _
          · cases hx)
      have HU : Hid (w.heap.size ≤ u ∧ g + 1 + 1 + 1 < u) := Lib.hid ⟨by rw [← hu]; exact hT.1.size, by omega⟩
      have HW5 := Lib.hid hw5
      have HUE := Lib.hid hu
      clear hT HQ HFA HFB HCA HCB hw5 hLL hi0 hi hlt hu
      have hz := zero256
      go_upto_region 14 with (fail)
      clear hz
      rw [HW5.out]
      try rw [HUE.out]
      clear HW5 HUE
      go_wp2_with fail
      go_loopg [11] 256 (fun q s11 wx => ∃ i : Nat, i ≤ 256 ∧ q = 256 - i ∧ s11 = .int .i64 (i : Int) ∧ Hid (∃ F, Fx [(g + 1 + 1, 25, arr .u32 256 fun _ => 0), (g + 1 + 1 + 1, 49, arr .i64 256 (prod a b 256))] .u32 256 w wx u 25 F ∧ ∀ j, j < i → F j = prod a b 256 j))
      case atStart => exact ⟨0, Nat.zero_le _, rfl, rfl, Lib.hid ⟨_, H5.out, fun j hj => absurd hj (by omega)⟩⟩
      case round =>
        clear H5
        obtain ⟨i, hi, hq, rfl, HQ⟩ := hrel
        have HGQ2 := Lib.hid hq
        clear hq
        have hi0 : (0 : Int) ≤ (i : Int) := by omega
        obtain ⟨F, hT, hF⟩ := HQ.out
        by_cases hlt : i < 256
        · have hii : (i : Int) < 256 := by omega
          have HLT := Lib.hid hlt
          obtain ⟨l0, l1⟩ := prod_low a b 256 i
          obtain ⟨v, hv⟩ : ∃ v, prod a b 256 i = v := ⟨_, rfl⟩
          have ka : wr.cell? ⟨g + 1 + 1 + 1, i, none⟩ = some (.int .i64 v) := by
            rw [(hT.2.1 (g + 1 + 1 + 1, 49, arr .i64 256 (prod a b 256)) (by simp)).cell, arr_get .i64 256 _ i hlt, hv]
          rw [hv] at l0 l1
          have hc1 := hT.2.2.at i hlt
          have hf1 := hT.2.2.fr i
          have hT1 := hT.put HU.out.1 (by intro x hx; have := HU.out.2; simp at hx; rcases hx with rfl | rfl <;> simp <;> omega) i hlt v
          have HT2 := Lib.hid (show ∃ F', Fx _ _ _ _ _ _ _ F' ∧ ∀ j, j < i + 1 → F' j = prod a b 256 j from ⟨_, hT1, fun j hj => by
            by_cases e1 : j = i
            · subst e1; rw [upd_at, hv]
            · rw [upd_ne _ _ e1]; exact hF j (by omega)⟩)
          clear hT hF hT1 HQ hv hlt hi
          go_wp2_with fail
          go_roundg (256 - (i + 1))
          case rel => exact ⟨i + 1, HLT.out, rfl, by go_num, HT2⟩
          case measure => have := HGQ2.out; have := HLT.out; omega
        · obtain rfl : i = 256 := by omega
          have he : arr .u32 256 F = arr .u32 256 (prod a b 256) := arr_ext fun j hj => hF j (by omega)
          have hr2 := hT.2.2
          have hr1 := hT.2.1 (g + 1 + 1, 25, arr .u32 256 fun _ => 0) (by simp)
          unfold LM at hr2
          rw [he] at hr2
          have hi2 := inf256 (prod a b 256)
          have hs2 : (arr .u32 256 fun _ => 0).size = (arr .u32 256 (prod a b 256)).size := by rw [arr_size, arr_size]
          have ho2 := arr_one .u32 256 (prod a b 256)
          have HP := Lib.hid hT.1
          clear hT hF he HQ
          generalize hcc : arr .u32 256 (prod a b 256) = c2 at *
          have HCC := Lib.hid hcc
          clear hcc
          generalize arr .u32 256 (fun _ => 0) = c1 at *
          simp only at hr1
          go_wp2_with (first | (refine wpList_load_row rfl 25 _ rfl u rfl _ _ (0, 0) _ hr2 Try.underlying25 rfl hi2 ?_) | (refine wpList_store_row rfl 25 _ _ rfl (g + 1 + 1) _ rfl rfl _ _ hr1 hi2 hs2 ho2 ?_))
          refine bodyPost_ret (results_cell_row rfl _ _ (g + 1 + 1) _ c2 (0, 0) _ rfl (setRow_heap wr (g + 1 + 1) c1 c2 _ _ hr1) Try.underlying25 rfl hi2) rfl ?_
          exact ⟨by rw [HCC.out], below_setRow HP.out (by have := HGE.out; omega) _⟩
end Go.Proofs.Ytngbmaojgfocgaa.dr
