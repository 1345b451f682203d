/- The program's NTT and Inverse. -/
import Derived.Test.YtmhhkhbdjkbklaaM14E
namespace Go.Proofs.Ytmhhkhbdjkbklaa
open Go.RowKit
set_option linter.unusedVariables false

/-- The transform after k layers, and the inverse. -/
def nttK (f : Nat → Int) : Nat → Nat → Int
  | 0 => f
  | k + 1 => sp (128 / 2 ^ k) (nttK f k)
def inttK (f : Nat → Int) : Nat → Nat → Int
  | 0 => f
  | k + 1 => jn (2 * 2 ^ k) (inttK f k)
theorem nttK_7 (f : Nat → Int) : nttK f 7 = ntt f := rfl
theorem inttK_7 (f : Nat → Int) : inttK f 7 = intt f := rfl
theorem nttK_rng {f : Nat → Int} (h : R16 f) (k : Nat) : R16 (nttK f k) := by
  cases k with
  | zero => exact h
  | succ k => exact R16.of_low (sp_low _ _)
theorem inttK_rng {f : Nat → Int} (h : R16 f) (k : Nat) : R16 (inttK f k) := by
  cases k with
  | zero => exact h
  | succ k => exact R16.of_low (jn_low _ _)
theorem lay_ntt (k : Nat) (h : k < 7) : Lay (128 / 2 ^ k) := by
  have : k = 0 ∨ k = 1 ∨ k = 2 ∨ k = 3 ∨ k = 4 ∨ k = 5 ∨ k = 6 := by omega
  unfold Lay
  rcases this with rfl | rfl | rfl | rfl | rfl | rfl | rfl <;> decide
theorem lay_intt (k : Nat) (h : k < 7) : Lay (2 * 2 ^ k) := by
  have : k = 0 ∨ k = 1 ∨ k = 2 ∨ k = 3 ∨ k = 4 ∨ k = 5 ∨ k = 6 := by omega
  unfold Lay
  rcases this with rfl | rfl | rfl | rfl | rfl | rfl | rfl <;> decide
theorem ntt_next (k : Nat) : 128 / 2 ^ k / 2 = 128 / 2 ^ (k + 1) := by rw [Nat.div_div_eq_div_mul, Nat.pow_succ]
theorem intt_next (k : Nat) : 2 * 2 ^ k * 2 = 2 * 2 ^ (k + 1) := by rw [Nat.pow_succ, Nat.mul_assoc]
def Lps (w wx : World) (g p : Nat) (cz cp : Array Value) (F : Nat → Int) : Prop := Past w wx ∧ Row wx g 28 (arr .u16 256 F) ∧ Row wx (g + 1) 28 cz ∧ Row wx p 26 cp
set_option maxHeartbeats 4000000 in
set_option maxRecDepth 100000 in
theorem pntt_any (f : Nat → Int) (hf : R16 f) (w : World) : Calls Try.prog 10 #[.agg (arr .u16 256 f)] w fun e w' => e = .returned (.agg (arr .u16 256 (ntt f))) ∧ Past w w' := by
  have HSP := Lib.hid (fun s (hs : Lay s) k w => psplit_any s hs (nttK f k) (nttK_rng hf k) w)
  have HPW := Lib.hid (fun w => ppowers_any w)
  obtain ⟨g, hg⟩ : ∃ g, w.heap.size = g := ⟨_, rfl⟩
  obtain ⟨w2, hw2⟩ : ∃ w', w' = (w.alloc (.cells (arr .u16 256 f) 28)).alloc (.cells (arr .u16 256 fun _ => 0) 28) := ⟨_, rfl⟩
  have H0 : Hid (Past w w2 ∧ Row w2 g 28 (arr .u16 256 f) ∧ Row w2 (g + 1) 28 (arr .u16 256 fun _ => 0)) := Lib.hid (by
    have h := two_rows (Below.refl _ ((w.alloc (.cells (arr .u16 256 f) 28)).alloc (.cells (arr .u16 256 fun _ => 0) 28)))
    rw [hg, ← hw2] at h
    exact ⟨h.2.2.2, h.1, h.2.1⟩)
  have HG2 : Hid (w2.heap.size = g + 1 + 1) := Lib.hid (by rw [hw2]; simp; omega)
  have HGE : Hid (w.heap.size = g) := Lib.hid hg
  have HW2 := Lib.hid hw2
  clear hw2 hf
  have HSZ := Lib.hid (fun k => arr_size .u16 256 (nttK f k))
  have HIN := Lib.hid (fun k => infP (nttK f k))
  have HON := Lib.hid (fun k => arr_one .u16 256 (nttK f k))
  rw [show (ntt f) = nttK f 7 from (nttK_7 f).symm]
  go_enter Try.func10, Try.ntmps10
  have hz := zeroP
  go_upto_region 1 with (fail)
  clear hz
  rw [← HW2.out]
  try rw [hg]
  clear HW2 hg
  go_wp2_with fail
  refine (HPW.out _).mono ?_
  rintro e w3 ⟨rfl, hp3⟩
  obtain ⟨p, hu⟩ : ∃ u, w3.heap.size = u := ⟨_, rfl⟩
  have hz := zero256
  have hfr := fresh_row w3 26 (arr .u16 256 fun _ => 0) (arr .u16 256 pw)
  have hr0 := Row.new w3 26 (arr .u16 256 fun _ => 0)
  have hsN : (arr .u16 256 fun _ => 0).size = (arr .u16 256 pw).size := by rw [arr_size, arr_size]
  have hoN := arr_one .u16 256 pw
  have hi2 := inf256 pw
  rw [hu] at hfr hr0
  obtain ⟨w4, hw4⟩ : ∃ w', (w3.alloc (.cells (arr .u16 256 fun _ => 0) 26)).setRow p (arr .u16 256 pw) = w' := ⟨_, rfl⟩
  rw [hw4] at hfr
  have HPG : Hid (g + 1 < p) := Lib.hid (by have := hp3.size; have := HG2.out; omega)
  have H1 : Hid (Lps w w4 g p (arr .u16 256 fun _ => 0) (arr .u16 256 pw) (nttK f 0)) := Lib.hid ⟨(H0.out.1.trans' hp3).trans' hfr.2, (H0.out.2.1.past hp3).past hfr.2, (H0.out.2.2.past hp3).past hfr.2, hfr.1⟩
  have HW4 := Lib.hid hw4
  clear hw4 hp3 hfr H0
  generalize arr .u16 256 pw = cp at *
  have HSZ0 : Hid ((arr .u16 256 fun _ => 0).size = 256) := Lib.hid (arr_size _ _ _)
  generalize arr .u16 256 (fun _ => 0) = cz at *
  have HI2 := Lib.hid hi2
  go_wp2_with (refine wpList_store_row rfl 26 _ _ rfl p _ rfl rfl _ _ hr0 hi2 hsN hoN ?_)
  rw [HW4.out]
  clear HW4 hr0 hsN hoN hu hz
  go_loopg [4] 7 (fun q s4 wx => ∃ k v : Nat, k ≤ 7 ∧ q = 7 - k ∧ s4 = .int .i64 (v : Int) ∧ Hid (v = 128 / 2 ^ k) ∧ Hid (Lps w wx g p cz cp (nttK f k)))
  case atStart => exact ⟨0, 128, Nat.zero_le _, rfl, rfl, Lib.hid rfl, H1⟩
  case round =>
    clear H1
    obtain ⟨k, v, hk, hq, rfl, HV, HL⟩ := hrel
    have HGQ := Lib.hid hq
    clear hq
    by_cases hlt : k < 7
    · have hlay : Lay v := by rw [HV.out]; exact lay_ntt k hlt
      obtain ⟨v0, v1, _, _⟩ := lay_rng hlay
      have hv2 : 2 ≤ v := by unfold Lay at hlay; omega
      have htest : (2 : Int) ≤ (v : Int) := by omega
      obtain ⟨v2, hv2e⟩ : ∃ v2, v / 2 = v2 := ⟨_, rfl⟩
      have HV2 := Lib.hid hv2e
      have HVN : Hid (v2 = 128 / 2 ^ (k + 1)) := Lib.hid (by rw [← hv2e, HV.out]; exact ntt_next k)
      have HWV : Hid (IntKind.i64.wrap (v2 : Int) = (v2 : Int) ∧ wrap64 (v2 : Int) = (v2 : Int)) := Lib.hid ⟨by rw [IntKind.wrap_i64]; omega, IntWalk.wrap64_in _ (by omega)⟩
      have HLT := Lib.hid hlt
      have HMS : Hid (7 - (k + 1) < 7 - k) := Lib.hid (by omega)
      have HC := Lib.hid (HSP.out v hlay k)
      have HNX : Hid (sp v (nttK f k) = nttK f (k + 1)) := Lib.hid (by rw [HV.out]; rfl)
      rw [HNX.out] at HC
      have hr1 := HL.out.2.1
      have hr2 := HL.out.2.2.2
      have hi1 := HIN.out k
      have hi4 := HIN.out (k + 1)
      have hs4 : (arr .u16 256 (nttK f k)).size = (arr .u16 256 (nttK f (k + 1))).size := by rw [HSZ.out, HSZ.out]
      have ho4 := HON.out (k + 1)
      have HL2 : Hid (∀ w5, Past wr w5 → Row w5 g 28 (arr .u16 256 (nttK f k)) ∧ Lps w (w5.setRow g (arr .u16 256 (nttK f (k + 1)))) g p cz cp (nttK f (k + 1))) := Lib.hid (by
        intro w5 h5
        obtain ⟨l1, l2, l3, l4⟩ := HL.out
        exact ⟨l2.past h5, below_setRow (l1.trans' h5) (by have := HGE.out; omega) _, setRow_heap _ _ _ _ _ _ (l2.past h5), (setRow_other _ _ _ _ (by omega)).trans (l3.past h5), (setRow_other _ _ _ _ (by have := HPG.out; omega)).trans (l4.past h5)⟩)
      have hi2 := HI2.out
      clear hlay hlt hk hv2e v0 v1 hv2
      have hdv : (v : Int).tdiv 2 = (v2 : Int) := by rw [← HV2.out]; exact (Int.natCast_ediv v 2 ▸ Int.tdiv_eq_ediv_of_nonneg (Int.natCast_nonneg v))
      have hdv2 : (v : Int) / 2 = (v2 : Int) := by rw [← HV2.out]; exact (Int.natCast_ediv v 2).symm
      have hwv : IntKind.i64.wrap (v2 : Int) = (v2 : Int) := HWV.out.1
      have hwv2 : wrap64 (v2 : Int) = (v2 : Int) := HWV.out.2
      generalize arr .u16 256 (nttK f k) = c1 at *
      generalize arr .u16 256 (nttK f (k + 1)) = c2 at *
      go_wp2_with (first | (refine wpList_load_row rfl 28 _ rfl g rfl _ _ (0, 0) _ hr1 Try.underlying28 rfl hi1 ?_) | (refine wpList_load_row rfl 26 _ rfl p rfl _ _ (0, 0) _ hr2 Try.underlying26 rfl hi2 ?_))
      refine (HC.out _).mono ?_
      rintro e w5 ⟨rfl, hp5⟩
      obtain ⟨hr5, hl5⟩ := HL2.out w5 hp5
      have HL5 := Lib.hid hl5
      clear hp5 hl5 hr1 hr2 HL2
      go_wp2_with (refine wpList_store_row rfl 28 _ _ rfl g _ rfl rfl _ _ hr5 hi4 hs4 ho4 ?_)
      go_roundg (7 - (k + 1))
      case rel => exact ⟨k + 1, v2, HLT.out, rfl, rfl, HVN, HL5⟩
      case measure => rw [HGQ.out]; exact HMS.out
    · obtain rfl : k = 7 := by omega
      have htest : ¬ (2 : Int) ≤ (v : Int) := by rw [HV.out]; decide
      have hr2 := HL.out.2.1
      have hr1 := HL.out.2.2.1
      have hi2 := HIN.out 7
      have hs2 : cz.size = (arr .u16 256 (nttK f 7)).size := by rw [HSZ.out]; exact HSZ0.out
      have ho2 := HON.out 7
      have HP := Lib.hid HL.out.1
      generalize hcc : arr .u16 256 (nttK f 7) = c2 at *
      have HCC := Lib.hid hcc
      clear hcc HL
      go_wp2_with (first | (refine wpList_load_row rfl 28 _ rfl g rfl _ _ (0, 0) _ hr2 Try.underlying28 rfl hi2 ?_) | (refine wpList_store_row rfl 28 _ _ rfl (g + 1) _ rfl rfl _ _ hr1 hi2 hs2 ho2 ?_))
      refine bodyPost_ret (results_cell_row rfl _ _ (g + 1) _ c2 (0, 0) _ rfl (setRow_heap wr (g + 1) cz c2 _ _ hr1) Try.underlying28 rfl hi2) rfl ?_
      exact ⟨by rw [HCC.out], below_setRow HP.out (by have := HGE.out; omega) _⟩
set_option maxHeartbeats 4000000 in
set_option maxRecDepth 100000 in
theorem pintt_any (f : Nat → Int) (hf : R16 f) (w : World) : Calls Try.prog 13 #[.agg (arr .u16 256 f)] w fun e w' => e = .returned (.agg (arr .u16 256 (intt f))) ∧ Past w w' := by
  have HSP := Lib.hid (fun s (hs : Lay s) k w => pjoined_any s hs (inttK f k) (inttK_rng hf k) w)
  have HPW := Lib.hid (fun w => ppowers_any w)
  obtain ⟨g, hg⟩ : ∃ g, w.heap.size = g := ⟨_, rfl⟩
  obtain ⟨w2, hw2⟩ : ∃ w', w' = (w.alloc (.cells (arr .u16 256 f) 28)).alloc (.cells (arr .u16 256 fun _ => 0) 28) := ⟨_, rfl⟩
  have H0 : Hid (Past w w2 ∧ Row w2 g 28 (arr .u16 256 f) ∧ Row w2 (g + 1) 28 (arr .u16 256 fun _ => 0)) := Lib.hid (by
    have h := two_rows (Below.refl _ ((w.alloc (.cells (arr .u16 256 f) 28)).alloc (.cells (arr .u16 256 fun _ => 0) 28)))
    rw [hg, ← hw2] at h
    exact ⟨h.2.2.2, h.1, h.2.1⟩)
  have HG2 : Hid (w2.heap.size = g + 1 + 1) := Lib.hid (by rw [hw2]; simp; omega)
  have HGE : Hid (w.heap.size = g) := Lib.hid hg
  have HW2 := Lib.hid hw2
  clear hw2 hf
  have HSZ := Lib.hid (fun k => arr_size .u16 256 (inttK f k))
  have HIN := Lib.hid (fun k => infP (inttK f k))
  have HON := Lib.hid (fun k => arr_one .u16 256 (inttK f k))
  rw [show (intt f) = inttK f 7 from (inttK_7 f).symm]
  go_enter Try.func13, Try.ntmps13
  have hz := zeroP
  go_upto_region 1 with (fail)
  clear hz
  rw [← HW2.out]
  try rw [hg]
  clear HW2 hg
  go_wp2_with fail
  refine (HPW.out _).mono ?_
  rintro e w3 ⟨rfl, hp3⟩
  obtain ⟨p, hu⟩ : ∃ u, w3.heap.size = u := ⟨_, rfl⟩
  have hz := zero256
  have hfr := fresh_row w3 26 (arr .u16 256 fun _ => 0) (arr .u16 256 pw)
  have hr0 := Row.new w3 26 (arr .u16 256 fun _ => 0)
  have hsN : (arr .u16 256 fun _ => 0).size = (arr .u16 256 pw).size := by rw [arr_size, arr_size]
  have hoN := arr_one .u16 256 pw
  have hi2 := inf256 pw
  rw [hu] at hfr hr0
  obtain ⟨w4, hw4⟩ : ∃ w', (w3.alloc (.cells (arr .u16 256 fun _ => 0) 26)).setRow p (arr .u16 256 pw) = w' := ⟨_, rfl⟩
  rw [hw4] at hfr
  have HPG : Hid (g + 1 < p) := Lib.hid (by have := hp3.size; have := HG2.out; omega)
  have H1 : Hid (Lps w w4 g p (arr .u16 256 fun _ => 0) (arr .u16 256 pw) (inttK f 0)) := Lib.hid ⟨(H0.out.1.trans' hp3).trans' hfr.2, (H0.out.2.1.past hp3).past hfr.2, (H0.out.2.2.past hp3).past hfr.2, hfr.1⟩
  have HW4 := Lib.hid hw4
  clear hw4 hp3 hfr H0
  generalize arr .u16 256 pw = cp at *
  have HSZ0 : Hid ((arr .u16 256 fun _ => 0).size = 256) := Lib.hid (arr_size _ _ _)
  generalize arr .u16 256 (fun _ => 0) = cz at *
  have HI2 := Lib.hid hi2
  go_wp2_with (refine wpList_store_row rfl 26 _ _ rfl p _ rfl rfl _ _ hr0 hi2 hsN hoN ?_)
  rw [HW4.out]
  clear HW4 hr0 hsN hoN hu hz
  go_loopg [4] 7 (fun q s4 wx => ∃ k v : Nat, k ≤ 7 ∧ q = 7 - k ∧ s4 = .int .i64 (v : Int) ∧ Hid (v = 2 * 2 ^ k) ∧ Hid (Lps w wx g p cz cp (inttK f k)))
  case atStart => exact ⟨0, 2, Nat.zero_le _, rfl, rfl, Lib.hid rfl, H1⟩
  case round =>
    clear H1
    obtain ⟨k, v, hk, hq, rfl, HV, HL⟩ := hrel
    have HGQ := Lib.hid hq
    clear hq
    by_cases hlt : k < 7
    · have hlay : Lay v := by rw [HV.out]; exact lay_intt k hlt
      obtain ⟨v0, v1, _, _⟩ := lay_rng hlay
      have hv2 : 2 ≤ v := by unfold Lay at hlay; omega
      have htest : (v : Int) ≤ 128 := by omega
      obtain ⟨v2, hv2e⟩ : ∃ v2, v * 2 = v2 := ⟨_, rfl⟩
      have HV2 := Lib.hid hv2e
      have HVN : Hid (v2 = 2 * 2 ^ (k + 1)) := Lib.hid (by rw [← hv2e, HV.out]; exact intt_next k)
      have HWV : Hid (IntKind.i64.wrap (v2 : Int) = (v2 : Int) ∧ wrap64 (v2 : Int) = (v2 : Int)) := Lib.hid ⟨by rw [IntKind.wrap_i64]; omega, IntWalk.wrap64_in _ (by omega)⟩
      have HLT := Lib.hid hlt
      have HMS : Hid (7 - (k + 1) < 7 - k) := Lib.hid (by omega)
      have HC := Lib.hid (HSP.out v hlay k)
      have HNX : Hid (jn v (inttK f k) = inttK f (k + 1)) := Lib.hid (by rw [HV.out]; rfl)
      rw [HNX.out] at HC
      have hr1 := HL.out.2.1
      have hr2 := HL.out.2.2.2
      have hi1 := HIN.out k
      have hi4 := HIN.out (k + 1)
      have hs4 : (arr .u16 256 (inttK f k)).size = (arr .u16 256 (inttK f (k + 1))).size := by rw [HSZ.out, HSZ.out]
      have ho4 := HON.out (k + 1)
      have HL2 : Hid (∀ w5, Past wr w5 → Row w5 g 28 (arr .u16 256 (inttK f k)) ∧ Lps w (w5.setRow g (arr .u16 256 (inttK f (k + 1)))) g p cz cp (inttK f (k + 1))) := Lib.hid (by
        intro w5 h5
        obtain ⟨l1, l2, l3, l4⟩ := HL.out
        exact ⟨l2.past h5, below_setRow (l1.trans' h5) (by have := HGE.out; omega) _, setRow_heap _ _ _ _ _ _ (l2.past h5), (setRow_other _ _ _ _ (by omega)).trans (l3.past h5), (setRow_other _ _ _ _ (by have := HPG.out; omega)).trans (l4.past h5)⟩)
      have hi2 := HI2.out
      clear hlay hlt hk hv2e v0 v1 hv2
      have hwv : IntKind.i64.wrap ((v : Int) * 2) = (v2 : Int) := by rw [show (v : Int) * 2 = (v2 : Int) by rw [← HV2.out]; exact (Int.natCast_mul v 2).symm]; exact HWV.out.1
      have hwv2 : wrap64 (v2 : Int) = (v2 : Int) := HWV.out.2
      generalize arr .u16 256 (inttK f k) = c1 at *
      generalize arr .u16 256 (inttK f (k + 1)) = c2 at *
      go_wp2_with (first | (refine wpList_load_row rfl 28 _ rfl g rfl _ _ (0, 0) _ hr1 Try.underlying28 rfl hi1 ?_) | (refine wpList_load_row rfl 26 _ rfl p rfl _ _ (0, 0) _ hr2 Try.underlying26 rfl hi2 ?_))
      refine (HC.out _).mono ?_
      rintro e w5 ⟨rfl, hp5⟩
      obtain ⟨hr5, hl5⟩ := HL2.out w5 hp5
      have HL5 := Lib.hid hl5
      clear hp5 hl5 hr1 hr2 HL2
      go_wp2_with (refine wpList_store_row rfl 28 _ _ rfl g _ rfl rfl _ _ hr5 hi4 hs4 ho4 ?_)
      go_roundg (7 - (k + 1))
      case rel => exact ⟨k + 1, v2, HLT.out, rfl, rfl, HVN, HL5⟩
      case measure => rw [HGQ.out]; exact HMS.out
    · obtain rfl : k = 7 := by omega
      have htest : ¬ (v : Int) ≤ 128 := by rw [HV.out]; decide
      have hr2 := HL.out.2.1
      have hr1 := HL.out.2.2.1
      have hi2 := HIN.out 7
      have hs2 : cz.size = (arr .u16 256 (inttK f 7)).size := by rw [HSZ.out]; exact HSZ0.out
      have ho2 := HON.out 7
      have HP := Lib.hid HL.out.1
      generalize hcc : arr .u16 256 (inttK f 7) = c2 at *
      have HCC := Lib.hid hcc
      clear hcc HL
      go_wp2_with (first | (refine wpList_load_row rfl 28 _ rfl g rfl _ _ (0, 0) _ hr2 Try.underlying28 rfl hi2 ?_) | (refine wpList_store_row rfl 28 _ _ rfl (g + 1) _ rfl rfl _ _ hr1 hi2 hs2 ho2 ?_))
      refine bodyPost_ret (results_cell_row rfl _ _ (g + 1) _ c2 (0, 0) _ rfl (setRow_heap wr (g + 1) cz c2 _ _ hr1) Try.underlying28 rfl hi2) rfl ?_
      exact ⟨by rw [HCC.out], below_setRow HP.out (by have := HGE.out; omega) _⟩
end Go.Proofs.Ytmhhkhbdjkbklaa
