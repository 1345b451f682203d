/- The program's NTT and Inverse. The program's Mul; the contracts of package kring whole. -/
import Derived.Test.YtalhdalmafhofaaGreatDoorM14D
namespace Go.Proofs.YtalhdalmafhofaaGreatDoor
set_option maxRecDepth 100000
open Go.RowKit
set_option linter.unusedVariables false

/-- The transform after k layers, and the inverse. -/
def nttK (f : Nat → Int) : Nat → Nat → Int
  | 0 => f
  | k + 1 => sp (128 / 2 ^ k) (nttK f k)
def inttK (f : Nat → Int) : Nat → Nat → Int
  | 0 => f
  | k + 1 => jn (2 * 2 ^ k) (inttK f k)
theorem nttK_7 (f : Nat → Int) : nttK f 7 = ntt f := rfl
theorem inttK_7 (f : Nat → Int) : inttK f 7 = intt f := rfl
theorem nttK_rng {f : Nat → Int} (h : R16 f) (k : Nat) : R16 (nttK f k) := by
  cases k with
  | zero => exact h
  | succ k => exact R16.of_low (sp_low _ _)
theorem inttK_rng {f : Nat → Int} (h : R16 f) (k : Nat) : R16 (inttK f k) := by
  cases k with
  | zero => exact h
  | succ k => exact R16.of_low (jn_low _ _)
theorem lay_ntt (k : Nat) (h : k < 7) : Lay (128 / 2 ^ k) := by
  have : k = 0 ∨ k = 1 ∨ k = 2 ∨ k = 3 ∨ k = 4 ∨ k = 5 ∨ k = 6 := by omega
  unfold Lay
  rcases this with rfl | rfl | rfl | rfl | rfl | rfl | rfl <;> decide
theorem lay_intt (k : Nat) (h : k < 7) : Lay (2 * 2 ^ k) := by
  have : k = 0 ∨ k = 1 ∨ k = 2 ∨ k = 3 ∨ k = 4 ∨ k = 5 ∨ k = 6 := by omega
  unfold Lay
  rcases this with rfl | rfl | rfl | rfl | rfl | rfl | rfl <;> decide
theorem ntt_next (k : Nat) : 128 / 2 ^ k / 2 = 128 / 2 ^ (k + 1) := by rw [Nat.div_div_eq_div_mul, Nat.pow_succ]
theorem intt_next (k : Nat) : 2 * 2 ^ k * 2 = 2 * 2 ^ (k + 1) := by rw [Nat.pow_succ, Nat.mul_assoc]
def Lps (w wx : World) (g p : Nat) (cz cp : Array Value) (F : Nat → Int) : Prop := Past w wx ∧ Row wx g 30 (arr .u16 256 F) ∧ Row wx (g + 1) 30 cz ∧ Row wx p 29 cp
set_option maxHeartbeats 4000000 in
set_option maxRecDepth 100000 in
theorem pntt_any (f : Nat → Int) (hf : R16 f) (w : World) : Calls Tryz.prog 36 #[.agg (arr .u16 256 f)] w fun e w' => e = .returned (.agg (arr .u16 256 (ntt f))) ∧ Past w w' := by
  have HSP := Lib.hid (fun s (hs : Lay s) k w => psplit_any s hs (nttK f k) (nttK_rng hf k) w)
  have HPW := Lib.hid (fun w => ppowers_any w)
  obtain ⟨g, hg⟩ : ∃ g, w.heap.size = g := ⟨_, rfl⟩
  obtain ⟨w2, hw2⟩ : ∃ w', w' = (w.alloc (.cells (arr .u16 256 f) 30)).alloc (.cells (arr .u16 256 fun _ => 0) 30) := ⟨_, rfl⟩
  have H0 : Hid (Past w w2 ∧ Row w2 g 30 (arr .u16 256 f) ∧ Row w2 (g + 1) 30 (arr .u16 256 fun _ => 0)) := Lib.hid (by
    have h := two_rows (Below.refl _ ((w.alloc (.cells (arr .u16 256 f) 30)).alloc (.cells (arr .u16 256 fun _ => 0) 30)))
    rw [hg, ← hw2] at h
    exact ⟨h.2.2.2, h.1, h.2.1⟩)
  have HG2 : Hid (w2.heap.size = g + 1 + 1) := Lib.hid (by rw [hw2]; simp; omega)
  have HGE : Hid (w.heap.size = g) := Lib.hid hg
  have HW2 := Lib.hid hw2
  clear hw2 hf
  have HSZ := Lib.hid (fun k => arr_size .u16 256 (nttK f k))
  have HIN := Lib.hid (fun k => infP (nttK f k))
  have HON := Lib.hid (fun k => arr_one .u16 256 (nttK f k))
  rw [show (ntt f) = nttK f 7 from (nttK_7 f).symm]
  go_enter Tryz.func36, Tryz.ntmps36
  have hz := zeroP
  go_upto_region 1 with (fail)
  clear hz
  rw [← HW2.out]
  try rw [hg]
  clear HW2 hg
  go_wp2_with fail
  refine (HPW.out _).mono ?_
  rintro e w3 ⟨rfl, hp3⟩
  obtain ⟨p, hu⟩ : ∃ u, w3.heap.size = u := ⟨_, rfl⟩
  have hz := zero256
  have hfr := fresh_row w3 29 (arr .u16 256 fun _ => 0) (arr .u16 256 pw)
  have hr0 := Row.new w3 29 (arr .u16 256 fun _ => 0)
  have hsN : (arr .u16 256 fun _ => 0).size = (arr .u16 256 pw).size := by rw [arr_size, arr_size]
  have hoN := arr_one .u16 256 pw
  have hi2 := inf256 pw
  rw [hu] at hfr hr0
  obtain ⟨w4, hw4⟩ : ∃ w', (w3.alloc (.cells (arr .u16 256 fun _ => 0) 29)).setRow p (arr .u16 256 pw) = w' := ⟨_, rfl⟩
  rw [hw4] at hfr
  have HPG : Hid (g + 1 < p) := Lib.hid (by have := hp3.size; have := HG2.out; omega)
  have H1 : Hid (Lps w w4 g p (arr .u16 256 fun _ => 0) (arr .u16 256 pw) (nttK f 0)) := Lib.hid ⟨(H0.out.1.trans' hp3).trans' hfr.2, (H0.out.2.1.past hp3).past hfr.2, (H0.out.2.2.past hp3).past hfr.2, hfr.1⟩
  have HW4 := Lib.hid hw4
  clear hw4 hp3 hfr H0
  generalize arr .u16 256 pw = cp at *
  have HSZ0 : Hid ((arr .u16 256 fun _ => 0).size = 256) := Lib.hid (arr_size _ _ _)
  generalize arr .u16 256 (fun _ => 0) = cz at *
  have HI2 := Lib.hid hi2
  go_wp2_with (refine wpList_store_row rfl 29 _ _ rfl p _ rfl rfl _ _ hr0 hi2 hsN hoN ?_)
  rw [HW4.out]
  clear HW4 hr0 hsN hoN hu hz
  go_loopg [4] 7 (fun q s4 wx => ∃ k v : Nat, k ≤ 7 ∧ q = 7 - k ∧ s4 = .int .i64 (v : Int) ∧ Hid (v = 128 / 2 ^ k) ∧ Hid (Lps w wx g p cz cp (nttK f k)))
  case atStart => exact ⟨0, 128, Nat.zero_le _, rfl, rfl, Lib.hid rfl, H1⟩
  case round =>
    clear H1
    obtain ⟨k, v, hk, hq, rfl, HV, HL⟩ := hrel
    have HGQ := Lib.hid hq
    clear hq
    by_cases hlt : k < 7
    · have hlay : Lay v := by rw [HV.out]; exact lay_ntt k hlt
      obtain ⟨v0, v1, _, _⟩ := lay_rng hlay
      have hv2 : 2 ≤ v := by unfold Lay at hlay; omega
      have htest : (2 : Int) ≤ (v : Int) := by omega
      obtain ⟨v2, hv2e⟩ : ∃ v2, v / 2 = v2 := ⟨_, rfl⟩
      have HV2 := Lib.hid hv2e
      have HVN : Hid (v2 = 128 / 2 ^ (k + 1)) := Lib.hid (by rw [← hv2e, HV.out]; exact ntt_next k)
      have HWV : Hid (IntKind.i64.wrap (v2 : Int) = (v2 : Int) ∧ wrap64 (v2 : Int) = (v2 : Int)) := Lib.hid ⟨by rw [IntKind.wrap_i64]; omega, IntWalk.wrap64_in _ (by omega)⟩
      have HLT := Lib.hid hlt
      have HMS : Hid (7 - (k + 1) < 7 - k) := Lib.hid (by omega)
      have HC := Lib.hid (HSP.out v hlay k)
      have HNX : Hid (sp v (nttK f k) = nttK f (k + 1)) := Lib.hid (by rw [HV.out]; rfl)
      rw [HNX.out] at HC
      have hr1 := HL.out.2.1
      have hr2 := HL.out.2.2.2
      have hi1 := HIN.out k
      have hi4 := HIN.out (k + 1)
      have hs4 : (arr .u16 256 (nttK f k)).size = (arr .u16 256 (nttK f (k + 1))).size := by rw [HSZ.out, HSZ.out]
      have ho4 := HON.out (k + 1)
      have HL2 : Hid (∀ w5, Past wr w5 → Row w5 g 30 (arr .u16 256 (nttK f k)) ∧ Lps w (w5.setRow g (arr .u16 256 (nttK f (k + 1)))) g p cz cp (nttK f (k + 1))) := Lib.hid (by
        intro w5 h5
        obtain ⟨l1, l2, l3, l4⟩ := HL.out
        exact ⟨l2.past h5, below_setRow (l1.trans' h5) (by have := HGE.out; omega) _, setRow_heap _ _ _ _ _ _ (l2.past h5), (setRow_other _ _ _ _ (by omega)).trans (l3.past h5), (setRow_other _ _ _ _ (by have := HPG.out; omega)).trans (l4.past h5)⟩)
      have hi2 := HI2.out
      clear hlay hlt hk hv2e v0 v1 hv2
      have hdv : (v : Int).tdiv 2 = (v2 : Int) := by rw [← HV2.out]; exact (Int.natCast_ediv v 2 ▸ Int.tdiv_eq_ediv_of_nonneg (Int.natCast_nonneg v))
      have hdv2 : (v : Int) / 2 = (v2 : Int) := by rw [← HV2.out]; exact (Int.natCast_ediv v 2).symm
      have hwv : IntKind.i64.wrap (v2 : Int) = (v2 : Int) := HWV.out.1
      have hwv2 : wrap64 (v2 : Int) = (v2 : Int) := HWV.out.2
      generalize arr .u16 256 (nttK f k) = c1 at *
      generalize arr .u16 256 (nttK f (k + 1)) = c2 at *
      go_wp2_with (first | (refine wpList_load_row rfl 30 _ rfl g rfl _ _ (0, 0) _ hr1 Tryz.underlying30 rfl hi1 ?_) | (refine wpList_load_row rfl 29 _ rfl p rfl _ _ (0, 0) _ hr2 Tryz.underlying29 rfl hi2 ?_))
      refine (HC.out _).mono ?_
      rintro e w5 ⟨rfl, hp5⟩
      obtain ⟨hr5, hl5⟩ := HL2.out w5 hp5
      have HL5 := Lib.hid hl5
      clear hp5 hl5 hr1 hr2 HL2
      go_wp2_with (refine wpList_store_row rfl 30 _ _ rfl g _ rfl rfl _ _ hr5 hi4 hs4 ho4 ?_)
      go_roundg (7 - (k + 1))
      case rel => exact ⟨k + 1, v2, HLT.out, rfl, rfl, HVN, HL5⟩
      case measure => rw [HGQ.out]; exact HMS.out
    · obtain rfl : k = 7 := by omega
      have htest : ¬ (2 : Int) ≤ (v : Int) := by rw [HV.out]; decide
      have hr2 := HL.out.2.1
      have hr1 := HL.out.2.2.1
      have hi2 := HIN.out 7
      have hs2 : cz.size = (arr .u16 256 (nttK f 7)).size := by rw [HSZ.out]; exact HSZ0.out
      have ho2 := HON.out 7
      have HP := Lib.hid HL.out.1
      generalize hcc : arr .u16 256 (nttK f 7) = c2 at *
      have HCC := Lib.hid hcc
      clear hcc HL
      go_wp2_with (first | (refine wpList_load_row rfl 30 _ rfl g rfl _ _ (0, 0) _ hr2 Tryz.underlying30 rfl hi2 ?_) | (refine wpList_store_row rfl 30 _ _ rfl (g + 1) _ rfl rfl _ _ hr1 hi2 hs2 ho2 ?_))
      refine bodyPost_ret (results_cell_row rfl _ _ (g + 1) _ c2 (0, 0) _ rfl (setRow_heap wr (g + 1) cz c2 _ _ hr1) Tryz.underlying30 rfl hi2) rfl ?_
      exact ⟨by rw [HCC.out], below_setRow HP.out (by have := HGE.out; omega) _⟩
end Go.Proofs.YtalhdalmafhofaaGreatDoor

namespace Go.Proofs.YtalhdalmafhofaaGreatDoor
open Go.RowKit
set_option linter.unusedVariables false

theorem mulF_pair (a b : Nat → Int) (i : Nat) : mulF a b (2 * i) = (a (2 * i) * b (2 * i) + rt i * a (2 * i + 1) * b (2 * i + 1)) % 3329 ∧ mulF a b (2 * i + 1) = (a (2 * i) * b (2 * i + 1) + a (2 * i + 1) * b (2 * i)) % 3329 := by
  unfold mulF
  rw [if_pos (by omega), if_neg (by omega), show 2 * i / 2 = i by omega, show 2 * i + 1 - 1 = 2 * i by omega]
  exact ⟨rfl, rfl⟩
theorem mul_bd4 {a b : Int} (a0 : 0 ≤ a) (a1 : a < 65536) (b0 : 0 ≤ b) (b1 : b < 65536) : 0 ≤ a * b ∧ a * b ≤ 4294836225 :=
  ⟨Int.mul_nonneg a0 b0, Int.le_trans (Int.mul_le_mul (show a ≤ 65535 by omega) (show b ≤ 65535 by omega) b0 (by decide)) (by decide)⟩
theorem mul_bd5 {a b : Int} (a0 : 0 ≤ a) (a1 : a ≤ 218100480) (b0 : 0 ≤ b) (b1 : b < 65536) : 0 ≤ a * b ∧ a * b ≤ 14293214956800 :=
  ⟨Int.mul_nonneg a0 b0, Int.le_trans (Int.mul_le_mul a1 (show b ≤ 65535 by omega) b0 (by decide)) (by decide)⟩
set_option maxHeartbeats 4000000 in
set_option maxRecDepth 100000 in
theorem pmul_any (a b : Nat → Int) (ha : R16 a) (hb : R16 b) (w : World) : Calls Tryz.prog 39 #[.agg (arr .u16 256 a), .agg (arr .u16 256 b)] w fun e w' => e = .returned (.agg (arr .u16 256 (mulF a b))) ∧ Past w w' := by
  have HPW := Lib.hid (fun w => ppowers_any w)
  have HCA := Lib.hid (fun i (hi : i < 256) => arr_get .u16 256 a i hi)
  have HCB := Lib.hid (fun i (hi : i < 256) => arr_get .u16 256 b i hi)
  have HCP := Lib.hid (fun i (hi : i < 256) => arr_get .u16 256 pw i hi)
  have HFA := Lib.hid ha
  have HFB := Lib.hid hb
  obtain ⟨g, hg⟩ : ∃ g, w.heap.size = g := ⟨_, rfl⟩
  obtain ⟨w3, hw3⟩ : ∃ w', w' = ((w.alloc (.cells (arr .u16 256 a) 30)).alloc (.cells (arr .u16 256 b) 30)).alloc (.cells (arr .u16 256 fun _ => 0) 30) := ⟨_, rfl⟩
  have H0 : Hid (Three14 .u16 256 w w3 g 30 30 30 (arr .u16 256 a) (arr .u16 256 b) fun _ => 0) := Lib.hid (by
    have h := Three14.new .u16 256 w 30 30 30 (arr .u16 256 a) (arr .u16 256 b) fun _ => 0
    rw [hg, ← hw3] at h
    exact h)
  have HG3 : Hid (w3.heap.size = g + 1 + 1 + 1) := Lib.hid (by rw [hw3]; simp; omega)
  have HGE : Hid (w.heap.size = g) := Lib.hid hg
  have HW3 := Lib.hid hw3
  clear hw3 ha hb
  generalize arr .u16 256 a = ca at *
  generalize arr .u16 256 b = cb at *
  have HSZ0 : Hid ((arr .u16 256 fun _ => 0).size = 256) := Lib.hid (arr_size _ _ _)
  obtain ⟨cz, hcz⟩ : ∃ c, arr .u16 256 (fun _ => 0) = c := ⟨_, rfl⟩
  have HZP := Lib.hid zeroP
  have HZN := Lib.hid zero256
  have HSN : Hid (cz.size = (arr .u16 256 pw).size) := Lib.hid (by rw [← hcz, arr_size, arr_size])
  rw [hcz] at HZP HZN HW3 HSZ0
  obtain ⟨z, hzz⟩ : ∃ u, w3.heap.size = u := ⟨_, rfl⟩
  obtain ⟨w4, hw4⟩ : ∃ w', w3.alloc (.cells cz 30) = w' := ⟨_, rfl⟩
  have HZ3 : Hid (g + 1 + 1 < z) := Lib.hid (by have := HG3.out; omega)
  have HS4 : Hid (w4.heap.size = z + 1) := Lib.hid (by rw [← hw4, World.size_alloc, hzz])
  have HR4 : Hid (Row w4 z 30 cz) := Lib.hid (by rw [← hw4, ← hzz]; exact Row.new _ _ _)
  have HF4 : Hid (Past w w4 ∧ Row w4 g 30 ca ∧ Row w4 (g + 1) 30 cb ∧ Row w4 (g + 1 + 1) 30 cz) := Lib.hid (by
    obtain ⟨q1, q2, q3, q4⟩ := H0.out
    have q4' : Row w3 (g + 1 + 1) 30 cz := by rw [← hcz]; exact q4
    rw [← hw4]
    exact ⟨q1.alloc q1.size _, q2.alloc _, q3.alloc _, q4'.alloc _⟩)
  have HW4 := Lib.hid hw4
  have HZZ := Lib.hid hzz
  clear hw4 hzz H0
  go_enter Tryz.func39, Tryz.ntmps39
  have hz := HZP.out
  go_upto_region 1 with (fail)
  clear hz
  rw [← HW3.out]
  try rw [hg]
  clear HW3 hg
  have hzp := HZP.out
  go_upto_region 2 with (fail)
  clear hzp
  rw [HW4.out]
  try rw [HZZ.out]
  clear HW4 HZZ
  go_wp2_with fail
  refine (HPW.out _).mono ?_
  rintro e w5 ⟨rfl, hp5⟩
  obtain ⟨p, hu⟩ : ∃ u, w5.heap.size = u := ⟨_, rfl⟩
  have hfr := fresh_row w5 29 cz (arr .u16 256 pw)
  have hr0 := Row.new w5 29 cz
  have hsN := HSN.out
  have hoN := arr_one .u16 256 pw
  have hi2 := inf256 pw
  rw [hu] at hfr hr0
  obtain ⟨w6, hw6⟩ : ∃ w', (w5.alloc (.cells cz 29)).setRow p (arr .u16 256 pw) = w' := ⟨_, rfl⟩
  rw [hw6] at hfr
  have HZ : Hid (g + 1 + 1 < z ∧ z < p) := Lib.hid ⟨HZ3.out, by have := hp5.size; have := HS4.out; omega⟩
  have HQ1 : Hid (Fx [(g, 30, ca), (g + 1, 30, cb), (g + 1 + 1, 30, cz), (p, 29, arr .u16 256 pw)] .u16 256 w w6 z 30 fun _ => 0) := Lib.hid (by
    obtain ⟨q1, q2, q3, q4⟩ := HF4.out
    have p6 : Past w4 w6 := hp5.trans' hfr.2
    refine ⟨q1.trans' p6, ?_, by unfold LM; rw [hcz]; exact HR4.out.past p6⟩
    intro x hx
    rcases List.mem_cons.1 hx with rfl | hx
    · exact q2.past p6
    rcases List.mem_cons.1 hx with rfl | hx
    · exact q3.past p6
    rcases List.mem_cons.1 hx with rfl | hx
    · exact q4.past p6
    rcases List.mem_cons.1 hx with rfl | hx
    · exact hfr.1
    cases hx)
  have HW6 := Lib.hid hw6
  clear hw6 hp5 hfr HF4 HR4 hcz
  generalize arr .u16 256 pw = cp at *
  have hz := HZN.out
  go_upto_region 3 with (refine wpList_store_row rfl 29 _ _ rfl p _ rfl rfl _ _ hr0 hi2 hsN hoN ?_)
  rw [HW6.out]
  clear HW6 hr0 hsN hoN hu hz hi2 HZN HSN
  go_wp2_with fail
  go_loopg [14] 128 (fun q s14 wx => ∃ i : Nat, i ≤ 128 ∧ q = 128 - i ∧ s14 = .int .i64 (i : Int) ∧ Hid (∃ F, Fx [(g, 30, ca), (g + 1, 30, cb), (g + 1 + 1, 30, cz), (p, 29, cp)] .u16 256 w wx z 30 F ∧ ∀ j, j < 2 * i → F j = mulF a b j))
  case atStart => exact ⟨0, Nat.zero_le _, rfl, rfl, Lib.hid ⟨_, HQ1.out, fun j hj => absurd hj (by omega)⟩⟩
  case round =>
    clear HQ1
    obtain ⟨i, hi, hq, rfl, HQ⟩ := hrel
    have HGQ := Lib.hid hq
    clear hq
    have hi0 : (0 : Int) ≤ (i : Int) := by omega
    by_cases hlt : i < 128
    · have hii : (i : Int) < 128 := by omega
      have HLT := Lib.hid hlt
      have HMS : Hid (128 - (i + 1) < 128 - i) := Lib.hid (by omega)
      have HRV := Lib.hid (fun w => exponent_any i hlt w)
      have hn := rv7_lt i
      have hrt : rt i = pw (2 * rv7 i + 1) := rfl
      obtain ⟨m, hm⟩ : ∃ m, 2 * rv7 i + 1 = m := ⟨_, rfl⟩
      rw [hm] at hrt HRV
      have HWN : Hid (wrap64 (m : Int) = (m : Int)) := Lib.hid (IntWalk.wrap64_in _ (by omega))
      obtain ⟨Z0, Z1⟩ := rt_lt i
      obtain ⟨Z, hZ⟩ : ∃ Z, rt i = Z := ⟨_, rfl⟩
      have HWZ : Hid (IntKind.i64.wrap Z = Z) := Lib.hid (by rw [IntKind.wrap_i64]; omega)
      obtain ⟨F, hT, hF⟩ := HQ.out
      have hc : wr.cell? ⟨p, m, none⟩ = some (.int .u16 Z) := by
        rw [(hT.2.1 (p, 29, cp) (by simp)).cell, ← hZ, hrt]
        exact HCP.out m (by omega)
      have hm0 : (0 : Int) ≤ (m : Int) := by omega
      have hm1 : (m : Int) < 256 := by omega
      obtain ⟨hp1, hp2⟩ := mulF_pair a b i
      rw [hZ] at hp1 Z0 Z1
      obtain ⟨e, he⟩ : ∃ e, 2 * i = e := ⟨_, rfl⟩
      rw [he] at hp1 hp2
      obtain ⟨o, ho⟩ : ∃ o, e + 1 = o := ⟨_, rfl⟩
      rw [ho] at hp1 hp2
      have HWE : Hid (IntKind.i64.wrap (2 * (i : Int)) = (e : Int) ∧ wrap64 (e : Int) = (e : Int)) := Lib.hid ⟨by rw [IntKind.wrap_i64]; omega, IntWalk.wrap64_in _ (by omega)⟩
      have HWO : Hid (IntKind.i64.wrap ((e : Int) + 1) = (o : Int) ∧ wrap64 (o : Int) = (o : Int)) := Lib.hid ⟨by rw [IntKind.wrap_i64]; omega, IntWalk.wrap64_in _ (by omega)⟩
      have he0 : (0 : Int) ≤ (e : Int) := by omega
      have he1 : (e : Int) < 256 := by omega
      have ho0 : (0 : Int) ≤ (o : Int) := by omega
      have ho1 : (o : Int) < 256 := by omega
      obtain ⟨A0, hA0⟩ : ∃ x, a e = x := ⟨_, rfl⟩
      obtain ⟨A1, hA1⟩ : ∃ x, a o = x := ⟨_, rfl⟩
      obtain ⟨B0, hB0⟩ : ∃ x, b e = x := ⟨_, rfl⟩
      obtain ⟨B1, hB1⟩ : ∃ x, b o = x := ⟨_, rfl⟩
      have x0 := HFA.out e
      have x1 := HFA.out o
      have y0 := HFB.out e
      have y1 := HFB.out o
      rw [hA0] at x0
      rw [hA1] at x1
      rw [hB0] at y0
      rw [hB1] at y1
      rw [hA0, hA1, hB0, hB1] at hp1 hp2
      obtain ⟨x00, x01⟩ := x0
      obtain ⟨x10, x11⟩ := x1
      obtain ⟨y00, y01⟩ := y0
      obtain ⟨y10, y11⟩ := y1
      have HWA0 : Hid (IntKind.i64.wrap A0 = A0) := Lib.hid (by rw [IntKind.wrap_i64]; omega)
      have HWA1 : Hid (IntKind.i64.wrap A1 = A1) := Lib.hid (by rw [IntKind.wrap_i64]; omega)
      have HWB0 : Hid (IntKind.i64.wrap B0 = B0) := Lib.hid (by rw [IntKind.wrap_i64]; omega)
      have HWB1 : Hid (IntKind.i64.wrap B1 = B1) := Lib.hid (by rw [IntKind.wrap_i64]; omega)
      obtain ⟨m10, m11⟩ := mul_bd4 x00 x01 y00 y01
      obtain ⟨m20, m21⟩ := mul_bd2 Z0 Z1 x10 x11
      obtain ⟨M1, hM1⟩ : ∃ x, A0 * B0 = x := ⟨_, rfl⟩
      obtain ⟨M2, hM2⟩ : ∃ x, Z * A1 = x := ⟨_, rfl⟩
      rw [hM1] at hp1 m10 m11
      rw [hM2] at hp1 m20 m21
      obtain ⟨m30, m31⟩ := mul_bd5 m20 m21 y10 y11
      obtain ⟨M3, hM3⟩ : ∃ x, M2 * B1 = x := ⟨_, rfl⟩
      rw [hM3] at hp1 m30 m31
      obtain ⟨n10, n11⟩ := mul_bd4 x00 x01 y10 y11
      obtain ⟨n20, n21⟩ := mul_bd4 x10 x11 y00 y01
      obtain ⟨N1, hN1⟩ : ∃ x, A0 * B1 = x := ⟨_, rfl⟩
      obtain ⟨N2, hN2⟩ : ∃ x, A1 * B0 = x := ⟨_, rfl⟩
      rw [hN1] at hp2 n10 n11
      rw [hN2] at hp2 n20 n21
      obtain ⟨E1, hE1⟩ : ∃ x, M1 + M3 = x := ⟨_, rfl⟩
      obtain ⟨E2, hE2⟩ : ∃ x, N1 + N2 = x := ⟨_, rfl⟩
      rw [hE1] at hp1
      rw [hE2] at hp2
      have HWM : Hid (IntKind.i64.wrap (A0 * B0) = M1 ∧ IntKind.i64.wrap (Z * A1) = M2 ∧ IntKind.i64.wrap (M2 * B1) = M3 ∧ IntKind.i64.wrap (M1 + M3) = E1) := Lib.hid ⟨by rw [hM1, IntKind.wrap_i64]; omega, by rw [hM2, IntKind.wrap_i64]; omega, by rw [hM3, IntKind.wrap_i64]; omega, by rw [hE1, IntKind.wrap_i64]; omega⟩
      have HWK : Hid (IntKind.i64.wrap (A0 * B1) = N1 ∧ IntKind.i64.wrap (A1 * B0) = N2 ∧ IntKind.i64.wrap (N1 + N2) = E2) := Lib.hid ⟨by rw [hN1, IntKind.wrap_i64]; omega, by rw [hN2, IntKind.wrap_i64]; omega, by rw [hE2, IntKind.wrap_i64]; omega⟩
      have HR1 := Lib.hid (fun w => reduce_any E1 w (by omega) (by omega))
      have HR2 := Lib.hid (fun w => reduce_any E2 w (by omega) (by omega))
      obtain ⟨P1, hPe1⟩ : ∃ P, E1 % 3329 = P := ⟨_, rfl⟩
      obtain ⟨P2, hPe2⟩ : ∃ P, E2 % 3329 = P := ⟨_, rfl⟩
      rw [hPe1] at HR1 hp1
      rw [hPe2] at HR2 hp2
      obtain ⟨wd7, hwd7⟩ : ∃ w', w' = wr.drew := ⟨_, rfl⟩
      obtain ⟨wd8, hwd8⟩ : ∃ w', w' = wd7.drew := ⟨_, rfl⟩
      have HWD7 := Lib.hid hwd7
      have HWD8 := Lib.hid hwd8
      have hT7 : Fx _ _ _ _ _ _ _ F := hT.drewN 1
      change Fx _ _ _ _ wr.drew _ _ _ at hT7
      rw [← hwd7] at hT7
      have hT8 : Fx _ _ _ _ _ _ _ F := hT7.drewN 1
      change Fx _ _ _ _ wd7.drew _ _ _ at hT8
      rw [← hwd8] at hT8
      have HS7 : Hid (wd7.cell? ⟨g, e, none⟩ = some (.int .u16 A0) ∧ wd7.cell? ⟨g, o, none⟩ = some (.int .u16 A1)) := Lib.hid (by
        have h := hT7.2.1 (g, 30, ca) (by simp)
        exact ⟨by rw [h.cell, ← hA0]; exact HCA.out e (by omega), by rw [h.cell, ← hA1]; exact HCA.out o (by omega)⟩)
      have HS8 : Hid (wd8.cell? ⟨g + 1, e, none⟩ = some (.int .u16 B0) ∧ wd8.cell? ⟨g + 1, o, none⟩ = some (.int .u16 B1)) := Lib.hid (by
        have h := hT8.2.1 (g + 1, 30, cb) (by simp)
        exact ⟨by rw [h.cell, ← hB0]; exact HCB.out e (by omega), by rw [h.cell, ← hB1]; exact HCB.out o (by omega)⟩)
      have hc9 := hT8.2.2.at e (by omega)
      have hf9 := hT8.2.2.fr e
      have hT10 := hT8.put2 (by have := HGE.out; have := HZ.out; omega) (by intro x hx; have := HZ.out; simp at hx; rcases hx with rfl | rfl | rfl | rfl <;> simp <;> omega) e (by omega) P1
      have hc10 := hT10.2.2.at o (by omega)
      have hf10 := hT10.2.2.fr o
      have hT11 := hT10.put2 (by have := HGE.out; have := HZ.out; omega) (by intro x hx; have := HZ.out; simp at hx; rcases hx with rfl | rfl | rfl | rfl <;> simp <;> omega) o (by omega) P2
      have HT : Hid (∃ F', Fx _ _ _ _ _ _ _ F' ∧ ∀ j, j < 2 * (i + 1) → F' j = mulF a b j) := Lib.hid ⟨_, hT11, fun j hj => by
        by_cases k1 : j = o
        · subst k1
          rw [upd_at]
          exact hp2.symm
        · rw [upd_ne _ _ k1]
          by_cases k2 : j = e
          · subst k2
            rw [upd_at]
            exact hp1.symm
          · rw [upd_ne _ _ k2]
            exact hF j (by omega)⟩
      clear hT hT7 hT8 hT10 hT11 hF hp1 hp2 hPe1 hPe2 hE1 hE2 hM1 hM2 hM3 hN1 hN2 hA0 hA1 hB0 hB1 he ho hm hn hrt hZ hlt hi hwd7 hwd8 HQ
      clear m10 m11 m20 m21 m30 m31 n10 n11 n20 n21 Z0 Z1 x00 x01 x10 x11 y00 y01 y10 y11
      go_wp2_with fail
      refine (HRV.out _).mono ?_
      rintro e4 w4 ⟨rfl, hw4⟩
      rw [hw4]
      clear hw4 HRV w4
      have hw1 := HWN.out
      have hwZ := HWZ.out
      go_upto_region 7 with (fail)
      clear hw1 hwZ hc
      refine wp_region_held_drew (S := fun w' => w'.cell? ⟨g, e, none⟩ = some (.int .u16 A0) ∧ w'.cell? ⟨g, o, none⟩ = some (.int .u16 A1)) (by kernel_rfl) (by rw [← HWD7.out]; exact HS7.out) (fun hH => ?_)
      change wpAnyH _ _ _ _ _ _ _ _ (World.drew _)
      rw [← HWD7.out]
      clear hH
      have hH := HS7.out
      clear HWD7
      refine held_take 0 22 (v := .int .i64 (i : Int)) rfl rfl (by kernel_rfl) (by kernel_rfl) (by kernel_rfl) (fun _ _ _ h => h) (Or.inl ⟨by kernel_rfl, fun w _ => by kernel_rfl⟩) hH ?_
      (try simp only [List.setIfInBounds_toArray, List.set_cons_zero, List.set_cons_succ])
      refine held_take 1 23 (v := .int .i64 (e : Int)) rfl rfl (by kernel_rfl) (by kernel_rfl) (by kernel_rfl) (fun _ _ _ h => h) (Or.inl ⟨by kernel_rfl, fun w _ => by have hwe := HWE.out.1; have hwe2 := HWE.out.2; go_simp⟩) hH ?_
      (try simp only [List.setIfInBounds_toArray, List.set_cons_zero, List.set_cons_succ])
      refine held_take 2 24 (v := .pointer (some ⟨g, e, none⟩)) rfl rfl (by kernel_rfl) (by kernel_rfl) (by kernel_rfl) (fun _ _ _ h => h) (Or.inl ⟨by kernel_rfl, fun w _ => by go_simp⟩) hH ?_
      (try simp only [List.setIfInBounds_toArray, List.set_cons_zero, List.set_cons_succ])
      refine held_take 3 25 (v := .int .u16 A0) rfl rfl (by kernel_rfl) (by kernel_rfl) (by kernel_rfl) (fun _ _ _ h => h) (Or.inl ⟨by kernel_rfl, fun w hSw => by
        have hcell := hSw.1
        go_simp⟩) hH ?_
      refine held_take 4 26 (v := .int .i64 A0) rfl rfl (by kernel_rfl) (by kernel_rfl) (by kernel_rfl) (fun _ _ _ h => h) (Or.inl ⟨by kernel_rfl, fun w _ => by have hwc := HWA0.out; go_simp⟩) hH ?_
      (try simp only [List.setIfInBounds_toArray, List.set_cons_zero, List.set_cons_succ])
      refine held_take 11 9 (v := .int .i64 A0) rfl rfl (by kernel_rfl) (by kernel_rfl) (by kernel_rfl) (fun _ _ _ h => h) (Or.inl ⟨by kernel_rfl, fun w _ => by kernel_rfl⟩) hH ?_
      (try simp only [List.setIfInBounds_toArray, List.set_cons_zero, List.set_cons_succ])
      refine held_take 5 27 (v := .int .i64 (i : Int)) rfl rfl (by kernel_rfl) (by kernel_rfl) (by kernel_rfl) (fun _ _ _ h => h) (Or.inl ⟨by kernel_rfl, fun w _ => by kernel_rfl⟩) hH ?_
      (try simp only [List.setIfInBounds_toArray, List.set_cons_zero, List.set_cons_succ])
      refine held_take 6 28 (v := .int .i64 (e : Int)) rfl rfl (by kernel_rfl) (by kernel_rfl) (by kernel_rfl) (fun _ _ _ h => h) (Or.inl ⟨by kernel_rfl, fun w _ => by have hwe := HWE.out.1; have hwe2 := HWE.out.2; go_simp⟩) hH ?_
      (try simp only [List.setIfInBounds_toArray, List.set_cons_zero, List.set_cons_succ])
      refine held_take 7 29 (v := .int .i64 (o : Int)) rfl rfl (by kernel_rfl) (by kernel_rfl) (by kernel_rfl) (fun _ _ _ h => h) (Or.inl ⟨by kernel_rfl, fun w _ => by have hwo := HWO.out.1; have hwo2 := HWO.out.2; go_simp⟩) hH ?_
      (try simp only [List.setIfInBounds_toArray, List.set_cons_zero, List.set_cons_succ])
      refine held_take 8 30 (v := .pointer (some ⟨g, o, none⟩)) rfl rfl (by kernel_rfl) (by kernel_rfl) (by kernel_rfl) (fun _ _ _ h => h) (Or.inl ⟨by kernel_rfl, fun w _ => by go_simp⟩) hH ?_
      (try simp only [List.setIfInBounds_toArray, List.set_cons_zero, List.set_cons_succ])
      refine held_take 9 31 (v := .int .u16 A1) rfl rfl (by kernel_rfl) (by kernel_rfl) (by kernel_rfl) (fun _ _ _ h => h) (Or.inl ⟨by kernel_rfl, fun w hSw => by
        have hcell := hSw.2
        go_simp⟩) hH ?_
      refine held_take 10 32 (v := .int .i64 A1) rfl rfl (by kernel_rfl) (by kernel_rfl) (by kernel_rfl) (fun _ _ _ h => h) (Or.inl ⟨by kernel_rfl, fun w _ => by have hwc := HWA1.out; go_simp⟩) hH ?_
      (try simp only [List.setIfInBounds_toArray, List.set_cons_zero, List.set_cons_succ])
      refine held_take 12 10 (v := .int .i64 A1) rfl rfl (by kernel_rfl) (by kernel_rfl) (by kernel_rfl) (fun _ _ _ h => h) (Or.inl ⟨by kernel_rfl, fun w _ => by kernel_rfl⟩) hH ?_
      (try simp only [List.setIfInBounds_toArray, List.set_cons_zero, List.set_cons_succ])
      refine wpAnyH_done (by kernel_rfl) ?_ _
      go_simp
      clear hH HS7
      go_upto_region 8 with (fail)
      refine wp_region_held_drew (S := fun w' => w'.cell? ⟨g + 1, e, none⟩ = some (.int .u16 B0) ∧ w'.cell? ⟨g + 1, o, none⟩ = some (.int .u16 B1)) (by kernel_rfl) (by rw [← HWD8.out]; exact HS8.out) (fun hH => ?_)
      change wpAnyH _ _ _ _ _ _ _ _ (World.drew _)
      rw [← HWD8.out]
      clear hH
      have hH := HS8.out
      clear HWD8
      refine held_take 0 33 (v := .int .i64 (i : Int)) rfl rfl (by kernel_rfl) (by kernel_rfl) (by kernel_rfl) (fun _ _ _ h => h) (Or.inl ⟨by kernel_rfl, fun w _ => by kernel_rfl⟩) hH ?_
      (try simp only [List.setIfInBounds_toArray, List.set_cons_zero, List.set_cons_succ])
      refine held_take 1 34 (v := .int .i64 (e : Int)) rfl rfl (by kernel_rfl) (by kernel_rfl) (by kernel_rfl) (fun _ _ _ h => h) (Or.inl ⟨by kernel_rfl, fun w _ => by have hwe := HWE.out.1; have hwe2 := HWE.out.2; go_simp⟩) hH ?_
      (try simp only [List.setIfInBounds_toArray, List.set_cons_zero, List.set_cons_succ])
      refine held_take 2 35 (v := .pointer (some ⟨g + 1, e, none⟩)) rfl rfl (by kernel_rfl) (by kernel_rfl) (by kernel_rfl) (fun _ _ _ h => h) (Or.inl ⟨by kernel_rfl, fun w _ => by go_simp⟩) hH ?_
      (try simp only [List.setIfInBounds_toArray, List.set_cons_zero, List.set_cons_succ])
      refine held_take 3 36 (v := .int .u16 B0) rfl rfl (by kernel_rfl) (by kernel_rfl) (by kernel_rfl) (fun _ _ _ h => h) (Or.inl ⟨by kernel_rfl, fun w hSw => by
        have hcell := hSw.1
        go_simp⟩) hH ?_
      refine held_take 4 37 (v := .int .i64 B0) rfl rfl (by kernel_rfl) (by kernel_rfl) (by kernel_rfl) (fun _ _ _ h => h) (Or.inl ⟨by kernel_rfl, fun w _ => by have hwc := HWB0.out; go_simp⟩) hH ?_
      (try simp only [List.setIfInBounds_toArray, List.set_cons_zero, List.set_cons_succ])
      refine held_take 11 11 (v := .int .i64 B0) rfl rfl (by kernel_rfl) (by kernel_rfl) (by kernel_rfl) (fun _ _ _ h => h) (Or.inl ⟨by kernel_rfl, fun w _ => by kernel_rfl⟩) hH ?_
      (try simp only [List.setIfInBounds_toArray, List.set_cons_zero, List.set_cons_succ])
      refine held_take 5 38 (v := .int .i64 (i : Int)) rfl rfl (by kernel_rfl) (by kernel_rfl) (by kernel_rfl) (fun _ _ _ h => h) (Or.inl ⟨by kernel_rfl, fun w _ => by kernel_rfl⟩) hH ?_
      (try simp only [List.setIfInBounds_toArray, List.set_cons_zero, List.set_cons_succ])
      refine held_take 6 39 (v := .int .i64 (e : Int)) rfl rfl (by kernel_rfl) (by kernel_rfl) (by kernel_rfl) (fun _ _ _ h => h) (Or.inl ⟨by kernel_rfl, fun w _ => by have hwe := HWE.out.1; have hwe2 := HWE.out.2; go_simp⟩) hH ?_
      (try simp only [List.setIfInBounds_toArray, List.set_cons_zero, List.set_cons_succ])
      refine held_take 7 40 (v := .int .i64 (o : Int)) rfl rfl (by kernel_rfl) (by kernel_rfl) (by kernel_rfl) (fun _ _ _ h => h) (Or.inl ⟨by kernel_rfl, fun w _ => by have hwo := HWO.out.1; have hwo2 := HWO.out.2; go_simp⟩) hH ?_
      (try simp only [List.setIfInBounds_toArray, List.set_cons_zero, List.set_cons_succ])
      refine held_take 8 41 (v := .pointer (some ⟨g + 1, o, none⟩)) rfl rfl (by kernel_rfl) (by kernel_rfl) (by kernel_rfl) (fun _ _ _ h => h) (Or.inl ⟨by kernel_rfl, fun w _ => by go_simp⟩) hH ?_
      (try simp only [List.setIfInBounds_toArray, List.set_cons_zero, List.set_cons_succ])
      refine held_take 9 42 (v := .int .u16 B1) rfl rfl (by kernel_rfl) (by kernel_rfl) (by kernel_rfl) (fun _ _ _ h => h) (Or.inl ⟨by kernel_rfl, fun w hSw => by
        have hcell := hSw.2
        go_simp⟩) hH ?_
      refine held_take 10 43 (v := .int .i64 B1) rfl rfl (by kernel_rfl) (by kernel_rfl) (by kernel_rfl) (fun _ _ _ h => h) (Or.inl ⟨by kernel_rfl, fun w _ => by have hwc := HWB1.out; go_simp⟩) hH ?_
      (try simp only [List.setIfInBounds_toArray, List.set_cons_zero, List.set_cons_succ])
      refine held_take 12 12 (v := .int .i64 B1) rfl rfl (by kernel_rfl) (by kernel_rfl) (by kernel_rfl) (fun _ _ _ h => h) (Or.inl ⟨by kernel_rfl, fun w _ => by kernel_rfl⟩) hH ?_
      (try simp only [List.setIfInBounds_toArray, List.set_cons_zero, List.set_cons_succ])
      refine wpAnyH_done (by kernel_rfl) ?_ _
      go_simp
      clear hH HS8
      obtain ⟨hwe, hwe2⟩ := HWE.out
      obtain ⟨hwo, hwo2⟩ := HWO.out
      obtain ⟨hm1, hm2, hm3, hm4⟩ := HWM.out
      go_wp2_with fail
      clear hm1 hm2 hm3 hm4
      refine (HR1.out _).mono ?_
      rintro e9 w9 ⟨rfl, hw9⟩
      rw [hw9]
      clear hw9 w9
      obtain ⟨hm1, hm2, hm3⟩ := HWK.out
      go_wp2_with fail
      clear hm1 hm2 hm3
      refine (HR2.out _).mono ?_
      rintro e9 w9 ⟨rfl, hw9⟩
      rw [hw9]
      clear hw9 w9
      go_wp2_with fail
      go_roundg (128 - (i + 1))
      case rel => exact ⟨i + 1, HLT.out, rfl, by go_num, HT⟩
      case measure => rw [HGQ.out]; exact HMS.out
    · obtain rfl : i = 128 := by omega
      obtain ⟨F, hT, hF⟩ := HQ.out
      have he : arr .u16 256 F = arr .u16 256 (mulF a b) := arr_ext fun j hj => hF j (by omega)
      have hr2 := hT.2.2
      have hr1 := hT.2.1 (g + 1 + 1, 30, cz) (by simp)
      unfold LM at hr2
      rw [he] at hr2
      have hi2 := infP (mulF a b)
      have hs2 : cz.size = (arr .u16 256 (mulF a b)).size := by rw [HSZ0.out, arr_size]
      have ho2 := arr_one .u16 256 (mulF a b)
      have HP := Lib.hid hT.1
      clear hT hF he HQ HCP HCA HCB
      generalize hcc : arr .u16 256 (mulF a b) = c2 at *
      have HCC := Lib.hid hcc
      clear hcc
      simp only at hr1
      go_wp2_with (first | (refine wpList_load_row rfl 30 _ rfl z rfl _ _ (0, 0) _ hr2 Tryz.underlying30 rfl hi2 ?_) | (refine wpList_store_row rfl 30 _ _ rfl (g + 1 + 1) _ rfl rfl _ _ hr1 hi2 hs2 ho2 ?_))
      refine bodyPost_ret (results_cell_row rfl _ _ (g + 1 + 1) _ c2 (0, 0) _ rfl (setRow_heap wr (g + 1 + 1) cz c2 _ _ hr1) Tryz.underlying30 rfl hi2) rfl ?_
      exact ⟨by rw [HCC.out], below_setRow HP.out (by have := HGE.out; omega) _⟩
end Go.Proofs.YtalhdalmafhofaaGreatDoor
