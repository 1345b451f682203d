/- The program's NTT and Inverse. -/
import Derived.Test.YtngbmaojgfocgaaM17D
namespace Go.Proofs.Ytngbmaojgfocgaa.dr
open Go.RowKit
set_option linter.unusedVariables false
set_option maxRecDepth 100000

/-- The transform after k layers, and the inverse. -/
def nttK (f : Nat → Int) : Nat → Nat → Int
  | 0 => f
  | k + 1 => sp (128 / 2 ^ k) (nttK f k)
def inttK (f : Nat → Int) : Nat → Nat → Int
  | 0 => f
  | k + 1 => jn (2 ^ k) (inttK f k)
theorem nttK_8 (f : Nat → Int) : nttK f 8 = ntt f := rfl
theorem inttK_8 (f : Nat → Int) : inttK f 8 = intt f := rfl
theorem nttK_rng {f : Nat → Int} (h : R32 f) (k : Nat) : R32 (nttK f k) := by
  cases k with
  | zero => exact h
  | succ k => exact R32.of_low (sp_low _ _)
theorem inttK_rng {f : Nat → Int} (h : R32 f) (k : Nat) : R32 (inttK f k) := by
  cases k with
  | zero => exact h
  | succ k => exact R32.of_low (jn_low _ _)
theorem lay_nttK (k : Nat) (h : k < 8) : Lay (128 / 2 ^ k) := by
  have : k = 0 ∨ k = 1 ∨ k = 2 ∨ k = 3 ∨ k = 4 ∨ k = 5 ∨ k = 6 ∨ k = 7 := by omega
  unfold Lay
  rcases this with rfl | rfl | rfl | rfl | rfl | rfl | rfl | rfl <;> decide
theorem lay_inttK (k : Nat) (h : k < 8) : Lay (2 ^ k) := by
  have : k = 0 ∨ k = 1 ∨ k = 2 ∨ k = 3 ∨ k = 4 ∨ k = 5 ∨ k = 6 ∨ k = 7 := by omega
  unfold Lay
  rcases this with rfl | rfl | rfl | rfl | rfl | rfl | rfl | rfl <;> decide
theorem nttK_next (k : Nat) : 128 / 2 ^ k / 2 = 128 / 2 ^ (k + 1) := by rw [Nat.div_div_eq_div_mul, Nat.pow_succ]
theorem inttK_next (k : Nat) : 2 ^ k * 2 = 2 ^ (k + 1) := by rw [Nat.pow_succ]
theorem psplit_any (s : Nat) (hs : Lay s) (f : Nat → Int) (hf : R32 f) (p z : Nat) (w : World)
    (hent : ∀ args w, (callFunc 28 args).run Try.prog w = .ok (.enter 28 args) w) (hb : Boxes w p z s) :
    Calls Try.prog 27 #[.agg (arr .u32 256 f), .int .i64 (s : Int), .func (.func 28) #[] #[.pointer (some ⟨p, 0, none⟩), .pointer (some ⟨z, 0, none⟩)]] w fun e w' => e = .returned (.agg (arr .u32 256 (sp s f))) ∧ Past w w' := by
  refine paired_any s hs _ (Box2 p z) f hf (sp s f) (nA s) (nB s) w hent (fun i r hi hr => ?_) (nttC_any s hs p z w hb)
  obtain ⟨h1, h2⟩ := sp_pair hs f i r hr
  rw [h1, h2]
  unfold nA nB
  constructor
  · rw [Int.mul_comm]
  · rw [Int.mul_comm]
theorem pjoined_any (s : Nat) (hs : Lay s) (f : Nat → Int) (hf : R32 f) (p z : Nat) (w : World)
    (hent : ∀ args w, (callFunc 30 args).run Try.prog w = .ok (.enter 30 args) w) (hb : Boxes w p z s) :
    Calls Try.prog 27 #[.agg (arr .u32 256 f), .int .i64 (s : Int), .func (.func 30) #[] #[.pointer (some ⟨p, 0, none⟩), .pointer (some ⟨z, 0, none⟩)]] w fun e w' => e = .returned (.agg (arr .u32 256 (jn s f))) ∧ Past w w' := by
  refine paired_any s hs _ (Box2 p z) f hf (jn s f) (iA s) (iB s) w hent (fun i r hi hr => ?_) (inttC_any s hs p z w hb)
  obtain ⟨h1, h2⟩ := jn_pair hs f i r hr
  rw [h1, h2]
  unfold iA iB
  refine ⟨rfl, ?_⟩
  rw [Int.mul_assoc]
  exact ((cg.refl _).mul (cg.mod _)).eq
def Lps (w wx : World) (g p : Nat) (cz : Array Value) (F : Nat → Int) : Prop := Past w wx ∧ Row wx g 27 (arr .u32 256 F) ∧ Row wx (g + 1) 27 cz ∧ Row wx p 44 (arr .u32 512 pw)
set_option maxHeartbeats 4000000 in
theorem pntt_any (f : Nat → Int) (hf : R32 f) (w : World) : Calls Try.prog 10 #[.agg (arr .u32 256 f)] w fun e w' => e = .returned (.agg (arr .u32 256 (ntt f))) ∧ Past w w' := by
  have hent : ∀ args w, (callFunc 28 args).run Try.prog w = .ok (.enter 28 args) w := enters_of Try.func28 (by kernel_rfl) rfl
  have HSP := Lib.hid (fun s (hs : Lay s) k p z w hb => psplit_any s hs (nttK f k) (nttK_rng hf k) p z w hent hb)
  have HPW := Lib.hid (fun w => ppowers_any w)
  obtain ⟨g, hg⟩ : ∃ g, w.heap.size = g := ⟨_, rfl⟩
  obtain ⟨w2, hw2⟩ : ∃ w', w' = (w.alloc (.cells (arr .u32 256 f) 27)).alloc (.cells (arr .u32 256 fun _ => 0) 27) := ⟨_, rfl⟩
  have H0 : Hid (Past w w2 ∧ Row w2 g 27 (arr .u32 256 f) ∧ Row w2 (g + 1) 27 (arr .u32 256 fun _ => 0)) := Lib.hid (by
    have h := two_rows (Below.refl _ ((w.alloc (.cells (arr .u32 256 f) 27)).alloc (.cells (arr .u32 256 fun _ => 0) 27)))
    rw [hg, ← hw2] at h
    exact ⟨h.2.2.2, h.1, h.2.1⟩)
  have HG2 : Hid (w2.heap.size = g + 1 + 1) := Lib.hid (by rw [hw2]; simp; omega)
  have HGE : Hid (w.heap.size = g) := Lib.hid hg
  have HW2 := Lib.hid hw2
  clear hw2 hf hent
  have HSZ := Lib.hid (fun k => arr_size .u32 256 (nttK f k))
  have HIN := Lib.hid (fun k => infP (nttK f k))
  have HON := Lib.hid (fun k => arr_one .u32 256 (nttK f k))
  rw [show (ntt f) = nttK f 8 from (nttK_8 f).symm]
  go_enter Try.func10, Try.ntmps10
  have hz := zeroP
  go_upto_region 1 with (fail)
  clear hz
  rw [← HW2.out]
  try rw [hg]
  clear HW2 hg
  go_wp2_with fail
  refine (HPW.out _).mono ?_
  rintro e w3 ⟨rfl, hp3⟩
  obtain ⟨p, hu⟩ : ∃ u, w3.heap.size = u := ⟨_, rfl⟩
  have hz := zero512
  have hfr := fresh_row w3 44 (arr .u32 512 fun _ => 0) (arr .u32 512 pw)
  have hr0 := Row.new w3 44 (arr .u32 512 fun _ => 0)
  have hsN : (arr .u32 512 fun _ => 0).size = (arr .u32 512 pw).size := by rw [arr_size, arr_size]
  have hoN := arr_one .u32 512 pw
  have hi2 := inf512 pw
  rw [hu] at hfr hr0
  obtain ⟨w4, hw4⟩ : ∃ w', (w3.alloc (.cells (arr .u32 512 fun _ => 0) 44)).setRow p (arr .u32 512 pw) = w' := ⟨_, rfl⟩
  rw [hw4] at hfr
  have HPG : Hid (g + 1 < p) := Lib.hid (by have := hp3.size; have := HG2.out; omega)
  have H1 : Hid (Lps w w4 g p (arr .u32 256 fun _ => 0) (nttK f 0)) := Lib.hid ⟨(H0.out.1.trans' hp3).trans' hfr.2, (H0.out.2.1.past hp3).past hfr.2, (H0.out.2.2.past hp3).past hfr.2, hfr.1⟩
  have HW4 := Lib.hid hw4
  clear hw4 hp3 hfr H0
  have HSZ0 : Hid ((arr .u32 256 fun _ => 0).size = 256) := Lib.hid (arr_size _ _ _)
  obtain ⟨cz, hcz⟩ : ∃ cz, arr .u32 256 (fun _ => 0) = cz := ⟨_, rfl⟩
  rw [hcz] at H1 HSZ0
  clear hcz
  obtain ⟨cp, hcp⟩ : ∃ cp, arr .u32 512 pw = cp := ⟨_, rfl⟩
  rw [hcp] at HW4 hsN hoN hi2 ⊢
  clear hcp
  go_upto_region 2 with (refine wpList_store_row rfl 44 _ _ rfl p _ rfl rfl _ _ hr0 hi2 hsN hoN ?_)
  rw [HW4.out]
  clear HW4 hr0 hsN hoN hu hz hi2
  obtain ⟨z, hze⟩ : ∃ z, w4.heap.size = z := ⟨_, rfl⟩
  obtain ⟨w5, hw5⟩ : ∃ w', w4.alloc (.cells #[.int .i64 128] 3) = w' := ⟨_, rfl⟩
  have H2 : Hid (Lps w w5 g p cz (nttK f 0) ∧ Row w5 z 3 #[.int .i64 (128 : Nat)] ∧ p < z) := Lib.hid (by
    rw [← hw5, ← hze]
    obtain ⟨l1, l2, l3, l4⟩ := H1.out
    have hp : Past w4 (w4.alloc (.cells #[.int .i64 128] 3)) := (Below.refl _ _).alloc (Nat.le_refl _) _
    exact ⟨⟨l1.trans' hp, l2.past hp, l3.past hp, l4.past hp⟩, Row.new _ _ _, l4.lt⟩)
  have HW5 := Lib.hid hw5
  clear hw5 H1
  go_wp2_with fail
  try rw [hze]
  rw [HW5.out]
  clear HW5 hze
  go_loopg [4] 8 (fun q s4 wx => ∃ k v z : Nat, k ≤ 8 ∧ q = 8 - k ∧ s4 = .pointer (some ⟨z, 0, none⟩) ∧ Hid (v = 128 / 2 ^ k) ∧ Hid (Lps w wx g p cz (nttK f k) ∧ Row wx z 3 #[.int .i64 (v : Int)] ∧ p < z))
  case atStart => exact ⟨0, 128, z, Nat.zero_le _, rfl, rfl, Lib.hid rfl, H2⟩
  case round =>
    clear H2
    rename_i zo
    obtain ⟨k, v, z, hk, hq, rfl, HV, HL⟩ := hrel
    have HGQ := Lib.hid hq
    clear hq
    have kz := HL.out.2.1.cell 0
    by_cases hlt : k < 8
    · have hlay : Lay v := by rw [HV.out]; exact lay_nttK k hlt
      obtain ⟨v0, v1, _, _⟩ := lay_rng hlay
      have htest : (1 : Int) ≤ (v : Int) := by omega
      obtain ⟨v2, hv2e⟩ : ∃ v2, v / 2 = v2 := ⟨_, rfl⟩
      have hv2 : v2 ≤ 128 := by omega
      have HV2 := Lib.hid hv2e
      have HVN : Hid (v2 = 128 / 2 ^ (k + 1)) := Lib.hid (by rw [← hv2e, HV.out]; exact nttK_next k)
      have HWV : Hid (IntKind.i64.wrap (v2 : Int) = (v2 : Int) ∧ wrap64 (v2 : Int) = (v2 : Int)) := Lib.hid ⟨by rw [IntKind.wrap_i64]; omega, IntWalk.wrap64_in _ (by omega)⟩
      have HLT := Lib.hid hlt
      have HMS : Hid (8 - (k + 1) < 8 - k) := Lib.hid (by omega)
      have HC := Lib.hid (HSP.out v hlay k p z wr ⟨by have := HL.out.1.2.2.2; exact this, HL.out.2.1⟩)
      have HNX : Hid (sp v (nttK f k) = nttK f (k + 1)) := Lib.hid (by rw [HV.out]; rfl)
      rw [HNX.out] at HC
      have hr1 := HL.out.1.2.1
      have hi1 := HIN.out k
      have hi4 := HIN.out (k + 1)
      have hs4 : (arr .u32 256 (nttK f k)).size = (arr .u32 256 (nttK f (k + 1))).size := by rw [HSZ.out, HSZ.out]
      have ho4 := HON.out (k + 1)
      have HL2 : Hid (∀ w5, Past wr w5 → Row w5 g 27 (arr .u32 256 (nttK f k)) ∧ (Lps w (w5.setRow g (arr .u32 256 (nttK f (k + 1)))) g p cz (nttK f (k + 1)) ∧ Row (w5.setRow g (arr .u32 256 (nttK f (k + 1)))) z 3 #[.int .i64 (v : Int)] ∧ p < z)) := Lib.hid (by
        intro w5 h5
        obtain ⟨⟨l1, l2, l3, l4⟩, l5, l6⟩ := HL.out
        have := HPG.out
        exact ⟨l2.past h5, ⟨below_setRow (l1.trans' h5) (by have := HGE.out; omega) _, setRow_heap _ _ _ _ _ _ (l2.past h5), (setRow_other _ _ _ _ (by omega)).trans (l3.past h5), (setRow_other _ _ _ _ (by omega)).trans (l4.past h5)⟩, (setRow_other _ _ _ _ (by omega)).trans (l5.past h5), l6⟩)
      clear hlay hlt hk hv2e v0 v1 hv2
      have hdv : (v : Int).tdiv 2 = (v2 : Int) := by rw [← HV2.out]; exact (Int.natCast_ediv v 2 ▸ Int.tdiv_eq_ediv_of_nonneg (Int.natCast_nonneg v))
      have hdv2 : (v : Int) / 2 = (v2 : Int) := by rw [← HV2.out]; exact (Int.natCast_ediv v 2).symm
      have hwv : IntKind.i64.wrap (v2 : Int) = (v2 : Int) := HWV.out.1
      have hwv2 : wrap64 (v2 : Int) = (v2 : Int) := HWV.out.2
      generalize hc1 : arr .u32 256 (nttK f k) = c1 at *
      generalize hc2 : arr .u32 256 (nttK f (k + 1)) = c2 at *
      go_upto_region 5 with (fail)
      go_wp2_with (refine wpList_load_row rfl 27 _ rfl g rfl _ _ (0, 0) _ hr1 Try.underlying27 rfl hi1 ?_)
      refine (HC.out).mono ?_
      rintro e w5 ⟨rfl, hp5⟩
      obtain ⟨hr5, hl5⟩ := HL2.out w5 hp5
      have k5 := hl5.2.1.cell 0
      have HL5 := Lib.hid hl5
      clear hp5 hl5 hr1 HL2 kz
      go_upto_region 6 with (refine wpList_store_row rfl 27 _ _ rfl g _ rfl rfl _ _ hr5 hi4 hs4 ho4 ?_)
      obtain ⟨w6, hw6⟩ : ∃ w', w5.setRow g c2 = w' := ⟨_, rfl⟩
      rw [hw6] at k5 HL5 ⊢
      clear hw6 hr5
      go_upto_region 4 with (fail)
      obtain ⟨z2, hz2⟩ : ∃ z, w6.heap.size = z := ⟨_, rfl⟩
      obtain ⟨w7, hw7⟩ : ∃ w', w6.alloc (.cells #[.int .i64 (v : Int)] 3) = w' := ⟨_, rfl⟩
      have hrz : Row w7 z2 3 #[.int .i64 (v : Int)] := by rw [← hw7, ← hz2]; exact Row.new _ _ _
      have hp7 : Past w6 w7 := by rw [← hw7]; exact (Below.refl _ _).alloc (Nat.le_refl _) _
      have kz2 := hrz.cell 0
      have kf2 := hrz.fr 0
      have HE : Hid (Lps w (w7.setCell ⟨z2, 0, none⟩ (.int .i64 (v2 : Int))) g p cz (nttK f (k + 1)) ∧ Row (w7.setCell ⟨z2, 0, none⟩ (.int .i64 (v2 : Int))) z2 3 #[.int .i64 (v2 : Int)] ∧ p < z2) := Lib.hid (by
        obtain ⟨⟨l1, l2, l3, l4⟩, l5, l6⟩ := HL5.out
        have e1 := l2.lt
        have e2 := l3.lt
        have e3 := l4.lt
        have e4 := l1.size
        have hs := hrz.set 0 (.int .i64 (v2 : Int))
        refine ⟨⟨(l1.trans' hp7).set (by simp only []; omega) _, (l2.past hp7).setOther (by omega) _ _, (l3.past hp7).setOther (by omega) _ _, (l4.past hp7).setOther (by omega) _ _⟩, hs, by omega⟩)
      rw [hw7]
      try rw [hz2]
      clear hz2 hw7 hrz hp7 k5 HL5 hi1 hi4 ho4 hs4 HC hc1 hc2
      go_wp2_with fail
      go_roundg (8 - (k + 1))
      case rel => exact ⟨k + 1, v2, z2, HLT.out, rfl, rfl, HVN, HE⟩
      case measure => rw [HGQ.out]; exact HMS.out
    · obtain rfl : k = 8 := by omega
      have htest : ¬ (1 : Int) ≤ (v : Int) := by rw [HV.out]; decide
      have hr2 := HL.out.1.2.1
      have hr1 := HL.out.1.2.2.1
      have hi2 := HIN.out 8
      have hs2 : cz.size = (arr .u32 256 (nttK f 8)).size := by rw [HSZ.out]; exact HSZ0.out
      have ho2 := HON.out 8
      have HP := Lib.hid HL.out.1.1
      generalize hcc : arr .u32 256 (nttK f 8) = c2 at *
      have HCC := Lib.hid hcc
      clear hcc HL
      go_wp2_with (first | (refine wpList_load_row rfl 27 _ rfl g rfl _ _ (0, 0) _ hr2 Try.underlying27 rfl hi2 ?_) | (refine wpList_store_row rfl 27 _ _ rfl (g + 1) _ rfl rfl _ _ hr1 hi2 hs2 ho2 ?_))
      refine bodyPost_ret (results_cell_row rfl _ _ (g + 1) _ c2 (0, 0) _ rfl (setRow_heap wr (g + 1) cz c2 _ _ hr1) Try.underlying27 rfl hi2) rfl ?_
      exact ⟨by rw [HCC.out], below_setRow HP.out (by have := HGE.out; omega) _⟩
set_option maxHeartbeats 4000000 in
theorem pintt_any (f : Nat → Int) (hf : R32 f) (w : World) : Calls Try.prog 13 #[.agg (arr .u32 256 f)] w fun e w' => e = .returned (.agg (arr .u32 256 (intt f))) ∧ Past w w' := by
  have hent : ∀ args w, (callFunc 30 args).run Try.prog w = .ok (.enter 30 args) w := enters_of Try.func30 (by kernel_rfl) rfl
  have HSP := Lib.hid (fun s (hs : Lay s) k p z w hb => pjoined_any s hs (inttK f k) (inttK_rng hf k) p z w hent hb)
  have HPW := Lib.hid (fun w => ppowers_any w)
  obtain ⟨g, hg⟩ : ∃ g, w.heap.size = g := ⟨_, rfl⟩
  obtain ⟨w2, hw2⟩ : ∃ w', w' = (w.alloc (.cells (arr .u32 256 f) 27)).alloc (.cells (arr .u32 256 fun _ => 0) 27) := ⟨_, rfl⟩
  have H0 : Hid (Past w w2 ∧ Row w2 g 27 (arr .u32 256 f) ∧ Row w2 (g + 1) 27 (arr .u32 256 fun _ => 0)) := Lib.hid (by
    have h := two_rows (Below.refl _ ((w.alloc (.cells (arr .u32 256 f) 27)).alloc (.cells (arr .u32 256 fun _ => 0) 27)))
    rw [hg, ← hw2] at h
    exact ⟨h.2.2.2, h.1, h.2.1⟩)
  have HG2 : Hid (w2.heap.size = g + 1 + 1) := Lib.hid (by rw [hw2]; simp; omega)
  have HGE : Hid (w.heap.size = g) := Lib.hid hg
  have HW2 := Lib.hid hw2
  clear hw2 hf hent
  have HSZ := Lib.hid (fun k => arr_size .u32 256 (inttK f k))
  have HIN := Lib.hid (fun k => infP (inttK f k))
  have HON := Lib.hid (fun k => arr_one .u32 256 (inttK f k))
  rw [show (intt f) = inttK f 8 from (inttK_8 f).symm]
  go_enter Try.func13, Try.ntmps13
  have hz := zeroP
  go_upto_region 1 with (fail)
  clear hz
  rw [← HW2.out]
  try rw [hg]
  clear HW2 hg
  go_wp2_with fail
  refine (HPW.out _).mono ?_
  rintro e w3 ⟨rfl, hp3⟩
  obtain ⟨p, hu⟩ : ∃ u, w3.heap.size = u := ⟨_, rfl⟩
  have hz := zero512
  have hfr := fresh_row w3 44 (arr .u32 512 fun _ => 0) (arr .u32 512 pw)
  have hr0 := Row.new w3 44 (arr .u32 512 fun _ => 0)
  have hsN : (arr .u32 512 fun _ => 0).size = (arr .u32 512 pw).size := by rw [arr_size, arr_size]
  have hoN := arr_one .u32 512 pw
  have hi2 := inf512 pw
  rw [hu] at hfr hr0
  obtain ⟨w4, hw4⟩ : ∃ w', (w3.alloc (.cells (arr .u32 512 fun _ => 0) 44)).setRow p (arr .u32 512 pw) = w' := ⟨_, rfl⟩
  rw [hw4] at hfr
  have HPG : Hid (g + 1 < p) := Lib.hid (by have := hp3.size; have := HG2.out; omega)
  have H1 : Hid (Lps w w4 g p (arr .u32 256 fun _ => 0) (inttK f 0)) := Lib.hid ⟨(H0.out.1.trans' hp3).trans' hfr.2, (H0.out.2.1.past hp3).past hfr.2, (H0.out.2.2.past hp3).past hfr.2, hfr.1⟩
  have HW4 := Lib.hid hw4
  clear hw4 hp3 hfr H0
  have HSZ0 : Hid ((arr .u32 256 fun _ => 0).size = 256) := Lib.hid (arr_size _ _ _)
  obtain ⟨cz, hcz⟩ : ∃ cz, arr .u32 256 (fun _ => 0) = cz := ⟨_, rfl⟩
  rw [hcz] at H1 HSZ0
  clear hcz
  obtain ⟨cp, hcp⟩ : ∃ cp, arr .u32 512 pw = cp := ⟨_, rfl⟩
  rw [hcp] at HW4 hsN hoN hi2 ⊢
  clear hcp
  go_upto_region 2 with (refine wpList_store_row rfl 44 _ _ rfl p _ rfl rfl _ _ hr0 hi2 hsN hoN ?_)
  rw [HW4.out]
  clear HW4 hr0 hsN hoN hu hz hi2
  obtain ⟨z, hze⟩ : ∃ z, w4.heap.size = z := ⟨_, rfl⟩
  obtain ⟨w5, hw5⟩ : ∃ w', w4.alloc (.cells #[.int .i64 1] 3) = w' := ⟨_, rfl⟩
  have H2 : Hid (Lps w w5 g p cz (inttK f 0) ∧ Row w5 z 3 #[.int .i64 (1 : Nat)] ∧ p < z) := Lib.hid (by
    rw [← hw5, ← hze]
    obtain ⟨l1, l2, l3, l4⟩ := H1.out
    have hp : Past w4 (w4.alloc (.cells #[.int .i64 1] 3)) := (Below.refl _ _).alloc (Nat.le_refl _) _
    exact ⟨⟨l1.trans' hp, l2.past hp, l3.past hp, l4.past hp⟩, Row.new _ _ _, l4.lt⟩)
  have HW5 := Lib.hid hw5
  clear hw5 H1
  go_wp2_with fail
  try rw [hze]
  rw [HW5.out]
  clear HW5 hze
  go_loopg [4] 8 (fun q s4 wx => ∃ k v z : Nat, k ≤ 8 ∧ q = 8 - k ∧ s4 = .pointer (some ⟨z, 0, none⟩) ∧ Hid (v = 2 ^ k) ∧ Hid (Lps w wx g p cz (inttK f k) ∧ Row wx z 3 #[.int .i64 (v : Int)] ∧ p < z))
  case atStart => exact ⟨0, 1, z, Nat.zero_le _, rfl, rfl, Lib.hid rfl, H2⟩
  case round =>
    clear H2
    rename_i zo
    obtain ⟨k, v, z, hk, hq, rfl, HV, HL⟩ := hrel
    have HGQ := Lib.hid hq
    clear hq
    have kz := HL.out.2.1.cell 0
    by_cases hlt : k < 8
    · have hlay : Lay v := by rw [HV.out]; exact lay_inttK k hlt
      obtain ⟨v0, v1, _, _⟩ := lay_rng hlay
      have htest : (v : Int) ≤ 128 := by omega
      obtain ⟨v2, hv2e⟩ : ∃ v2, v * 2 = v2 := ⟨_, rfl⟩
      have hv2 : v2 ≤ 256 := by omega
      have HV2 := Lib.hid hv2e
      have HVN : Hid (v2 = 2 ^ (k + 1)) := Lib.hid (by rw [← hv2e, HV.out]; exact inttK_next k)
      have HWV : Hid (IntKind.i64.wrap (v2 : Int) = (v2 : Int) ∧ wrap64 (v2 : Int) = (v2 : Int)) := Lib.hid ⟨by rw [IntKind.wrap_i64]; omega, IntWalk.wrap64_in _ (by omega)⟩
      have HLT := Lib.hid hlt
      have HMS : Hid (8 - (k + 1) < 8 - k) := Lib.hid (by omega)
      have HC := Lib.hid (HSP.out v hlay k p z wr ⟨by have := HL.out.1.2.2.2; exact this, HL.out.2.1⟩)
      have HNX : Hid (jn v (inttK f k) = inttK f (k + 1)) := Lib.hid (by rw [HV.out]; rfl)
      rw [HNX.out] at HC
      have hr1 := HL.out.1.2.1
      have hi1 := HIN.out k
      have hi4 := HIN.out (k + 1)
      have hs4 : (arr .u32 256 (inttK f k)).size = (arr .u32 256 (inttK f (k + 1))).size := by rw [HSZ.out, HSZ.out]
      have ho4 := HON.out (k + 1)
      have HL2 : Hid (∀ w5, Past wr w5 → Row w5 g 27 (arr .u32 256 (inttK f k)) ∧ (Lps w (w5.setRow g (arr .u32 256 (inttK f (k + 1)))) g p cz (inttK f (k + 1)) ∧ Row (w5.setRow g (arr .u32 256 (inttK f (k + 1)))) z 3 #[.int .i64 (v : Int)] ∧ p < z)) := Lib.hid (by
        intro w5 h5
        obtain ⟨⟨l1, l2, l3, l4⟩, l5, l6⟩ := HL.out
        have := HPG.out
        exact ⟨l2.past h5, ⟨below_setRow (l1.trans' h5) (by have := HGE.out; omega) _, setRow_heap _ _ _ _ _ _ (l2.past h5), (setRow_other _ _ _ _ (by omega)).trans (l3.past h5), (setRow_other _ _ _ _ (by omega)).trans (l4.past h5)⟩, (setRow_other _ _ _ _ (by omega)).trans (l5.past h5), l6⟩)
      clear hlay hlt hk hv2e v0 v1 hv2
      have hwv : IntKind.i64.wrap ((v : Int) * 2) = (v2 : Int) := by rw [show (v : Int) * 2 = (v2 : Int) by rw [← HV2.out]; exact (Int.natCast_mul v 2).symm]; exact HWV.out.1
      have hwv2 : wrap64 (v2 : Int) = (v2 : Int) := HWV.out.2
      generalize hc1 : arr .u32 256 (inttK f k) = c1 at *
      generalize hc2 : arr .u32 256 (inttK f (k + 1)) = c2 at *
      go_upto_region 5 with (fail)
      go_wp2_with (refine wpList_load_row rfl 27 _ rfl g rfl _ _ (0, 0) _ hr1 Try.underlying27 rfl hi1 ?_)
      refine (HC.out).mono ?_
      rintro e w5 ⟨rfl, hp5⟩
      obtain ⟨hr5, hl5⟩ := HL2.out w5 hp5
      have k5 := hl5.2.1.cell 0
      have HL5 := Lib.hid hl5
      clear hp5 hl5 hr1 HL2 kz
      go_upto_region 6 with (refine wpList_store_row rfl 27 _ _ rfl g _ rfl rfl _ _ hr5 hi4 hs4 ho4 ?_)
      obtain ⟨w6, hw6⟩ : ∃ w', w5.setRow g c2 = w' := ⟨_, rfl⟩
      rw [hw6] at k5 HL5 ⊢
      clear hw6 hr5
      go_upto_region 4 with (fail)
      obtain ⟨z2, hz2⟩ : ∃ z, w6.heap.size = z := ⟨_, rfl⟩
      obtain ⟨w7, hw7⟩ : ∃ w', w6.alloc (.cells #[.int .i64 (v : Int)] 3) = w' := ⟨_, rfl⟩
      have hrz : Row w7 z2 3 #[.int .i64 (v : Int)] := by rw [← hw7, ← hz2]; exact Row.new _ _ _
      have hp7 : Past w6 w7 := by rw [← hw7]; exact (Below.refl _ _).alloc (Nat.le_refl _) _
      have kz2 := hrz.cell 0
      have kf2 := hrz.fr 0
      have HE : Hid (Lps w (w7.setCell ⟨z2, 0, none⟩ (.int .i64 (v2 : Int))) g p cz (inttK f (k + 1)) ∧ Row (w7.setCell ⟨z2, 0, none⟩ (.int .i64 (v2 : Int))) z2 3 #[.int .i64 (v2 : Int)] ∧ p < z2) := Lib.hid (by
        obtain ⟨⟨l1, l2, l3, l4⟩, l5, l6⟩ := HL5.out
        have e1 := l2.lt
        have e2 := l3.lt
        have e3 := l4.lt
        have e4 := l1.size
        have hs := hrz.set 0 (.int .i64 (v2 : Int))
        refine ⟨⟨(l1.trans' hp7).set (by simp only []; omega) _, (l2.past hp7).setOther (by omega) _ _, (l3.past hp7).setOther (by omega) _ _, (l4.past hp7).setOther (by omega) _ _⟩, hs, by omega⟩)
      rw [hw7]
      try rw [hz2]
      clear hz2 hw7 hrz hp7 k5 HL5 hi1 hi4 ho4 hs4 HC hc1 hc2
      go_wp2_with fail
      go_roundg (8 - (k + 1))
      case rel => exact ⟨k + 1, v2, z2, HLT.out, rfl, rfl, HVN, HE⟩
      case measure => rw [HGQ.out]; exact HMS.out
    · obtain rfl : k = 8 := by omega
      have htest : ¬ (v : Int) ≤ 128 := by rw [HV.out]; decide
      have hr2 := HL.out.1.2.1
      have hr1 := HL.out.1.2.2.1
      have hi2 := HIN.out 8
      have hs2 : cz.size = (arr .u32 256 (inttK f 8)).size := by rw [HSZ.out]; exact HSZ0.out
      have ho2 := HON.out 8
      have HP := Lib.hid HL.out.1.1
      generalize hcc : arr .u32 256 (inttK f 8) = c2 at *
      have HCC := Lib.hid hcc
      clear hcc HL
      go_wp2_with (first | (refine wpList_load_row rfl 27 _ rfl g rfl _ _ (0, 0) _ hr2 Try.underlying27 rfl hi2 ?_) | (refine wpList_store_row rfl 27 _ _ rfl (g + 1) _ rfl rfl _ _ hr1 hi2 hs2 ho2 ?_))
      refine bodyPost_ret (results_cell_row rfl _ _ (g + 1) _ c2 (0, 0) _ rfl (setRow_heap wr (g + 1) cz c2 _ _ hr1) Try.underlying27 rfl hi2) rfl ?_
      exact ⟨by rw [HCC.out], below_setRow HP.out (by have := HGE.out; omega) _⟩
end Go.Proofs.Ytngbmaojgfocgaa.dr
