/- The program's bytes of a state, and the state with given bytes. -/
import Derived.Test.YtamgbkadiobklaaImp6C
import Derived.Test.YtamgbkadiobklaaEq
namespace Go.Proofs.Ytamgbkadiobklaa
open Go.RowKit

theorem pow_256 (m : Nat) : (256 : Int) ^ m = 2 ^ (8 * m) := by
  rw [Int.pow_mul]
  rfl
theorem pow_le2 (a b : Nat) (h : a ≤ b) : (2 : Int) ^ a ≤ 2 ^ b := by
  have h1 := Nat.pow_le_pow_right (show 0 < 2 by omega) h
  have e1 : ((2 ^ a : Nat) : Int) = 2 ^ a := Int.natCast_pow 2 a
  have e2 : ((2 ^ b : Nat) : Int) = 2 ^ b := Int.natCast_pow 2 b
  omega
theorem mod_join (x P : Int) (hP : 0 < P) : x % (P * 256) = x % P + x / P % 256 * P := by
  have h1 := Int.mul_ediv_add_emod x P
  have h2 := Int.mul_ediv_add_emod (x / P) 256
  have h3 := Int.mul_ediv_add_emod x (P * 256)
  rw [← Int.ediv_ediv_of_nonneg (show 0 ≤ P by omega)] at h3
  generalize x / P / 256 = q at *
  generalize x / P % 256 = b at *
  rw [← h2] at h1
  rw [Int.mul_add, ← Int.mul_assoc] at h1
  rw [Int.mul_comm b P]
  omega
theorem join_byte (x : Int) (m : Nat) (hm : m < 8) : bits .or .u64 (x % 2 ^ (8 * m)) (IntKind.u64.wrap (x / 2 ^ (8 * m) % 256 * 2 ^ (8 * m))) = x % 2 ^ (8 * (m + 1)) := by
  have hP : (0 : Int) < 2 ^ (8 * m) := Int.pow_pos (by decide)
  have hPP : (2 : Int) ^ (8 * (m + 1)) = 2 ^ (8 * m) * 256 := by rw [show 8 * (m + 1) = 8 * m + 8 by omega, Int.pow_add]; rfl
  have hle := pow_le2 (8 * (m + 1)) 64 (by omega)
  have hb0 : 0 ≤ x / 2 ^ (8 * m) % 256 := Int.emod_nonneg _ (by decide)
  have hb1 : x / 2 ^ (8 * m) % 256 < 256 := Int.emod_lt_of_pos _ (by decide)
  have hx0 : 0 ≤ x % 2 ^ (8 * m) := Int.emod_nonneg _ (by omega)
  have hx1 : x % 2 ^ (8 * m) < 2 ^ (8 * m) := Int.emod_lt_of_pos _ hP
  rw [hPP, mod_join x _ hP]
  rw [hPP] at hle
  have hle1 := pow_le2 (8 * m) 64 (by omega)
  have e64 : (2 : Int) ^ 64 = 18446744073709551616 := by decide
  obtain ⟨P, hPe⟩ : ∃ P : Int, 2 ^ (8 * m) = P := ⟨_, rfl⟩
  rw [hPe] at hP hle hle1 hb0 hb1 hx0 hx1 ⊢
  clear hPP
  generalize x / P % 256 = b at *
  generalize x % P = y at *
  have hbP : b * P ≤ 255 * P := Int.mul_le_mul_of_nonneg_right (by omega) (by omega)
  have hb2 : 0 ≤ b * P := Int.mul_nonneg hb0 (by omega)
  have hw : IntKind.u64.wrap (b * P) = b * P := by rw [IntKind.wrap_u64]; omega
  rw [hw]
  exact bits_join_low .u64 64 (by decide) wraps_u64 (8 * m) y (b * P) hx0 (by rw [hPe]; exact hx1) (by omega) hb2 (by rw [hPe]; exact Int.mul_emod_left _ _) (by omega)
/-- What stands behind i bytes. -/
def frB (S : Nat → Lane) (i q : Nat) : Int := if q < i / 8 then ln (S q) else if q = i / 8 then ln (S q) % 2 ^ (8 * (i % 8)) else 0
theorem frB_zero (S : Nat → Lane) (q : Nat) : frB S 0 q = 0 := by
  unfold frB
  rw [if_neg (by omega)]
  by_cases h : q = 0 / 8
  · rw [if_pos h]
    simp
  · rw [if_neg h]
theorem frB_at (S : Nat → Lane) (i : Nat) : frB S i (i / 8) = ln (S (i / 8)) % 2 ^ (8 * (i % 8)) := by
  unfold frB
  rw [if_neg (by omega), if_pos rfl]
theorem frB_put (S : Nat → Lane) (i q : Nat) : upd (frB S i) (i / 8) (ln (S (i / 8)) % 2 ^ (8 * (i % 8 + 1))) q = frB S (i + 1) q := by
  have hr := ln_rng (S (i / 8))
  have e64 : (2 : Int) ^ (8 * 8) = 18446744073709551616 := by decide
  by_cases e : q = i / 8
  · subst e
    rw [upd_at]
    unfold frB
    by_cases h : i % 8 = 7
    · rw [if_pos (by omega), h, e64]
      omega
    · rw [if_neg (by omega), if_pos (by omega), show (i + 1) % 8 = i % 8 + 1 by omega]
  · rw [upd_ne _ _ e]
    unfold frB
    by_cases h : q < i / 8
    · rw [if_pos h, if_pos (by omega)]
    · rw [if_neg h, if_neg e, if_neg (by omega)]
      by_cases h2 : q = (i + 1) / 8
      · rw [if_pos h2, show (i + 1) % 8 = 0 by omega]
        simp
      · rw [if_neg h2]
theorem frB_all (S : Nat → Lane) (q : Nat) (h : q < 25) : frB S 200 q = ln (S q) := by
  unfold frB
  rw [if_pos (by omega)]

set_option maxHeartbeats 1000000 in
set_option maxRecDepth 100000 in
theorem pbytes_any (S : Nat → Lane) (w : World) :
    Calls Try.prog 34 #[.agg (arr .u64 25 fun i => ln (S i))] w fun e w' => e = .returned (.agg (arr .u8 200 (kbyte S))) ∧ Past w w' := by
  have hsz := arr_size .u64 25 fun i => ln (S i)
  obtain ⟨cs, hcs⟩ : ∃ cs, arr .u64 25 (fun i => ln (S i)) = cs := ⟨_, rfl⟩
  have H0 := Lib.hid (Three.new .u8 200 w 61 45 45 cs (arr .u8 200 fun _ => 0) fun _ => 0)
  rw [hcs] at hsz ⊢
  have HC : Hid (∀ i, i < 25 → cs[i]? = some (.int .u64 (ln (S i)))) := Lib.hid fun i hi => arr_cells hcs hi
  clear hcs
  go_enter Try.func34, Try.ntmps34
  have hz := zero200
  go_upto_region 2 with (fail)
  clear hz
  generalize ((w.alloc (.cells cs 61)).alloc (.cells (arr .u8 200 fun _ => 0) 45)).alloc (.cells (arr .u8 200 fun _ => 0) 45) = w3 at *
  obtain ⟨g, hg⟩ : ∃ g, w.heap.size = g := ⟨_, rfl⟩
  have hge : w.heap.size ≤ g := by omega
  rw [hg] at H0 ⊢
  clear hg
  go_wp2_with fail
  go_loopg [5] 200 (fun k s5 wx => ∃ i : Nat, i ≤ 200 ∧ k = 200 - i ∧ s5 = .int .i64 (i : Int) ∧ Hid (Three .u8 200 w wx g 61 45 45 cs (arr .u8 200 fun _ => 0) (fillP (kbyte S) i)))
  case atStart => exact ⟨0, Nat.zero_le _, rfl, rfl, Lib.hid (H0.out.same fun i _ => by unfold fillP; rw [if_neg (by omega)])⟩
  case round =>
    clear H0
    obtain ⟨i, hi, hgk, rfl, HQ⟩ := hrel
    have HGK := Lib.hid hgk
    clear hgk
    by_cases hlt : i < 200
    · have hii : (i : Int) < 200 := by omega
      obtain ⟨q, hq⟩ : ∃ q, i / 8 = q := ⟨_, rfl⟩
      obtain ⟨m, hm⟩ : ∃ m, i % 8 = m := ⟨_, rfl⟩
      have hqi : (i : Int) / 8 = (q : Int) := by omega
      have hmi : (i : Int) % 8 = (m : Int) := by omega
      have hq0 : (q : Int) < 25 := by omega
      have hm0 : (m : Int) < 8 := by omega
      have hc1 : wr.cell? ⟨g, q, none⟩ = some (.int .u64 (ln (S q))) := by rw [HQ.out.2.1.cell]; exact HC.out _ (by omega)
      have hc2 := HQ.out.2.2.2.at i hlt
      have hf2 := Row.fr HQ.out.2.2.2 i
      have HQ1 : Hid (Three .u8 200 w (wr.setCell ⟨g + 1 + 1, i, none⟩ (.int .u8 (ln (S q) / 2 ^ (8 * m) % 256))) g 61 45 45 cs (arr .u8 200 fun _ => 0) (fillP (kbyte S) (i + 1))) := by
        refine Lib.hid ((HQ.out.put hge i hlt _).same fun j _ => ?_)
        have := fillP_put (kbyte S) i j
        rw [← this]
        congr 1
        unfold kbyte
        rw [hq, hm, pow_256]
      clear hm hq HQ
      generalize fillP (kbyte S) i i = old at *
      generalize ln (S q) = L at *
      go_wp2_with fail
      go_roundg (200 - (i + 1))
      case rel => exact ⟨i + 1, by omega, rfl, by go_num, HQ1⟩
      case measure => have := HGK.out; omega
    · obtain rfl : i = 200 := by omega
      have HQ3 : Hid (Three .u8 200 w wr g 61 45 45 cs (arr .u8 200 fun _ => 0) (kbyte S)) := Lib.hid (HQ.out.same fun i hi => by unfold fillP; rw [if_pos (by omega)])
      have hr2 := HQ3.out.2.2.2
      have hr1 := HQ3.out.2.2.1
      have HP := Lib.hid HQ3.out.1
      unfold LM at hr2
      clear HQ HQ3
      have hi2 : (Try.prog.info? 45).map (·.size) = some (arr .u8 200 (kbyte S)).size := by rw [arr_size]; kernel_rfl
      have hs2 : (arr .u8 200 fun _ => 0).size = (arr .u8 200 (kbyte S)).size := by rw [arr_size, arr_size]
      have ho2 := arr_one .u8 200 (kbyte S)
      generalize hcc : arr .u8 200 (kbyte S) = c2 at *
      have HCC := Lib.hid hcc
      clear hcc
      generalize arr .u8 200 (fun _ => 0) = c1 at *
      go_wp2_with (first | (refine wpList_load_row rfl 45 _ rfl (g + 1 + 1) rfl _ _ (0, 0) _ hr2 Try.underlying45 rfl hi2 ?_) | (refine wpList_store_row rfl 45 _ _ rfl (g + 1) _ rfl rfl _ _ hr1 hi2 hs2 ho2 ?_))
      refine bodyPost_ret (results_cell_row rfl _ _ (g + 1) _ c2 (0, 0) _ rfl (setRow_heap wr (g + 1) c1 c2 _ _ hr1) Try.underlying45 rfl hi2) rfl ?_
      exact ⟨by rw [HCC.out], below_setRow HP.out (by omega) _⟩

set_option maxHeartbeats 1000000 in
set_option maxRecDepth 100000 in
theorem pfrom_any (S : Nat → Lane) (w : World) :
    Calls Try.prog 36 #[.agg (arr .u8 200 (kbyte S))] w fun e w' => e = .returned (.agg (arr .u64 25 fun i => ln (S i))) ∧ Past w w' := by
  have hsz := arr_size .u8 200 (kbyte S)
  obtain ⟨cs, hcs⟩ : ∃ cs, arr .u8 200 (kbyte S) = cs := ⟨_, rfl⟩
  have H0 := Lib.hid (Three.new .u64 25 w 45 61 61 cs (arr .u64 25 fun _ => 0) fun _ => 0)
  rw [hcs] at hsz ⊢
  have HC : Hid (∀ i, i < 200 → cs[i]? = some (.int .u8 (kbyte S i))) := Lib.hid fun i hi => arr_cells hcs hi
  clear hcs
  have hiS : (Try.prog.info? 45).map (·.size) = some cs.size := by rw [hsz]; kernel_rfl
  obtain ⟨i8, hi8, _, hz8, _⟩ := info_parts (show (Try.prog.info? 5).map (fun i => (i.zero, i.size, i.bytes)) = some (some (.int .u8 0), 1, 1) by kernel_rfl)
  have HIX : Hid (∀ (i : Nat), i < 200 → ∀ w, (Instr.index 45 (.agg cs) (.int .i64 (i : Int))).run Try.prog w = .ok (.int .u8 (kbyte S i)) w) :=
    Lib.hid fun i hi w => run_index_cells w Try.underlying45 Try.underlying5 hi8 hz8 (i : Int) (by omega) (by omega) (by rw [Int.toNat_natCast]; exact HC.out i hi)
  clear HC hi8 hz8
  go_enter Try.func36, Try.ntmps36
  go_upto_region 2 with (fail)
  rw [arr_zero25]
  generalize ((w.alloc (.cells cs 45)).alloc (.cells (arr .u64 25 fun _ => 0) 61)).alloc (.cells (arr .u64 25 fun _ => 0) 61) = w3 at *
  obtain ⟨g, hg⟩ : ∃ g, w.heap.size = g := ⟨_, rfl⟩
  have hge : w.heap.size ≤ g := by omega
  rw [hg] at H0 ⊢
  clear hg
  have hra := H0.out.2.1
  go_wp2_with (refine wpList_load_row rfl 45 _ rfl g rfl _ _ (0, 0) _ hra Try.underlying45 rfl hiS ?_)
  clear hra
  go_wp2_with fail
  go_loopg [7] 200 (fun k s7 wx => ∃ i : Nat, i ≤ 200 ∧ k = 200 - i ∧ s7 = .int .i64 (i : Int) ∧ Hid (Three .u64 25 w wx g 45 61 61 cs (arr .u64 25 fun _ => 0) (frB S i)))
  case atStart => exact ⟨0, Nat.zero_le _, rfl, rfl, Lib.hid (H0.out.same fun i _ => (frB_zero S i).symm)⟩
  case round =>
    clear H0
    obtain ⟨i, hi, hgk, rfl, HQ⟩ := hrel
    have HGK := Lib.hid hgk
    clear hgk
    by_cases hlt : i < 200
    · have hii : (i : Int) < 200 := by omega
      have hix := HIX.out i hlt
      obtain ⟨q, hq⟩ : ∃ q, i / 8 = q := ⟨_, rfl⟩
      obtain ⟨m, hm⟩ : ∃ m, i % 8 = m := ⟨_, rfl⟩
      have hqi : (i : Int).tdiv 8 = (q : Int) := by rw [← hq, Int.tdiv_eq_ediv_of_nonneg (by omega)]; omega
      have hmi : (i : Int).tmod 8 = (m : Int) := by rw [← hm, Int.tmod_eq_emod_of_nonneg (by omega)]; omega
      have hq0 : (q : Int) < 25 := by omega
      have hm0 : (m : Int) < 8 := by omega
      have hc2 := HQ.out.2.2.2.at q (by omega)
      have hf2 := Row.fr HQ.out.2.2.2 q
      have e0 := frB_at S i
      rw [hq, hm] at e0
      rw [e0] at hc2
      have hj := join_byte (ln (S q)) m (by omega)
      have hkb : kbyte S i = ln (S q) / 2 ^ (8 * m) % 256 := by
        unfold kbyte
        rw [hq, hm, pow_256]
      rw [← hkb] at hj
      have hk0 : 0 ≤ kbyte S i := by rw [hkb]; omega
      have hk1 : kbyte S i < 256 := by rw [hkb]; omega
      have HQ1 : Hid (Three .u64 25 w (wr.setCell ⟨g + 1 + 1, q, none⟩ (.int .u64 (ln (S q) % 2 ^ (8 * (m + 1))))) g 45 61 61 cs (arr .u64 25 fun _ => 0) (frB S (i + 1))) := by
        refine Lib.hid ((HQ.out.put hge q (by omega) _).same fun j _ => ?_)
        have := frB_put S i j
        rw [hq, hm] at this
        exact this
      clear hm hq HQ e0 hkb
      generalize ln (S q) % 2 ^ (8 * (m + 1)) = v1 at *
      generalize ln (S q) % 2 ^ (8 * m) = v0 at *
      generalize kbyte S i = b at *
      go_wp2_with fail
      go_region
      go_wp2_with fail
      go_roundg (200 - (i + 1))
      case rel => exact ⟨i + 1, by omega, rfl, by go_num, Lib.hid (HQ1.out.drewN 1)⟩
      case measure => have := HGK.out; omega
    · obtain rfl : i = 200 := by omega
      have HQ3 : Hid (Three .u64 25 w wr g 45 61 61 cs (arr .u64 25 fun _ => 0) fun i => ln (S i)) := Lib.hid (HQ.out.same fun i hi => frB_all S i hi)
      have hr2 := HQ3.out.2.2.2
      have hr1 := HQ3.out.2.2.1
      have HP := Lib.hid HQ3.out.1
      unfold LM at hr2
      clear HQ HQ3
      have hi2 : (Try.prog.info? 61).map (·.size) = some (arr .u64 25 fun i => ln (S i)).size := by rw [arr_size]; kernel_rfl
      have hs2 : (arr .u64 25 fun _ => 0).size = (arr .u64 25 fun i => ln (S i)).size := by rw [arr_size, arr_size]
      have ho2 := arr_one .u64 25 fun i => ln (S i)
      generalize hcc : arr .u64 25 (fun i => ln (S i)) = c2 at *
      have HCC := Lib.hid hcc
      clear hcc
      generalize arr .u64 25 (fun _ => 0) = c1 at *
      go_wp2_with (first | (refine wpList_load_row rfl 61 _ rfl (g + 1 + 1) rfl _ _ (0, 0) _ hr2 Try.underlying61 rfl hi2 ?_) | (refine wpList_store_row rfl 61 _ _ rfl (g + 1) _ rfl rfl _ _ hr1 hi2 hs2 ho2 ?_))
      refine bodyPost_ret (results_cell_row rfl _ _ (g + 1) _ c2 (0, 0) _ rfl (setRow_heap wr (g + 1) c1 c2 _ _ hr1) Try.underlying61 rfl hi2) rfl ?_
      exact ⟨by rw [HCC.out], below_setRow HP.out (by omega) _⟩

end Go.Proofs.Ytamgbkadiobklaa
