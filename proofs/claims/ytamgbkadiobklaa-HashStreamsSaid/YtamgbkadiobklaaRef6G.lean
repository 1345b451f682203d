/- Contract of the reference of Keccak: the bytes of a state. -/
import Derived.Test.YtamgbkadiobklaaRef6F
namespace Go.Proofs.Ytamgbkadiobklaa
open Go.RowKit

theorem zero200 (w : World) : (zeroValue 45).run Try.prog w = .ok (.agg (arr .u8 200 fun _ => 0)) w := by kernel_rfl
/-- Byte j of a state. -/
def kbyte (A : Nat → Lane) (j : Nat) : Int := ln (A (j / 8)) / 256 ^ (j % 8) % 256
theorem pow256_succ (k : Nat) (x : Int) : x / 256 ^ (k + 1) = x / 256 ^ k / 256 := by
  rw [Int.pow_succ, Int.ediv_ediv_of_nonneg (by exact Int.le_of_lt (Int.pow_pos (by decide)))]

theorem u64_div256 (y : Int) (h0 : 0 ≤ y) (h1 : y < 18446744073709551616) : IntKind.u64.wrap (y.tdiv 256) = y / 256 := by
  rw [IntKind.wrap_u64, Int.tdiv_eq_ediv_of_nonneg h0]
  omega

set_option maxHeartbeats 1000000 in
set_option maxRecDepth 100000 in
theorem bytes_any (A : Nat → Lane) (w : World) :
    Calls Try.prog 33 #[.agg (arr .u64 25 fun i => ln (A i))] w fun e w' => e = .returned (.agg (arr .u8 200 (kbyte A))) ∧ Past w w' := by
  have hsz := arr_size .u64 25 fun i => ln (A i)
  have HC := Lib.hid (fun i (hi : i < 25) => arr_get .u64 25 (fun i => ln (A i)) i hi)
  generalize arr .u64 25 (fun i => ln (A i)) = cs at *
  have H0 := Lib.hid (Three.new .u8 200 w 56 45 45 cs (arr .u8 200 fun _ => 0) fun _ => 0)
  go_enter Try.func33, Try.ntmps33
  have hz := zero200
  go_wp2_with fail
  clear hz
  generalize ((w.alloc (.cells cs 56)).alloc (.cells (arr .u8 200 fun _ => 0) 45)).alloc (.cells (arr .u8 200 fun _ => 0) 45) = w3 at *
  obtain ⟨g, hg⟩ : ∃ g, w.heap.size = g := ⟨_, rfl⟩
  have hge : w.heap.size ≤ g := by omega
  rw [hg] at H0 ⊢
  clear hg
  go_loopg [4] 25 (fun k s4 wx => ∃ i : Nat, i ≤ 25 ∧ k = 25 - i ∧ s4 = .int .i64 (i : Int) ∧ Hid (∃ f, Three .u8 200 w wx g 56 45 45 cs (arr .u8 200 fun _ => 0) f ∧ ∀ j, j < 8 * i → f j = kbyte A j))
  case atStart => exact ⟨0, Nat.zero_le _, rfl, rfl, _, H0.out, fun i hi => absurd hi (by omega)⟩
  case round =>
    clear H0
    obtain ⟨i, hi, hgk, rfl, HQ⟩ := hrel
    have HGK := Lib.hid hgk
    clear hgk
    by_cases hlt : i < 25
    · have hii : (i : Int) < 25 := by omega
      have hc1 : wr.cell? ⟨g, i, none⟩ = some (.int .u64 (ln (A i))) := by
        obtain ⟨f, hT, _⟩ := HQ.out
        rw [hT.2.1.cell]
        exact HC.out _ hlt
      have hz : ln (A i) = ln (A i) / 256 ^ 0 := by rw [Int.pow_zero, Int.ediv_one]
      have HZ := Lib.hid hz
      have hr0 := ln_rng (A i)
      obtain ⟨hr0, hr1⟩ := hr0
      have HB : Hid (∀ k, k < 8 → kbyte A (8 * i + k) = ln (A i) / 256 ^ k % 256) := fun k hk => by
        unfold kbyte
        rw [show (8 * i + k) / 8 = i by omega, show (8 * i + k) % 8 = k by omega]
      have HR1 := Lib.hid hr1
      clear hz hr1
      generalize ln (A i) = v at *
      go_wp2_with fail
      go_loopg [5, 6] 8 (fun k s5 s6 wx => ∃ t : Nat, t ≤ 8 ∧ k = 8 - t ∧ s5 = .int .u64 (v / 256 ^ t) ∧ s6 = .int .i64 (t : Int) ∧ Hid (∃ f, Three .u8 200 w wx g 56 45 45 cs (arr .u8 200 fun _ => 0) f ∧ ∀ j, j < 8 * i + t → f j = kbyte A j))
      case atStart => exact ⟨0, Nat.zero_le _, rfl, by rw [← HZ.out], rfl, HQ⟩
      case round =>
        clear HQ
        obtain ⟨t, ht, hgk, rfl, rfl, HQ⟩ := hrel
        have HGK2 := Lib.hid hgk
        clear hgk
        obtain ⟨f, hT, hf⟩ := HQ.out
        by_cases hlt2 : t < 8
        · have hc2 := hT.2.2.2.at (8 * i + t) (by omega)
          have hf2 := hT.2.2.2.fr (8 * i + t)
          have hq0 : 0 ≤ v / 256 ^ t := Int.ediv_nonneg hr0 (by exact Int.le_of_lt (Int.pow_pos (by decide)))
          have hq1 : v / 256 ^ t ≤ v := Int.ediv_le_self _ hr0
          have HS := Lib.hid (pow256_succ t v)
          have HBT := HB.out t hlt2
          have HQ2 : Hid (∃ f, Three .u8 200 w (wr.setCell ⟨g + 1 + 1, 8 * i + t, none⟩ (.int .u8 (v / 256 ^ t % 256))) g 56 45 45 cs (arr .u8 200 fun _ => 0) f ∧ ∀ j, j < 8 * i + (t + 1) → f j = kbyte A j) := by
            refine ⟨_, hT.put hge (8 * i + t) (by omega) _, fun j hj => ?_⟩
            by_cases e : j = 8 * i + t
            · subst e
              rw [upd_at, HBT]
            · rw [upd_ne _ _ e]
              exact hf j (by omega)
          have hwr := u64_div256 (v / 256 ^ t) hq0 (by have := HR1.out; omega)
          clear hT hf HQ HBT hq1
          generalize v / 256 ^ t = z at *
          go_wp2_with fail
          go_roundg (8 - (t + 1))
          case rel => exact ⟨t + 1, by omega, rfl, by rw [HS.out], by go_num, HQ2⟩
          case measure => have := HGK2.out; omega
        · obtain rfl : t = 8 := by omega
          go_wp2_with fail
          go_roundg (25 - (i + 1))
          case rel => exact ⟨i + 1, by omega, rfl, by go_num, f, hT, fun j hj => hf j (by omega)⟩
          case measure => have := HGK.out; omega
    · obtain rfl : i = 25 := by omega
      obtain ⟨f, hT, hf⟩ := HQ.out
      have he : arr .u8 200 f = arr .u8 200 (kbyte A) := arr_ext fun j hj => hf j (by omega)
      have hr2 := hT.2.2.2
      have hr1 := hT.2.2.1
      unfold LM at hr2
      rw [he] at hr2
      have hi2 : (Try.prog.info? 45).map (·.size) = some (arr .u8 200 (kbyte A)).size := by rw [arr_size]; kernel_rfl
      have hs2 : (arr .u8 200 fun _ => 0).size = (arr .u8 200 (kbyte A)).size := by rw [arr_size, arr_size]
      have ho2 := arr_one .u8 200 (kbyte A)
      have HP := Lib.hid (hT.1)
      clear hT hf he HQ HC
      generalize hcc : arr .u8 200 (kbyte A) = c2 at *
      have HCC := Lib.hid hcc
      clear hcc
      generalize arr .u8 200 (fun _ => 0) = c1 at *
      go_wp2_with (first | (refine wpList_load_row rfl 45 _ rfl (g + 1 + 1) rfl _ _ (0, 0) _ hr2 Try.underlying45 rfl hi2 ?_) | (refine wpList_store_row rfl 45 _ _ rfl (g + 1) _ rfl rfl _ _ hr1 hi2 hs2 ho2 ?_))
      refine bodyPost_ret (results_cell_row rfl _ _ (g + 1) _ c2 (0, 0) _ rfl (setRow_heap wr (g + 1) c1 c2 _ _ hr1) Try.underlying45 rfl hi2) rfl ?_
      exact ⟨by rw [HCC.out], below_setRow HP.out (by omega) _⟩

end Go.Proofs.Ytamgbkadiobklaa
