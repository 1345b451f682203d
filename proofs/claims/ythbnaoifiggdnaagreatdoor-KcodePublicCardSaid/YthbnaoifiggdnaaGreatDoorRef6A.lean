/- Contracts of the reference of Keccak: lanes of numbers and back. Plain facts about lanes: rotation, and what the operations on 64 bits are in numbers. Contracts of the reference of Keccak: the constants of rounds. Contracts of the reference of Keccak: the offsets of rotation. The round of Keccak as a plain function of lanes, and what stands in memory while the reference makes it. -/
import Derived.Test.YthbnaoifiggdnaaGreatDoorArr
import Derived.Laws.CopyOwn
namespace Go.Proofs.YthbnaoifiggdnaaGreatDoor
open Go.RowKit

theorem arr_zero25 : (#[Value.int IntKind.u64 0, .int .u64 0, .int .u64 0, .int .u64 0, .int .u64 0, .int .u64 0, .int .u64 0, .int .u64 0, .int .u64 0, .int .u64 0, .int .u64 0, .int .u64 0, .int .u64 0, .int .u64 0, .int .u64 0, .int .u64 0, .int .u64 0, .int .u64 0, .int .u64 0, .int .u64 0, .int .u64 0, .int .u64 0, .int .u64 0, .int .u64 0, .int .u64 0] : Array Value) = arr .u64 25 fun _ => 0 := rfl

/-- Three blocks of a call's own. -/
def Three (k : IntKind) (n : Nat) (w wx : World) (g : Nat) (t0 t1 t2 : TypeId) (cs c1 : Array Value) (f : Nat → Int) : Prop :=
  Past w wx ∧ Row wx g t0 cs ∧ Row wx (g + 1) t1 c1 ∧ LM k wx (g + 1 + 1) t2 n f
theorem Three.new (k : IntKind) (n : Nat) (w : World) (t0 t1 t2 : TypeId) (cs c1 : Array Value) (f : Nat → Int) :
    Three k n w (((w.alloc (.cells cs t0)).alloc (.cells c1 t1)).alloc (.cells (arr k n f) t2)) w.heap.size t0 t1 t2 cs c1 f := by
  refine ⟨(((Below.refl _ _).alloc (Nat.le_refl _) _).alloc (by simp) _).alloc (by simp; omega) _, ((Row.new w t0 cs).alloc _).alloc _, ?_, ?_⟩
  · have := (Row.new (w.alloc (.cells cs t0)) t1 c1).alloc (.cells (arr k n f) t2)
    simpa using this
  · have := Row.new ((w.alloc (.cells cs t0)).alloc (.cells c1 t1)) t2 (arr k n f)
    simpa using this
theorem Three.put {k : IntKind} {n : Nat} {w wx : World} {t0 t1 t2 : TypeId} {cs c1 : Array Value} {f : Nat → Int} {g : Nat} (h : Three k n w wx g t0 t1 t2 cs c1 f) (hg : w.heap.size ≤ g) (i : Nat) (hi : i < n) (v : Int) :
    Three k n w (wx.setCell ⟨g + 1 + 1, i, none⟩ (.int k v)) g t0 t1 t2 cs c1 (upd f i v) :=
  ⟨h.1.set (by show _ ≤ g + 1 + 1; omega) _, h.2.1.setOther (by omega) _ _, h.2.2.1.setOther (by omega) _ _, h.2.2.2.put i hi v⟩
theorem Three.drewN {k : IntKind} {n : Nat} {w wx : World} {t0 t1 t2 : TypeId} {cs c1 : Array Value} {f : Nat → Int} {g : Nat} (h : Three k n w wx g t0 t1 t2 cs c1 f) (m : Nat) : Three k n w (wx.drewN m) g t0 t1 t2 cs c1 f :=
  ⟨h.1.drewN m, h.2.1, h.2.2.1, h.2.2.2⟩

set_option maxHeartbeats 1000000 in
theorem of_any (l : Nat → Int) (w : World) :
    Calls Tryz.prog 83 #[.agg (arr .u64 25 l)] w fun e w' => e = .returned (.agg (arr .u64 25 fun i => l (i / 5 + 5 * (i % 5)))) ∧ Past w w' := by
  have hsz := arr_size .u64 25 l
  have HC := Lib.hid (fun i (hi : i < 25) => arr_get .u64 25 l i hi)
  generalize arr .u64 25 l = cs at *
  have H0 := Lib.hid (Three.new .u64 25 w 113 150 150 cs (arr .u64 25 fun _ => 0) fun _ => 0)
  go_enter Tryz.func83, Tryz.ntmps83
  go_wp2_with fail
  rw [arr_zero25]
  generalize ((w.alloc (.cells cs 113)).alloc (.cells (arr .u64 25 fun _ => 0) 150)).alloc (.cells (arr .u64 25 fun _ => 0) 150) = w3 at *
  obtain ⟨g, hg⟩ : ∃ g, w.heap.size = g := ⟨_, rfl⟩
  have hge : w.heap.size ≤ g := by omega
  rw [hg] at H0 ⊢
  clear hg
  go_loopg [4] 5 (fun k s4 wx => ∃ x : Nat, x ≤ 5 ∧ k = 5 - x ∧ s4 = .int .i64 (x : Int) ∧ Hid (∃ f, Three .u64 25 w wx g 113 150 150 cs (arr .u64 25 fun _ => 0) f ∧ ∀ i, i < x * 5 → f i = l (i / 5 + 5 * (i % 5))))
  case atStart => exact ⟨0, Nat.zero_le _, rfl, rfl, _, H0.out, fun i hi => absurd hi (by omega)⟩
  case round =>
    clear H0
    obtain ⟨x, hx, hgk, rfl, HQ⟩ := hrel
    have HGK := Lib.hid hgk
    clear hgk
    by_cases hlt : x < 5
    · go_wp2_with fail
      go_loopg [5] 5 (fun k s5 wx => ∃ y : Nat, y ≤ 5 ∧ k = 5 - y ∧ s5 = .int .i64 (y : Int) ∧ Hid (∃ f, Three .u64 25 w wx g 113 150 150 cs (arr .u64 25 fun _ => 0) f ∧ ∀ i, i < x * 5 + y → f i = l (i / 5 + 5 * (i % 5))))
      case atStart => exact ⟨0, Nat.zero_le _, rfl, rfl, HQ.out⟩
      case round =>
        clear HQ
        obtain ⟨y, hy, hgk, rfl, f, hT, hf⟩ := hrel
        have HGK2 := Lib.hid hgk
        clear hgk
        by_cases hlt2 : y < 5
        · have hc1 : wr.cell? ⟨g, x + 5 * y, none⟩ = some (.int .u64 (l (x + 5 * y))) := by rw [hT.2.1.cell]; exact HC.out _ (by omega)
          have hc2 := hT.2.2.2.at (x * 5 + y) (by omega)
          have hf2 := hT.2.2.2.fr (x * 5 + y)
          have HT2 : Hid (∃ f, Three .u64 25 w (wr.setCell ⟨g + 1 + 1, x * 5 + y, none⟩ (.int .u64 (l (x + 5 * y)))) g 113 150 150 cs (arr .u64 25 fun _ => 0) f ∧ ∀ i, i < x * 5 + (y + 1) → f i = l (i / 5 + 5 * (i % 5))) := by
            refine ⟨_, hT.put hge (x * 5 + y) (by omega) _, fun i hi => ?_⟩
            by_cases e : i = x * 5 + y
            · subst e
              rw [upd_at]
              congr 2
              · omega
              · omega
            · rw [upd_ne _ _ e]
              exact hf i (by omega)
          clear hT hf
          go_wp2_with fail
          go_region
          go_wp2_with fail
          go_roundg (5 - (y + 1))
          case rel => exact ⟨y + 1, by omega, rfl, by go_num, HT2.out.imp fun f h => ⟨h.1.drewN 1, h.2⟩⟩
          case measure => have := HGK2.out; omega
        · obtain rfl : y = 5 := by omega
          go_wp2_with fail
          go_roundg (5 - (x + 1))
          case rel => exact ⟨x + 1, by omega, rfl, by go_num, f, hT, fun i hi => hf i (by omega)⟩
          case measure => have := HGK.out; omega
    · obtain rfl : x = 5 := by omega
      obtain ⟨f, hT, hf⟩ := HQ.out
      have he : arr .u64 25 f = arr .u64 25 fun i => l (i / 5 + 5 * (i % 5)) := arr_ext fun i hi => hf i (by omega)
      have hr2 := hT.2.2.2
      have hr1 := hT.2.2.1
      unfold LM at hr2
      rw [he] at hr2
      have hi2 : (Tryz.prog.info? 150).map (·.size) = some (arr .u64 25 fun i => l (i / 5 + 5 * (i % 5))).size := by rw [arr_size]; kernel_rfl
      have hs2 : (arr .u64 25 fun _ => 0).size = (arr .u64 25 fun i => l (i / 5 + 5 * (i % 5))).size := by rw [arr_size, arr_size]
      have ho2 := arr_one .u64 25 fun i => l (i / 5 + 5 * (i % 5))
      have HP := Lib.hid (hT.1)
      clear hT hf he HQ HC
      generalize hcc : arr .u64 25 (fun i => l (i / 5 + 5 * (i % 5))) = c2 at *
      have HCC := Lib.hid hcc
      clear hcc
      generalize arr .u64 25 (fun _ => 0) = c1 at *
      go_wp2_with (first | (refine wpList_load_row rfl 150 _ rfl (g + 1 + 1) rfl _ _ (0, 0) _ hr2 Tryz.underlying150 rfl hi2 ?_) | (refine wpList_store_row rfl 150 _ _ rfl (g + 1) _ rfl rfl _ _ hr1 hi2 hs2 ho2 ?_))
      refine bodyPost_ret (results_cell_row rfl _ _ (g + 1) _ c2 (0, 0) _ rfl (setRow_heap wr (g + 1) c1 c2 _ _ hr1) Tryz.underlying150 rfl hi2) rfl ?_
      exact ⟨by rw [HCC.out], below_setRow HP.out (by omega) _⟩
set_option maxHeartbeats 1000000 in
theorem list_any (a : Nat → Int) (w : World) :
    Calls Tryz.prog 81 #[.agg (arr .u64 25 a)] w fun e w' => e = .returned (.agg (arr .u64 25 fun i => a (i % 5 * 5 + i / 5))) ∧ Past w w' := by
  have hsz := arr_size .u64 25 a
  have HC := Lib.hid (fun i (hi : i < 25) => arr_get .u64 25 a i hi)
  generalize arr .u64 25 a = cs at *
  have H0 := Lib.hid (Three.new .u64 25 w 150 113 113 cs (arr .u64 25 fun _ => 0) fun _ => 0)
  go_enter Tryz.func81, Tryz.ntmps81
  go_wp2_with fail
  rw [arr_zero25]
  generalize ((w.alloc (.cells cs 150)).alloc (.cells (arr .u64 25 fun _ => 0) 113)).alloc (.cells (arr .u64 25 fun _ => 0) 113) = w3 at *
  obtain ⟨g, hg⟩ : ∃ g, w.heap.size = g := ⟨_, rfl⟩
  have hge : w.heap.size ≤ g := by omega
  rw [hg] at H0 ⊢
  clear hg
  go_loopg [4] 25 (fun k s4 wx => ∃ x : Nat, x ≤ 25 ∧ k = 25 - x ∧ s4 = .int .i64 (x : Int) ∧ Hid (∃ f, Three .u64 25 w wx g 150 113 113 cs (arr .u64 25 fun _ => 0) f ∧ ∀ i, i < x → f i = a (i % 5 * 5 + i / 5)))
  case atStart => exact ⟨0, Nat.zero_le _, rfl, rfl, _, H0.out, fun i hi => absurd hi (by omega)⟩
  case round =>
    clear H0
    obtain ⟨x, hx, hgk, rfl, HQ⟩ := hrel
    have HGK := Lib.hid hgk
    clear hgk
    obtain ⟨f, hT, hf⟩ := HQ.out
    by_cases hlt : x < 25
    · have hc1 : wr.cell? ⟨g, x % 5 * 5 + x / 5, none⟩ = some (.int .u64 (a (x % 5 * 5 + x / 5))) := by rw [hT.2.1.cell]; exact HC.out _ (by omega)
      have hc2 := hT.2.2.2.at x hlt
      have hf2 := hT.2.2.2.fr x
      have HT2 : Hid (∃ f, Three .u64 25 w (wr.setCell ⟨g + 1 + 1, x, none⟩ (.int .u64 (a (x % 5 * 5 + x / 5)))) g 150 113 113 cs (arr .u64 25 fun _ => 0) f ∧ ∀ i, i < x + 1 → f i = a (i % 5 * 5 + i / 5)) := by
        refine ⟨_, hT.put hge x hlt _, fun i hi => ?_⟩
        by_cases e : i = x
        · subst e
          rw [upd_at]
        · rw [upd_ne _ _ e]
          exact hf i (by omega)
      clear hT hf HQ
      go_wp2_with fail
      go_roundg (25 - (x + 1))
      case rel => exact ⟨x + 1, by omega, rfl, by go_num, HT2⟩
      case measure => have := HGK.out; omega
    · obtain rfl : x = 25 := by omega
      have he : arr .u64 25 f = arr .u64 25 fun i => a (i % 5 * 5 + i / 5) := arr_ext fun i hi => hf i (by omega)
      have hr2 := hT.2.2.2
      have hr1 := hT.2.2.1
      unfold LM at hr2
      rw [he] at hr2
      have hi2 : (Tryz.prog.info? 113).map (·.size) = some (arr .u64 25 fun i => a (i % 5 * 5 + i / 5)).size := by rw [arr_size]; kernel_rfl
      have hs2 : (arr .u64 25 fun _ => 0).size = (arr .u64 25 fun i => a (i % 5 * 5 + i / 5)).size := by rw [arr_size, arr_size]
      have ho2 := arr_one .u64 25 fun i => a (i % 5 * 5 + i / 5)
      have HP := Lib.hid (hT.1)
      clear hT hf he HQ HC
      generalize hcc : arr .u64 25 (fun i => a (i % 5 * 5 + i / 5)) = c2 at *
      have HCC := Lib.hid hcc
      clear hcc
      generalize arr .u64 25 (fun _ => 0) = c1 at *
      go_wp2_with (first | (refine wpList_load_row rfl 113 _ rfl (g + 1 + 1) rfl _ _ (0, 0) _ hr2 Tryz.underlying113 rfl hi2 ?_) | (refine wpList_store_row rfl 113 _ _ rfl (g + 1) _ rfl rfl _ _ hr1 hi2 hs2 ho2 ?_))
      refine bodyPost_ret (results_cell_row rfl _ _ (g + 1) _ c2 (0, 0) _ rfl (setRow_heap wr (g + 1) c1 c2 _ _ hr1) Tryz.underlying113 rfl hi2) rfl ?_
      exact ⟨by rw [HCC.out], below_setRow HP.out (by omega) _⟩

end Go.Proofs.YthbnaoifiggdnaaGreatDoor

namespace Go.Proofs.YthbnaoifiggdnaaGreatDoor
open Go.RowKit

abbrev Lane := BitVec 64
def ln (x : Lane) : Int := (x.toNat : Int)
theorem ln_rng (x : Lane) : 0 ≤ ln x ∧ ln x < 18446744073709551616 := by
  have := x.isLt
  unfold ln
  omega
theorem ln_inj {x y : Lane} (h : ln x = ln y) : x = y := BitVec.eq_of_toNat_eq (by unfold ln at h; omega)
theorem xor_ln (x y : Lane) : bits .xor .u64 (ln x) (ln y) = ln (x ^^^ y) := by
  unfold ln
  rw [u64_xor_nat _ _ x.isLt y.isLt, BitVec.toNat_xor]
theorem and_ln (x y : Lane) : bits .and .u64 (ln x) (ln y) = ln (x &&& y) := by
  unfold ln
  rw [u64_and_nat _ _ x.isLt y.isLt, BitVec.toNat_and]
theorem or_ln (x y : Lane) : bits .or .u64 (ln x) (ln y) = ln (x ||| y) := by
  unfold ln
  rw [u64_or_nat _ _ x.isLt y.isLt, BitVec.toNat_or]
def rot1 (x : Lane) : Lane := (x <<< (1 : Nat)) ||| (x >>> (63 : Nat))
theorem shl1_ln (x : Lane) : (ln x * (2 : Int) % (18446744073709551616 : Int) : Int) = ln (x <<< (1 : Nat)) := by
  unfold ln
  rw [BitVec.toNat_shiftLeft, Nat.shiftLeft_eq]
  omega
theorem shr63_ln (x : Lane) : (ln x / (9223372036854775808 : Int) : Int) = ln (x >>> (63 : Nat)) := by
  unfold ln
  rw [BitVec.toNat_ushiftRight, Nat.shiftRight_eq_div_pow]
  omega
theorem rot1_ln (x : Lane) : bits .or .u64 (IntKind.u64.wrap (ln x * (2 : Int))) (ln x / (9223372036854775808 : Int)) = ln (rot1 x) := by
  rw [IntKind.wrap_u64, shl1_ln, shr63_ln, or_ln]
  rfl
def rotN (x : Lane) : Nat → Lane
  | 0 => x
  | n + 1 => rot1 (rotN x n)
theorem rot1_bit (x : Lane) (i : Nat) (h : i < 64) : (rot1 x).getLsbD i = x.getLsbD ((i + 63) % 64) := by
  unfold rot1
  rw [BitVec.getLsbD_or, BitVec.getLsbD_shiftLeft, BitVec.getLsbD_ushiftRight]
  by_cases h0 : i = 0
  · subst h0
    simp
  · have e : (i + 63) % 64 = i - 1 := by omega
    rw [e]
    have h1 : x.getLsbD (63 + i) = false := BitVec.getLsbD_of_ge x _ (by omega)
    simp [h, h1]
    intro h2
    omega
theorem rotN_bit (x : Lane) (n i : Nat) (h : i < 64) : (rotN x n).getLsbD i = x.getLsbD ((i + 63 * n) % 64) := by
  induction n generalizing i with
  | zero => rw [rotN, Nat.mul_zero, Nat.add_zero, Nat.mod_eq_of_lt h]
  | succ n ih =>
    rw [rotN, rot1_bit _ _ h, ih _ (Nat.mod_lt _ (by decide))]
    congr 1
    omega
theorem lane_ext {x y : Lane} (h : ∀ i, i < 64 → x.getLsbD i = y.getLsbD i) : x = y := BitVec.eq_of_getLsbD_eq h
theorem rotN_xor (x y : Lane) (n : Nat) : rotN (x ^^^ y) n = rotN x n ^^^ rotN y n := lane_ext fun i h => by
  rw [BitVec.getLsbD_xor, rotN_bit _ _ _ h, rotN_bit _ _ _ h, rotN_bit _ _ _ h, BitVec.getLsbD_xor]
theorem rotN_rotN (x : Lane) (n m : Nat) : rotN (rotN x n) m = rotN x (n + m) := lane_ext fun i h => by
  rw [rotN_bit _ _ _ h, rotN_bit _ _ _ (Nat.mod_lt _ (by decide)), rotN_bit _ _ _ h]
  congr 1
  omega
theorem rotN_64 (x : Lane) : rotN x 64 = x := lane_ext fun i h => by
  rw [rotN_bit _ _ _ h]
  congr 1
  omega
theorem rotN_inj {x y : Lane} {n : Nat} (h : rotN x n = rotN y n) : x = y := by
  have e : ∀ z : Lane, rotN (rotN z n) (63 * n) = z := fun z => lane_ext fun i hi => by
    rw [rotN_rotN, rotN_bit _ _ _ hi]
    congr 1
    omega
  rw [← e x, h, e y]
theorem rotN_left (x : Lane) (n : Nat) (h : n < 64) : rotN x n = x.rotateLeft n := lane_ext fun i hi => by
  rw [rotN_bit _ _ _ hi, BitVec.getLsbD_rotateLeft]
  rw [Nat.mod_eq_of_lt h]
  by_cases h2 : i < n
  · rw [decide_eq_true h2, cond_true]
    congr 1
    omega
  · rw [decide_eq_false h2, cond_false, decide_eq_true hi, Bool.true_and]
    congr 1
    omega

theorem rotate_any (x : Lane) (n : Nat) (w : World) (hn : n ≤ 1000) :
    Calls Tryz.prog 110 #[.int .u64 (ln x), .int .i64 (n : Int)] w fun e w' => e = .returned (.int .u64 (ln (rotN x n))) ∧ w = w' := by
  go_enter Tryz.func110, Tryz.ntmps110
  go_wp2
  go_loopg [0, 5] n (fun k s0 s5 wx => ∃ i : Nat, i ≤ n ∧ k = n - i ∧ s0 = .int .u64 (ln (rotN x i)) ∧ s5 = .int .i64 (i : Int) ∧ Hid (wx = w))
  case atStart => exact ⟨0, Nat.zero_le _, rfl, rfl, rfl, rfl⟩
  case round =>
    obtain ⟨i, hi, hgk, rfl, rfl, hw⟩ := hrel
    obtain rfl := hw.out
    have HGK := Lib.hid hgk
    clear hw hgk
    by_cases hlt : i < n
    · have HR := Lib.hid (rot1_ln (rotN x i))
      have HS : Hid (rotN x (i + 1) = rot1 (rotN x i)) := rfl
      have hr := ln_rng (rotN x i)
      obtain ⟨hr0, hr1⟩ := hr
      generalize rotN x i = y at *
      generalize ln y = v at *
      go_wp2_with fail
      go_roundg (n - (i + 1))
      case rel => exact ⟨i + 1, by omega, rfl, by rw [HS.out, ← HR.out], by go_num, rfl⟩
      case measure => have := HGK.out; omega
    · obtain rfl : i = n := by omega
      go_wp2
      go_ret
      exact ⟨rfl, rfl⟩

end Go.Proofs.YthbnaoifiggdnaaGreatDoor

namespace Go.Proofs.YthbnaoifiggdnaaGreatDoor
open Go.RowKit

def pl (i : Nat) : Nat := [0, 1, 3, 7, 15, 31, 63].getD i 0
def cstep (s : Nat × List Nat) (t : Nat) : Nat × List Nat :=
  (if 256 ≤ 2 * s.1 then (2 * s.1) ^^^ 369 else 2 * s.1, if s.1 % 2 = 1 then s.2.set (t / 7) (s.2.getD (t / 7) 0 + 2 ^ pl (t % 7)) else s.2)
def cS (n : Nat) : Nat × List Nat := (List.range n).foldl cstep (1, List.replicate 24 0)
theorem cS_succ (n : Nat) : cS (n + 1) = cstep (cS n) n := by simp [cS, List.range_succ]
theorem cS_ok : ∀ t : Fin 168, (cS t.val).1 < 256 ∧ (cS t.val).2.length = 24 ∧ (cS t.val).2.getD (t.val / 7) 0 + 2 ^ pl (t.val % 7) < 18446744073709551616 := by decide +kernel
def rcs : List Nat := [0x1, 0x8082, 0x800000000000808a, 0x8000000080008000, 0x808b, 0x80000001, 0x8000000080008081, 0x8000000000008009, 0x8a, 0x88, 0x80008009, 0x8000000a, 0x8000808b, 0x800000000000008b, 0x8000000000008089, 0x8000000000008003, 0x8000000000008002, 0x8000000000000080, 0x800a, 0x800000008000000a, 0x8000000080008081, 0x8000000000008080, 0x80000001, 0x8000000080008008]
theorem cS_all : (cS 168).2 = rcs := by decide +kernel
def rcF (i : Nat) : Int := (rcs.getD i 0 : Nat)

theorem arr_zero24 : (#[Value.int IntKind.u64 0, .int .u64 0, .int .u64 0, .int .u64 0, .int .u64 0, .int .u64 0, .int .u64 0, .int .u64 0, .int .u64 0, .int .u64 0, .int .u64 0, .int .u64 0, .int .u64 0, .int .u64 0, .int .u64 0, .int .u64 0, .int .u64 0, .int .u64 0, .int .u64 0, .int .u64 0, .int .u64 0, .int .u64 0, .int .u64 0, .int .u64 0] : Array Value) = arr .u64 24 fun _ => 0 := rfl

/-- What stands while the constants are made. -/
def CW (w wx : World) (g : Nat) (s : List Nat) : Prop :=
  Past w wx ∧ Row wx g 176 (arr .u64 24 fun _ => 0) ∧ LM .u64 wx (g + 1) 176 24 (fun i => (s.getD i 0 : Nat)) ∧ LM .u64 wx (g + 1 + 1) 78 7 fun i => (pl i : Nat)
theorem CW.new (w : World) : CW w (((w.alloc (.cells (arr .u64 24 fun _ => 0) 176)).alloc (.cells (arr .u64 24 fun _ => 0) 176)).alloc (.cells #[.int .u64 0, .int .u64 1, .int .u64 3, .int .u64 7, .int .u64 15, .int .u64 31, .int .u64 63] 78)) w.heap.size (cS 0).2 := by
  refine ⟨(((Below.refl _ _).alloc (Nat.le_refl _) _).alloc (by simp) _).alloc (by simp; omega) _, ((Row.new w _ _).alloc _).alloc _, ?_, ?_⟩
  · have e : arr .u64 24 (fun _ => 0) = arr .u64 24 fun i => ((cS 0).2.getD i 0 : Nat) := by rfl
    have := (Row.new (w.alloc (.cells (arr .u64 24 fun _ => 0) 176)) 176 (arr .u64 24 fun _ => 0)).alloc (.cells #[.int .u64 0, .int .u64 1, .int .u64 3, .int .u64 7, .int .u64 15, .int .u64 31, .int .u64 63] 78)
    unfold LM
    rw [← e]
    simpa using this
  · have e : #[Value.int IntKind.u64 0, .int .u64 1, .int .u64 3, .int .u64 7, .int .u64 15, .int .u64 31, .int .u64 63] = arr .u64 7 fun i => (pl i : Nat) := by rfl
    have := Row.new ((w.alloc (.cells (arr .u64 24 fun _ => 0) 176)).alloc (.cells (arr .u64 24 fun _ => 0) 176)) 78 #[.int .u64 0, .int .u64 1, .int .u64 3, .int .u64 7, .int .u64 15, .int .u64 31, .int .u64 63]
    unfold LM
    rw [← e]
    simpa using this
theorem CW.put {w wx : World} {g : Nat} {s : List Nat} (h : CW w wx g s) (hg : w.heap.size ≤ g) (i : Nat) (hi : i < 24) (hs : s.length = 24) (v : Nat) : CW w (wx.setCell ⟨g + 1, i, none⟩ (.int .u64 (v : Int))) g (s.set i v) :=
  ⟨h.1.set (by show _ ≤ g + 1; omega) _, h.2.1.setOther (by omega) _ _, (h.2.2.1.put i hi v).same fun j hj => by
    by_cases e : j = i
    · subst e
      rw [upd_at, List.getD_eq_getElem?_getD, List.getElem?_set_self (by omega)]
      rfl
    · rw [upd_ne _ _ e, List.getD_eq_getElem?_getD, List.getD_eq_getElem?_getD, List.getElem?_set_ne (by omega)], h.2.2.2.setOther (by omega) _ _⟩
theorem CW.drewN {w wx : World} {g : Nat} {s : List Nat} (h : CW w wx g s) (m : Nat) : CW w (wx.drewN m) g s := ⟨h.1.drewN m, h.2.1, h.2.2.1, h.2.2.2⟩
theorem pl_lt (i : Nat) (h : i < 7) : pl i < 64 := by
  have : i = 0 ∨ i = 1 ∨ i = 2 ∨ i = 3 ∨ i = 4 ∨ i = 5 ∨ i = 6 := by omega
  rcases this with rfl | rfl | rfl | rfl | rfl | rfl | rfl <;> decide
theorem pow_cast (p : Nat) : ((2 ^ p : Nat) : Int) = (2 : Int) ^ p := Int.natCast_pow 2 p

theorem x369 : ∀ r : Fin 256, bits .xor .i64 (2 * (r.val : Int)) 369 = (((2 * r.val) ^^^ 369 : Nat) : Int) := by decide +kernel

set_option maxHeartbeats 1000000 in
set_option maxRecDepth 100000 in
theorem constants_any (w : World) : Calls Tryz.prog 97 #[] w fun e w' => e = .returned (.agg (arr .u64 24 rcF)) ∧ Past w w' := by
  have H0 := Lib.hid (CW.new w)
  go_enter Tryz.func97, Tryz.ntmps97
  go_wp2_with fail
  rw [arr_zero24]
  generalize ((w.alloc (.cells (arr .u64 24 fun _ => 0) 176)).alloc (.cells (arr .u64 24 fun _ => 0) 176)).alloc (.cells #[.int .u64 0, .int .u64 1, .int .u64 3, .int .u64 7, .int .u64 15, .int .u64 31, .int .u64 63] 78) = w3 at *
  obtain ⟨g, hg⟩ : ∃ g, w.heap.size = g := ⟨_, rfl⟩
  have hge : w.heap.size ≤ g := by omega
  rw [hg] at H0 ⊢
  clear hg
  go_loopg [2, 4] 168 (fun k s2 s4 wx => ∃ t : Nat, t ≤ 168 ∧ k = 168 - t ∧ s2 = .int .i64 (((cS t).1 : Nat) : Int) ∧ s4 = .int .i64 (t : Int) ∧ Hid (CW w wx g (cS t).2))
  case atStart => exact ⟨0, Nat.zero_le _, rfl, rfl, rfl, H0⟩
  case round =>
    clear H0
    obtain ⟨t, ht, hgk, rfl, rfl, HQ⟩ := hrel
    have HGK := Lib.hid hgk
    clear hgk
    by_cases hlt : t < 168
    · obtain ⟨k1, k2, k3⟩ := cS_ok ⟨t, hlt⟩
      have HS := Lib.hid (cS_succ t)
      have hp := pl_lt (t % 7) (by omega)
      have hc1 := HQ.out.2.2.1.at (t / 7) (by omega)
      have hf1 := HQ.out.2.2.1.fr (t / 7)
      have hc3 := HQ.out.2.2.2.at (t % 7) (by omega)
      generalize hsv : cS t = sv at *
      clear hsv
      obtain ⟨r, s⟩ := sv
      simp only at k1 k2 k3 hc1 hf1 hc3 HQ ⊢
      have HQ2 : Hid (r % 2 = 1 → CW w (wr.setCell ⟨g + 1, t / 7, none⟩ (.int .u64 ((s.getD (t / 7) 0 + 2 ^ pl (t % 7) : Nat) : Int))) g (cS (t + 1)).2) := fun h => by
        rw [HS.out]
        unfold cstep
        simp only [h, if_true]
        exact HQ.out.put hge (t / 7) (by omega) k2 _
      have HQ3 : Hid (r % 2 ≠ 1 → CW w wr g (cS (t + 1)).2) := fun h => by
        rw [HS.out]
        unfold cstep
        simp only [h, if_false]
        exact HQ.out
      have HR : Hid ((cS (t + 1)).1 = if 256 ≤ 2 * r then (2 * r) ^^^ 369 else 2 * r) := by
        show _ = _
        rw [HS.out]
        rfl
      generalize s.getD (t / 7) 0 = v at *
      generalize pl (t % 7) = p at *
      obtain ⟨P, hP⟩ : ∃ P : Nat, 2 ^ p = P := ⟨_, rfl⟩
      rw [hP] at k3 HQ2
      have hPI : (2 : Int) ^ p = (P : Int) := by rw [← pow_cast, hP]
      have hcast : ((v + P : Nat) : Int) = (v : Int) + (P : Int) := by omega
      rw [hcast] at HQ2
      have hw1 : (v : Int) + (P : Int) < 18446744073709551616 := by omega
      have hwr1 : IntKind.u64.wrap ((v : Int) + (P : Int)) = (v : Int) + (P : Int) := by rw [IntKind.wrap_u64]; omega
      have hwr2 : IntKind.u64.wrap (P : Int) = (P : Int) := by rw [IntKind.wrap_u64]; omega
      clear hcast k2 HQ HS hP k3 hw1
      by_cases h2 : r % 2 = 1
      · have hb2 : ((r : Int) % 2 == 1) = true := by simp; omega
        have HQ2' := Lib.hid (HQ2.out h2)
        clear h2 HQ2 HQ3
        by_cases h6 : 256 ≤ 2 * r
        · have hx := x369 ⟨r, k1⟩
          have HR2 : Hid ((cS (t + 1)).1 = (2 * r) ^^^ 369) := by
            show _ = _
            rw [HR.out, if_pos h6]
          have hb6 : decide (256 ≤ 2 * (r : Int)) = true := by simp; omega
          clear h6
          simp only at hx
          generalize (2 * r) ^^^ 369 = y at *
          clear HR
          go_wp2_with fail
          go_region
          go_wp2_with fail
          go_roundg (168 - (t + 1))
          case rel => exact ⟨t + 1, by omega, rfl, by rw [HR2.out], by go_num, HQ2'.out.drewN 1⟩
          case measure => have := HGK.out; omega
        · have HR2 : Hid ((cS (t + 1)).1 = 2 * r) := by
            show _ = _
            rw [HR.out, if_neg h6]
          have hb6 : decide (256 ≤ 2 * (r : Int)) = false := by simp; omega
          clear h6
          clear HR
          go_wp2_with fail
          go_region
          go_wp2_with fail
          go_roundg (168 - (t + 1))
          case rel => exact ⟨t + 1, by omega, rfl, by rw [HR2.out]; go_num, by go_num, HQ2'.out.drewN 1⟩
          case measure => have := HGK.out; omega
      · have hb2 : ((r : Int) % 2 == 1) = false := by simp; omega
        have HQ3' := Lib.hid (HQ3.out h2)
        clear h2 HQ2 HQ3
        by_cases h6 : 256 ≤ 2 * r
        · have hx := x369 ⟨r, k1⟩
          have HR2 : Hid ((cS (t + 1)).1 = (2 * r) ^^^ 369) := by
            show _ = _
            rw [HR.out, if_pos h6]
          have hb6 : decide (256 ≤ 2 * (r : Int)) = true := by simp; omega
          clear h6
          simp only at hx
          generalize (2 * r) ^^^ 369 = y at *
          clear HR
          go_wp2_with fail
          go_roundg (168 - (t + 1))
          case rel => exact ⟨t + 1, by omega, rfl, by rw [HR2.out], by go_num, HQ3'⟩
          case measure => have := HGK.out; omega
        · have HR2 : Hid ((cS (t + 1)).1 = 2 * r) := by
            show _ = _
            rw [HR.out, if_neg h6]
          have hb6 : decide (256 ≤ 2 * (r : Int)) = false := by simp; omega
          clear h6
          clear HR
          go_wp2_with fail
          go_roundg (168 - (t + 1))
          case rel => exact ⟨t + 1, by omega, rfl, by rw [HR2.out]; go_num, by go_num, HQ3'⟩
          case measure => have := HGK.out; omega
    · obtain rfl : t = 168 := by omega
      rw [cS_all] at HQ
      have hr2 := HQ.out.2.2.1
      have hr1 := HQ.out.2.1
      have HP := Lib.hid HQ.out.1
      unfold LM at hr2
      have hi2 : (Tryz.prog.info? 176).map (·.size) = some (arr .u64 24 rcF).size := by rw [arr_size]; kernel_rfl
      have hs2 : (arr .u64 24 fun _ => 0).size = (arr .u64 24 rcF).size := by rw [arr_size, arr_size]
      have ho2 := arr_one .u64 24 rcF
      have he : (arr .u64 24 fun i => (rcs.getD i 0 : Nat)) = arr .u64 24 rcF := rfl
      rw [he] at hr2
      clear he HQ
      generalize hcc : arr .u64 24 rcF = c2 at *
      have HCC := Lib.hid hcc
      clear hcc
      generalize arr .u64 24 (fun _ => 0) = c1 at *
      go_wp2_with (first | (refine wpList_load_row rfl 176 _ rfl (g + 1) rfl _ _ (0, 0) _ hr2 Tryz.underlying176 rfl hi2 ?_) | (refine wpList_store_row rfl 176 _ _ rfl g _ rfl rfl _ _ hr1 hi2 hs2 ho2 ?_))
      refine bodyPost_ret (results_cell_row rfl _ _ g _ c2 (0, 0) _ rfl (setRow_heap wr g c1 c2 _ _ hr1) Tryz.underlying176 rfl hi2) rfl ?_
      exact ⟨by rw [HCC.out], below_setRow HP.out (by omega) _⟩

end Go.Proofs.YthbnaoifiggdnaaGreatDoor

namespace Go.Proofs.YthbnaoifiggdnaaGreatDoor
open Go.RowKit

structure OSt where
  x : Nat
  y : Nat
  sum : Nat
  out : List Nat
def ostep (s : OSt) (t : Nat) : OSt := ⟨s.y, (2 * s.x + 3 * s.y) % 5, s.sum + (t + 1), s.out.set (s.x * 5 + s.y) ((s.sum + (t + 1)) % 64)⟩
def oS (n : Nat) : OSt := (List.range n).foldl ostep ⟨1, 0, 0, List.replicate 25 0⟩
theorem oS_succ (n : Nat) : oS (n + 1) = ostep (oS n) n := by simp [oS, List.range_succ]
theorem oS_ok : ∀ t : Fin 24, (oS t.val).x < 5 ∧ (oS t.val).y < 5 ∧ (oS t.val).sum < 1000 ∧ (oS t.val).out.length = 25 := by decide +kernel
def offs : List Nat := [0, 36, 3, 41, 18, 1, 44, 10, 45, 2, 62, 6, 43, 15, 61, 28, 55, 25, 21, 56, 27, 20, 39, 8, 14]
theorem oS_all : (oS 24).out = offs := by decide +kernel
def offF (i : Nat) : Int := (offs.getD i 0 : Nat)
theorem arr_izero25 : (#[Value.int IntKind.i64 0, .int .i64 0, .int .i64 0, .int .i64 0, .int .i64 0, .int .i64 0, .int .i64 0, .int .i64 0, .int .i64 0, .int .i64 0, .int .i64 0, .int .i64 0, .int .i64 0, .int .i64 0, .int .i64 0, .int .i64 0, .int .i64 0, .int .i64 0, .int .i64 0, .int .i64 0, .int .i64 0, .int .i64 0, .int .i64 0, .int .i64 0, .int .i64 0] : Array Value) = arr .i64 25 fun _ => 0 := rfl

def OW (w wx : World) (g : Nat) (s : List Nat) : Prop :=
  Past w wx ∧ Row wx g 179 (arr .i64 25 fun _ => 0) ∧ LM .i64 wx (g + 1) 179 25 (fun i => (s.getD i 0 : Nat))
theorem OW.new (w : World) : OW w ((w.alloc (.cells (arr .i64 25 fun _ => 0) 179)).alloc (.cells (arr .i64 25 fun _ => 0) 179)) w.heap.size (oS 0).out := by
  refine ⟨((Below.refl _ _).alloc (Nat.le_refl _) _).alloc (by simp) _, (Row.new w _ _).alloc _, ?_⟩
  have e : arr .i64 25 (fun _ => 0) = arr .i64 25 fun i => ((oS 0).out.getD i 0 : Nat) := by rfl
  have := Row.new (w.alloc (.cells (arr .i64 25 fun _ => 0) 179)) 179 (arr .i64 25 fun _ => 0)
  unfold LM
  rw [← e]
  simpa using this
theorem OW.put {w wx : World} {g : Nat} {s : List Nat} (h : OW w wx g s) (hg : w.heap.size ≤ g) (i : Nat) (hi : i < 25) (hs : s.length = 25) (v : Nat) : OW w (wx.setCell ⟨g + 1, i, none⟩ (.int .i64 (v : Int))) g (s.set i v) :=
  ⟨h.1.set (by show _ ≤ g + 1; omega) _, h.2.1.setOther (by omega) _ _, (h.2.2.put i hi v).same fun j hj => by
    by_cases e : j = i
    · subst e
      rw [upd_at, List.getD_eq_getElem?_getD, List.getElem?_set_self (by omega)]
      rfl
    · rw [upd_ne _ _ e, List.getD_eq_getElem?_getD, List.getD_eq_getElem?_getD, List.getElem?_set_ne (by omega)]⟩
theorem OW.drewN {w wx : World} {g : Nat} {s : List Nat} (h : OW w wx g s) (m : Nat) : OW w (wx.drewN m) g s := ⟨h.1.drewN m, h.2.1, h.2.2⟩

set_option maxHeartbeats 1000000 in
set_option maxRecDepth 100000 in
theorem offsets_any (w : World) : Calls Tryz.prog 98 #[] w fun e w' => e = .returned (.agg (arr .i64 25 offF)) ∧ Past w w' := by
  have H0 := Lib.hid (OW.new w)
  go_enter Tryz.func98, Tryz.ntmps98
  go_wp2_with fail
  rw [arr_izero25]
  generalize (w.alloc (.cells (arr .i64 25 fun _ => 0) 179)).alloc (.cells (arr .i64 25 fun _ => 0) 179) = w3 at *
  obtain ⟨g, hg⟩ : ∃ g, w.heap.size = g := ⟨_, rfl⟩
  have hge : w.heap.size ≤ g := by omega
  rw [hg] at H0 ⊢
  clear hg
  go_loopg [2, 3, 4, 5] 24 (fun k s2 s3 s4 s5 wx => ∃ t : Nat, t ≤ 24 ∧ k = 24 - t ∧ s2 = .int .i64 ((oS t).x : Int) ∧ s3 = .int .i64 ((oS t).y : Int) ∧ s4 = .int .i64 ((oS t).sum : Int) ∧ s5 = .int .i64 ((t : Int) + 1) ∧ Hid (OW w wx g (oS t).out))
  case atStart => exact ⟨0, Nat.zero_le _, rfl, rfl, rfl, rfl, rfl, H0⟩
  case round =>
    clear H0
    obtain ⟨t, ht, hgk, rfl, rfl, rfl, rfl, HQ⟩ := hrel
    have HGK := Lib.hid hgk
    clear hgk
    by_cases hlt : t < 24
    · obtain ⟨k1, k2, k3, k4⟩ := oS_ok ⟨t, hlt⟩
      have HS := Lib.hid (oS_succ t)
      generalize hsv : oS t = sv at *
      clear hsv
      obtain ⟨x, y, sum, s⟩ := sv
      simp only at k1 k2 k3 k4 HQ ⊢
      have hc1 := HQ.out.2.2.at (x * 5 + y) (by omega)
      have hf1 := HQ.out.2.2.fr (x * 5 + y)
      have HQ2 : Hid (OW w (wr.setCell ⟨g + 1, x * 5 + y, none⟩ (.int .i64 (((sum + (t + 1)) % 64 : Nat) : Int))) g (oS (t + 1)).out) := by
        rw [HS.out]
        exact HQ.out.put hge (x * 5 + y) (by omega) k4 _
      have hcast : (((sum + (t + 1)) % 64 : Nat) : Int) = ((sum : Int) + ((t : Int) + 1)) % 64 := by omega
      rw [hcast] at HQ2
      have HX : Hid ((oS (t + 1)).x = y ∧ (oS (t + 1)).y = (2 * x + 3 * y) % 5 ∧ (oS (t + 1)).sum = sum + (t + 1)) := by
        rw [HS.out]
        exact ⟨rfl, rfl, rfl⟩
      clear hcast HQ HS k4
      go_wp2_with fail
      go_roundg (24 - (t + 1))
      case rel => exact ⟨t + 1, by omega, rfl, by rw [HX.out.1], by rw [HX.out.2.1]; congr 1, by rw [HX.out.2.2]; congr 1, by first | go_num | (congr 1; omega), HQ2⟩
      case measure => have := HGK.out; omega
    · obtain rfl : t = 24 := by omega
      rw [oS_all] at HQ
      have hr2 := HQ.out.2.2
      have hr1 := HQ.out.2.1
      have HP := Lib.hid HQ.out.1
      unfold LM at hr2
      have hi2 : (Tryz.prog.info? 179).map (·.size) = some (arr .i64 25 offF).size := by rw [arr_size]; kernel_rfl
      have hs2 : (arr .i64 25 fun _ => 0).size = (arr .i64 25 offF).size := by rw [arr_size, arr_size]
      have ho2 := arr_one .i64 25 offF
      have he : (arr .i64 25 fun i => (offs.getD i 0 : Nat)) = arr .i64 25 offF := rfl
      rw [he] at hr2
      clear he HQ
      generalize hcc : arr .i64 25 offF = c2 at *
      have HCC := Lib.hid hcc
      clear hcc
      generalize arr .i64 25 (fun _ => 0) = c1 at *
      go_wp2_with (first | (refine wpList_load_row rfl 179 _ rfl (g + 1) rfl _ _ (0, 0) _ hr2 Tryz.underlying179 rfl hi2 ?_) | (refine wpList_store_row rfl 179 _ _ rfl g _ rfl rfl _ _ hr1 hi2 hs2 ho2 ?_))
      refine bodyPost_ret (results_cell_row rfl _ _ g _ c2 (0, 0) _ rfl (setRow_heap wr g c1 c2 _ _ hr1) Tryz.underlying179 rfl hi2) rfl ?_
      exact ⟨by rw [HCC.out], below_setRow HP.out (by omega) _⟩

end Go.Proofs.YthbnaoifiggdnaaGreatDoor

namespace Go.Proofs.YthbnaoifiggdnaaGreatDoor
open Go.RowKit

theorem arr_zero5 : (#[Value.int IntKind.u64 0, .int .u64 0, .int .u64 0, .int .u64 0, .int .u64 0] : Array Value) = arr .u64 5 fun _ => 0 := rfl

/-- Lanes by the place x * 5 + y. The parity of the first n lanes with one x. -/
def cP (A : Nat → Lane) (x : Nat) : Nat → Lane
  | 0 => 0
  | n + 1 => cP A x n ^^^ A (x * 5 + n)
def cC (A : Nat → Lane) (x : Nat) : Lane := cP A x 5
def th (A : Nat → Lane) (i : Nat) : Lane := A i ^^^ cC A ((i / 5 + 4) % 5) ^^^ rotN (cC A ((i / 5 + 1) % 5)) 1
def srcI (j : Nat) : Nat := ((3 * (j % 5) + j / 5) % 5) * 5 + j / 5
def dstI (i : Nat) : Nat := (i % 5) * 5 + (2 * (i / 5) + 3 * (i % 5)) % 5
theorem src_dst : ∀ i : Fin 25, srcI (dstI i.val) = i.val ∧ dstI i.val < 25 := by decide +kernel
theorem dst_src : ∀ j : Fin 25, dstI (srcI j.val) = j.val ∧ srcI j.val < 25 := by decide +kernel
def rho (A : Nat → Lane) (r : Nat → Nat) (j : Nat) : Lane := rotN (A (srcI j)) (r (srcI j))
def chi (B : Nat → Lane) (i : Nat) : Lane := B i ^^^ (~~~ B ((i / 5 + 1) % 5 * 5 + i % 5) &&& B ((i / 5 + 2) % 5 * 5 + i % 5))
def iota (A : Nat → Lane) (rc : Lane) (i : Nat) : Lane := if i = 0 then A 0 ^^^ rc else A i
/-- A round. -/
def kround (A : Nat → Lane) (rc : Lane) (r : Nat → Nat) : Nat → Lane := iota (chi (rho (th A) r)) rc

/-- The blocks of a round: the lanes, the offsets, the result, the parities. -/
def RW (w wx : World) (g : Nat) (fa R fc : Nat → Int) : Prop :=
  Past w wx ∧ LM .u64 wx g 150 25 fa ∧ LM .i64 wx (g + 1) 179 25 R ∧ Row wx (g + 1 + 1) 150 (arr .u64 25 fun _ => 0) ∧ LM .u64 wx (g + 1 + 1 + 1) 148 5 fc
section
variable {w wx wy : World} {g : Nat} {fa R fc : Nat → Int}
theorem RW.new (w : World) (fa R : Nat → Int) : RW w ((((w.alloc (.cells (arr .u64 25 fa) 150)).alloc (.cells (arr .i64 25 R) 179)).alloc (.cells (arr .u64 25 fun _ => 0) 150)).alloc (.cells (arr .u64 5 fun _ => 0) 148)) w.heap.size fa R fun _ => 0 := by
  refine ⟨((((Below.refl _ _).alloc (Nat.le_refl _) _).alloc (by simp) _).alloc (by simp; omega) _).alloc (by simp; omega) _, (((Row.new w _ _).alloc _).alloc _).alloc _, ?_, ?_, ?_⟩
  · have := ((Row.new (w.alloc (.cells (arr .u64 25 fa) 150)) 179 (arr .i64 25 R)).alloc (.cells (arr .u64 25 fun _ => 0) 150)).alloc (.cells (arr .u64 5 fun _ => 0) 148)
    simpa using this
  · have := (Row.new ((w.alloc (.cells (arr .u64 25 fa) 150)).alloc (.cells (arr .i64 25 R) 179)) 150 (arr .u64 25 fun _ => 0)).alloc (.cells (arr .u64 5 fun _ => 0) 148)
    simpa using this
  · have := Row.new (((w.alloc (.cells (arr .u64 25 fa) 150)).alloc (.cells (arr .i64 25 R) 179)).alloc (.cells (arr .u64 25 fun _ => 0) 150)) 148 (arr .u64 5 fun _ => 0)
    simpa using this
theorem RW.putC (h : RW w wx g fa R fc) (hg : w.heap.size ≤ g) (i : Nat) (hi : i < 5) (v : Int) : RW w (wx.setCell ⟨g + 1 + 1 + 1, i, none⟩ (.int .u64 v)) g fa R (upd fc i v) :=
  ⟨h.1.set (by show _ ≤ g + 1 + 1 + 1; omega) _, h.2.1.setOther (by omega) _ _, h.2.2.1.setOther (by omega) _ _, h.2.2.2.1.setOther (by omega) _ _, h.2.2.2.2.put i hi v⟩
theorem RW.putA (h : RW w wx g fa R fc) (hg : w.heap.size ≤ g) (i : Nat) (hi : i < 25) (v : Int) : RW w (wx.setCell ⟨g, i, none⟩ (.int .u64 v)) g (upd fa i v) R fc :=
  ⟨h.1.set hg _, h.2.1.put i hi v, h.2.2.1.setOther (by omega) _ _, h.2.2.2.1.setOther (by omega) _ _, h.2.2.2.2.setOther (by omega) _ _⟩
theorem RW.far (h : RW w wx g fa R fc) (hg : w.heap.size ≤ g) {b : Nat} (hb : g + 1 + 1 + 1 < b) (o : Nat) (v : Value) : RW w (wx.setCell ⟨b, o, none⟩ v) g fa R fc :=
  ⟨h.1.set (by show _ ≤ b; omega) _, h.2.1.setOther (by omega) _ _, h.2.2.1.setOther (by omega) _ _, h.2.2.2.1.setOther (by omega) _ _, h.2.2.2.2.setOther (by omega) _ _⟩
theorem RW.alloc (h : RW w wx g fa R fc) (o : Obj) : RW w (wx.alloc o) g fa R fc := ⟨h.1.alloc h.1.size _, Row.alloc h.2.1 _, Row.alloc h.2.2.1 _, h.2.2.2.1.alloc _, Row.alloc h.2.2.2.2 _⟩
theorem RW.drewN (h : RW w wx g fa R fc) (m : Nat) : RW w (wx.drewN m) g fa R fc := ⟨h.1.drewN m, h.2⟩
theorem RW.same {fa' fc' : Nat → Int} (h : RW w wx g fa R fc) (ha : ∀ i, i < 25 → fa i = fa' i) (hc : ∀ i, i < 5 → fc i = fc' i) : RW w wx g fa' R fc' := ⟨h.1, h.2.1.same ha, h.2.2.1, h.2.2.2.1, h.2.2.2.2.same hc⟩
end

/-- What the first double loop has made of the parities at x, y. -/
def fcP (A : Nat → Lane) (x y : Nat) (i : Nat) : Int := ln (cP A i (if i < x then 5 else if i = x then y else 0))
theorem fcP_zero (A : Nat → Lane) : fcP A 0 0 = fun _ => 0 := by
  funext i
  unfold fcP
  have : (if i < 0 then 5 else if i = 0 then 0 else 0) = 0 := by split <;> (try split) <;> first | rfl | omega
  rw [this]
  rfl
theorem fcP_next (A : Nat → Lane) (x i : Nat) : fcP A x 5 i = fcP A (x + 1) 0 i := by
  unfold fcP
  congr 2
  split <;> (try split) <;> (try split) <;> (try split) <;> first | rfl | omega
theorem fcP_put (A : Nat → Lane) (x y i : Nat) : upd (fcP A x y) x (ln (cP A x (y + 1))) i = fcP A x (y + 1) i := by
  by_cases e : i = x
  · subst e
    rw [upd_at]
    unfold fcP
    simp
  · rw [upd_ne _ _ e]
    unfold fcP
    rw [if_neg e, if_neg e]
theorem fcP_at (A : Nat → Lane) (x y : Nat) : fcP A x y x = ln (cP A x y) := by
  unfold fcP
  simp
/-- What the second double loop has made of the lanes. -/
def faP (A : Nat → Lane) (k : Nat) (i : Nat) : Int := if i < k then ln (th A i) else ln (A i)
theorem faP_put (A : Nat → Lane) (k i : Nat) : upd (faP A k) k (ln (th A k)) i = faP A (k + 1) i := by
  by_cases e : i = k
  · subst e
    rw [upd_at]
    unfold faP
    rw [if_pos (by omega)]
  · rw [upd_ne _ _ e]
    unfold faP
    by_cases h : i < k
    · rw [if_pos h, if_pos (by omega)]
    · rw [if_neg h, if_neg (by omega)]
def fbP (A : Nat → Lane) (r : Nat → Nat) (k : Nat) (j : Nat) : Int := if srcI j < k then ln (rho (th A) r j) else 0
theorem fbP_put (A : Nat → Lane) (r : Nat → Nat) (k j : Nat) (hk : k < 25) (hj : j < 25) : upd (fbP A r k) (dstI k) (ln (rotN (th A k) (r k))) j = fbP A r (k + 1) j := by
  have h1 := src_dst ⟨k, hk⟩
  have h2 := dst_src ⟨j, hj⟩
  simp only at h1 h2
  by_cases e : j = dstI k
  · subst e
    rw [upd_at]
    unfold fbP rho
    rw [h1.1, if_pos (by omega)]
  · rw [upd_ne _ _ e]
    have hne : srcI j ≠ k := fun h => e (by rw [← h, h2.1])
    unfold fbP
    by_cases h : srcI j < k
    · rw [if_pos h, if_pos (by omega)]
    · rw [if_neg h, if_neg (by omega)]

end Go.Proofs.YthbnaoifiggdnaaGreatDoor
