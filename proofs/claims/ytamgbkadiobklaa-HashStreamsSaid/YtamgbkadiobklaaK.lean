/- Plain facts about lanes: rotation, and what the operations on 64 bits are in numbers. -/
import Derived.Test.YtamgbkadiobklaaRef6A
namespace Go.Proofs.Ytamgbkadiobklaa
open Go.RowKit

abbrev Lane := BitVec 64
def ln (x : Lane) : Int := (x.toNat : Int)
theorem ln_rng (x : Lane) : 0 ≤ ln x ∧ ln x < 18446744073709551616 := by
  have := x.isLt
  unfold ln
  omega
theorem ln_inj {x y : Lane} (h : ln x = ln y) : x = y := BitVec.eq_of_toNat_eq (by unfold ln at h; omega)
theorem xor_ln (x y : Lane) : bits .xor .u64 (ln x) (ln y) = ln (x ^^^ y) := by
  unfold ln
  rw [u64_xor_nat _ _ x.isLt y.isLt, BitVec.toNat_xor]
theorem and_ln (x y : Lane) : bits .and .u64 (ln x) (ln y) = ln (x &&& y) := by
  unfold ln
  rw [u64_and_nat _ _ x.isLt y.isLt, BitVec.toNat_and]
theorem or_ln (x y : Lane) : bits .or .u64 (ln x) (ln y) = ln (x ||| y) := by
  unfold ln
  rw [u64_or_nat _ _ x.isLt y.isLt, BitVec.toNat_or]
def rot1 (x : Lane) : Lane := (x <<< (1 : Nat)) ||| (x >>> (63 : Nat))
theorem shl1_ln (x : Lane) : (ln x * (2 : Int) % (18446744073709551616 : Int) : Int) = ln (x <<< (1 : Nat)) := by
  unfold ln
  rw [BitVec.toNat_shiftLeft, Nat.shiftLeft_eq]
  omega
theorem shr63_ln (x : Lane) : (ln x / (9223372036854775808 : Int) : Int) = ln (x >>> (63 : Nat)) := by
  unfold ln
  rw [BitVec.toNat_ushiftRight, Nat.shiftRight_eq_div_pow]
  omega
theorem rot1_ln (x : Lane) : bits .or .u64 (IntKind.u64.wrap (ln x * (2 : Int))) (ln x / (9223372036854775808 : Int)) = ln (rot1 x) := by
  rw [IntKind.wrap_u64, shl1_ln, shr63_ln, or_ln]
  rfl
def rotN (x : Lane) : Nat → Lane
  | 0 => x
  | n + 1 => rot1 (rotN x n)
theorem rot1_bit (x : Lane) (i : Nat) (h : i < 64) : (rot1 x).getLsbD i = x.getLsbD ((i + 63) % 64) := by
  unfold rot1
  rw [BitVec.getLsbD_or, BitVec.getLsbD_shiftLeft, BitVec.getLsbD_ushiftRight]
  by_cases h0 : i = 0
  · subst h0
    simp
  · have e : (i + 63) % 64 = i - 1 := by omega
    rw [e]
    have h1 : x.getLsbD (63 + i) = false := BitVec.getLsbD_of_ge x _ (by omega)
    simp [h, h1]
    intro h2
    omega
theorem rotN_bit (x : Lane) (n i : Nat) (h : i < 64) : (rotN x n).getLsbD i = x.getLsbD ((i + 63 * n) % 64) := by
  induction n generalizing i with
  | zero => rw [rotN, Nat.mul_zero, Nat.add_zero, Nat.mod_eq_of_lt h]
  | succ n ih =>
    rw [rotN, rot1_bit _ _ h, ih _ (Nat.mod_lt _ (by decide))]
    congr 1
    omega
theorem lane_ext {x y : Lane} (h : ∀ i, i < 64 → x.getLsbD i = y.getLsbD i) : x = y := BitVec.eq_of_getLsbD_eq h
theorem rotN_xor (x y : Lane) (n : Nat) : rotN (x ^^^ y) n = rotN x n ^^^ rotN y n := lane_ext fun i h => by
  rw [BitVec.getLsbD_xor, rotN_bit _ _ _ h, rotN_bit _ _ _ h, rotN_bit _ _ _ h, BitVec.getLsbD_xor]
theorem rotN_rotN (x : Lane) (n m : Nat) : rotN (rotN x n) m = rotN x (n + m) := lane_ext fun i h => by
  rw [rotN_bit _ _ _ h, rotN_bit _ _ _ (Nat.mod_lt _ (by decide)), rotN_bit _ _ _ h]
  congr 1
  omega
theorem rotN_64 (x : Lane) : rotN x 64 = x := lane_ext fun i h => by
  rw [rotN_bit _ _ _ h]
  congr 1
  omega
theorem rotN_inj {x y : Lane} {n : Nat} (h : rotN x n = rotN y n) : x = y := by
  have e : ∀ z : Lane, rotN (rotN z n) (63 * n) = z := fun z => lane_ext fun i hi => by
    rw [rotN_rotN, rotN_bit _ _ _ hi]
    congr 1
    omega
  rw [← e x, h, e y]
theorem rotN_left (x : Lane) (n : Nat) (h : n < 64) : rotN x n = x.rotateLeft n := lane_ext fun i hi => by
  rw [rotN_bit _ _ _ hi, BitVec.getLsbD_rotateLeft]
  rw [Nat.mod_eq_of_lt h]
  by_cases h2 : i < n
  · rw [decide_eq_true h2, cond_true]
    congr 1
    omega
  · rw [decide_eq_false h2, cond_false, decide_eq_true hi, Bool.true_and]
    congr 1
    omega

theorem rotate_any (x : Lane) (n : Nat) (w : World) (hn : n ≤ 1000) :
    Calls Try.prog 50 #[.int .u64 (ln x), .int .i64 (n : Int)] w fun e w' => e = .returned (.int .u64 (ln (rotN x n))) ∧ w = w' := by
  go_enter Try.func50, Try.ntmps50
  go_wp2
  go_loopg [0, 5] n (fun k s0 s5 wx => ∃ i : Nat, i ≤ n ∧ k = n - i ∧ s0 = .int .u64 (ln (rotN x i)) ∧ s5 = .int .i64 (i : Int) ∧ Hid (wx = w))
  case atStart => exact ⟨0, Nat.zero_le _, rfl, rfl, rfl, rfl⟩
  case round =>
    obtain ⟨i, hi, hgk, rfl, rfl, hw⟩ := hrel
    obtain rfl := hw.out
    have HGK := Lib.hid hgk
    clear hw hgk
    by_cases hlt : i < n
    · have HR := Lib.hid (rot1_ln (rotN x i))
      have HS : Hid (rotN x (i + 1) = rot1 (rotN x i)) := rfl
      have hr := ln_rng (rotN x i)
      obtain ⟨hr0, hr1⟩ := hr
      generalize rotN x i = y at *
      generalize ln y = v at *
      go_wp2_with fail
      go_roundg (n - (i + 1))
      case rel => exact ⟨i + 1, by omega, rfl, by rw [HS.out, ← HR.out], by go_num, rfl⟩
      case measure => have := HGK.out; omega
    · obtain rfl : i = n := by omega
      go_wp2
      go_ret
      exact ⟨rfl, rfl⟩

end Go.Proofs.Ytamgbkadiobklaa
