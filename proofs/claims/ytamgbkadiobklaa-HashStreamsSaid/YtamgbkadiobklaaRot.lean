/- math/bits.RotateLeft64 by a number from 0 to 63: the contract. -/
import Derived.Test.YtamgbkadiobklaaFlat
import Derived.Laws.BitsLemmas
import Derived.Lib.EndianBits
namespace Go.Proofs.Ytamgbkadiobklaa
open Go.RowKit

theorem shl_ln (x : Lane) (k : Nat) : IntKind.u64.wrap (ln x * 2 ^ k) = ln (x <<< k) := by
  rw [IntKind.wrap_u64]
  unfold ln
  rw [BitVec.toNat_shiftLeft, Nat.shiftLeft_eq]
  have e : ((x.toNat * 2 ^ k : Nat) : Int) = (x.toNat : Int) * 2 ^ k := by rw [Int.natCast_mul, Int.natCast_pow]; rfl
  rw [← e]
  omega
theorem shr_ln (x : Lane) (k : Nat) : ln x / 2 ^ k = ln (x >>> k) := by
  unfold ln
  rw [BitVec.toNat_ushiftRight, Nat.shiftRight_eq_div_pow]
  have e : ((2 ^ k : Nat) : Int) = 2 ^ k := Int.natCast_pow 2 k
  rw [← e]
  omega
theorem rot_ln (x : Lane) (k m : Nat) (hk : k + m = 64) (hm : 0 < m) : bits .or .u64 (IntKind.u64.wrap (ln x * 2 ^ k)) (ln x / 2 ^ m) = ln (rotN x k) := by
  rw [shl_ln, shr_ln, or_ln, rotN_left x k (by omega)]
  congr 1
  rw [BitVec.rotateLeft_def, Nat.mod_eq_of_lt (show k < 64 by omega), show 64 - k = m by omega]

theorem rotl_any (x : Lane) (k : Nat) (hk : k < 64) (w : World) :
    Calls Try.prog 51 #[.int .u64 (ln x), .int .i64 (k : Int)] w fun e w' => e = .returned (.int .u64 (ln (rotN x k))) ∧ w = w' := by
  have hr := ln_rng x
  obtain ⟨m, hm⟩ : ∃ m, 64 - k = m := ⟨_, rfl⟩
  have hmi : (64 : Int) - (k : Int) = (m : Int) := by omega
  have ha : bits .and .u64 (k : Int) 63 = (k : Int) := by
    have h := bits_mask .u64 64 (by decide) wraps_u64 6 (by decide) (k : Int) (by omega) (by omega)
    have e : ((2 : Int) ^ 6 - 1) = 63 := by decide
    rw [e] at h
    rw [h]
    omega
  have hk0 : (0 : Int) ≤ (k : Int) := by omega
  have hk1 : (k : Int) < 64 := by omega
  have hR := Lib.hid (rot_ln x k m (by omega) (by omega))
  generalize ln x = y at *
  go_enter Try.func51, Try.ntmps51
  go_wp2
  go_ret
  exact ⟨congrArg (fun z => Ending.returned (Value.int .u64 z)) hR.out, rfl⟩

end Go.Proofs.Ytamgbkadiobklaa
