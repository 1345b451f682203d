/- The reference's Root. -/
import Derived.Test.YtngbmaojgfocgaaArr
import Derived.Test.YtngbmaojgfocgaaK17D
import Derived.Deep.LoopGhost
namespace Go.Proofs.Ytngbmaojgfocgaa.dr
open Go.RowKit
set_option linter.unusedVariables false

/-- The k lowest bits of i in reverse order. -/
def rvp (i : Nat) : Nat → Nat
  | 0 => 0
  | k + 1 => 2 * rvp i k + i / 2 ^ k % 2
theorem rvp_lt (i k : Nat) : rvp i k < 2 ^ k := by
  induction k with
  | zero => exact Nat.one_pos
  | succ k ih => rw [rvp, Nat.pow_succ]; omega
theorem rvp_8 (i : Nat) : rvp i 8 = rv8 i := by
  simp only [rvp, rv8, Nat.pow_zero, Nat.div_one, Nat.pow_one, Nat.reducePow]
  generalize i % 2 = a
  generalize i / 2 % 2 = b
  generalize i / 4 % 2 = c
  generalize i / 8 % 2 = d
  generalize i / 16 % 2 = e
  generalize i / 32 % 2 = f
  generalize i / 64 % 2 = g
  generalize i / 128 % 2 = h
  omega
set_option maxHeartbeats 4000000 in
theorem rroot_any (i : Nat) (hi : i < 256) (w : World) : Calls Try.prog 23 #[.int .i64 (i : Int)] w fun e w' => e = .returned (.int .i64 (rt i)) ∧ w' = w := by
  have hi0 : (0 : Int) ≤ (i : Int) := by omega
  have hi1 : (i : Int) < 256 := by omega
  have HI := Lib.hid hi
  clear hi
  go_enter Try.func23, Try.ntmps23
  go_wp2_with fail
  go_loopg [3, 4] 8 (fun q s3 s4 wx => ∃ k r : Nat, k ≤ 8 ∧ q = 8 - k ∧ s3 = .int .i64 (r : Int) ∧ s4 = .int .i64 (k : Int) ∧ Hid (r = rvp i k ∧ wx = w))
  case atStart => exact ⟨0, 0, by omega, rfl, rfl, rfl, Lib.hid ⟨rfl, rfl⟩⟩
  case round =>
    obtain ⟨k, r, hk, hq, rfl, rfl, HR⟩ := hrel
    have HQ := Lib.hid hq
    clear hq
    have hr : r < 256 := by
      have h1 := rvp_lt i k
      have h2 : 2 ^ k ≤ 2 ^ 8 := Nat.pow_le_pow_right (by decide) hk
      have := HR.out.1
      omega
    have hr0 : (0 : Int) ≤ (r : Int) := by omega
    have hr1 : (r : Int) < 256 := by omega
    clear hr
    by_cases hlt : k < 8
    · have HS : Hid (rvp i (k + 1) = 2 * r + i / 2 ^ k % 2) := Lib.hid (by rw [rvp, HR.out.1])
      have : k = 0 ∨ k = 1 ∨ k = 2 ∨ k = 3 ∨ k = 4 ∨ k = 5 ∨ k = 6 ∨ k = 7 := by omega
      clear hk hlt
      rcases this with rfl | rfl | rfl | rfl | rfl | rfl | rfl | rfl
      · have hs : Hid (rvp i 1 = 2 * r + i / 1 % 2) := Lib.hid HS.out
        have HW := Lib.hid HR.out.2
        clear HR HS
        go_wp2_with fail
        go_roundg (8 - 1)
        case rel => exact ⟨1, 2 * r + i / 1 % 2, by decide, rfl, by first | rfl | (congr 1; omega), rfl, Lib.hid ⟨hs.out.symm, HW.out⟩⟩
        case measure => have := HQ.out; omega
      · have hs : Hid (rvp i 2 = 2 * r + i / 2 % 2) := Lib.hid HS.out
        have HW := Lib.hid HR.out.2
        clear HR HS
        go_wp2_with fail
        go_roundg (8 - 2)
        case rel => exact ⟨2, 2 * r + i / 2 % 2, by decide, rfl, by first | rfl | (congr 1; omega), rfl, Lib.hid ⟨hs.out.symm, HW.out⟩⟩
        case measure => have := HQ.out; omega
      · have hs : Hid (rvp i 3 = 2 * r + i / 4 % 2) := Lib.hid HS.out
        have HW := Lib.hid HR.out.2
        clear HR HS
        go_wp2_with fail
        go_roundg (8 - 3)
        case rel => exact ⟨3, 2 * r + i / 4 % 2, by decide, rfl, by first | rfl | (congr 1; omega), rfl, Lib.hid ⟨hs.out.symm, HW.out⟩⟩
        case measure => have := HQ.out; omega
      · have hs : Hid (rvp i 4 = 2 * r + i / 8 % 2) := Lib.hid HS.out
        have HW := Lib.hid HR.out.2
        clear HR HS
        go_wp2_with fail
        go_roundg (8 - 4)
        case rel => exact ⟨4, 2 * r + i / 8 % 2, by decide, rfl, by first | rfl | (congr 1; omega), rfl, Lib.hid ⟨hs.out.symm, HW.out⟩⟩
        case measure => have := HQ.out; omega
      · have hs : Hid (rvp i 5 = 2 * r + i / 16 % 2) := Lib.hid HS.out
        have HW := Lib.hid HR.out.2
        clear HR HS
        go_wp2_with fail
        go_roundg (8 - 5)
        case rel => exact ⟨5, 2 * r + i / 16 % 2, by decide, rfl, by first | rfl | (congr 1; omega), rfl, Lib.hid ⟨hs.out.symm, HW.out⟩⟩
        case measure => have := HQ.out; omega
      · have hs : Hid (rvp i 6 = 2 * r + i / 32 % 2) := Lib.hid HS.out
        have HW := Lib.hid HR.out.2
        clear HR HS
        go_wp2_with fail
        go_roundg (8 - 6)
        case rel => exact ⟨6, 2 * r + i / 32 % 2, by decide, rfl, by first | rfl | (congr 1; omega), rfl, Lib.hid ⟨hs.out.symm, HW.out⟩⟩
        case measure => have := HQ.out; omega
      · have hs : Hid (rvp i 7 = 2 * r + i / 64 % 2) := Lib.hid HS.out
        have HW := Lib.hid HR.out.2
        clear HR HS
        go_wp2_with fail
        go_roundg (8 - 7)
        case rel => exact ⟨7, 2 * r + i / 64 % 2, by decide, rfl, by first | rfl | (congr 1; omega), rfl, Lib.hid ⟨hs.out.symm, HW.out⟩⟩
        case measure => have := HQ.out; omega
      · have hs : Hid (rvp i 8 = 2 * r + i / 128 % 2) := Lib.hid HS.out
        have HW := Lib.hid HR.out.2
        clear HR HS
        go_wp2_with fail
        go_roundg (8 - 8)
        case rel => exact ⟨8, 2 * r + i / 128 % 2, by decide, rfl, by first | rfl | (congr 1; omega), rfl, Lib.hid ⟨hs.out.symm, HW.out⟩⟩
        case measure => have := HQ.out; omega
    · obtain rfl : k = 8 := by omega
      obtain ⟨hr7, rfl⟩ := HR.out
      have HRV : Hid (r = rv8 i) := Lib.hid (by rw [hr7, rvp_8])
      clear hk hlt HR hr7 HI hi0 hi1
      have hw2 : IntKind.i64.wrap (2 * (r : Int)) = 2 * (r : Int) := by rw [IntKind.wrap_i64]; omega
      obtain ⟨m, hm⟩ : ∃ m : Nat, 2 * r + 1 = m := ⟨_, rfl⟩
      have HM := Lib.hid hm
      have hmI : 2 * (r : Int) + 1 = (m : Int) := by omega
      have hw3 : IntKind.i64.wrap (2 * (r : Int) + 1) = (m : Int) := by rw [IntKind.wrap_i64]; omega
      have hm1 : (m : Int) ≤ 512 := by omega
      clear hm
      go_wp2_with fail
      go_loopg [5, 6] m (fun q s5 s6 wx => ∃ (j : Nat) (z : Int), j ≤ m ∧ q = m - j ∧ s5 = .int .i64 z ∧ s6 = .int .i64 (j : Int) ∧ 0 ≤ z ∧ z < 8380417 ∧ Hid (z = pw j ∧ wx = wr))
      case atStart => exact ⟨0, 1, by omega, rfl, rfl, rfl, by decide, by decide, Lib.hid ⟨by decide +kernel, rfl⟩⟩
      case round =>
        rename_i wr0
        obtain ⟨j, z, hj, hq, rfl, rfl, hz0, hz1, HZ⟩ := hrel
        have HQ := Lib.hid hq
        clear hq
        have hj0 : (0 : Int) ≤ (j : Int) := by omega
        by_cases hlt : j < m
        · have hji : (j : Int) < (m : Int) := by omega
          have hzz : IntKind.i64.wrap (z * 1753) = z * 1753 := by rw [IntKind.wrap_i64]; omega
          have HLT := Lib.hid hlt
          obtain ⟨y, hy⟩ : ∃ y, (z * 1753).tmod 8380417 = y := ⟨_, rfl⟩
          have HY : Hid (y = pw (j + 1) ∧ 0 ≤ y ∧ y < 8380417) := Lib.hid (by
            rw [Int.tmod_eq_emod_of_nonneg (by omega)] at hy
            rw [pw_succ, ← HZ.out.1, ← hy]
            omega)
          have hy2 : z * 1753 % 8380417 = y := by rw [← hy, Int.tmod_eq_emod_of_nonneg (by omega)]
          have HWW := Lib.hid HZ.out.2
          clear hlt hj HZ
          go_wp2_with fail
          go_roundg (m - (j + 1))
          case rel => exact ⟨j + 1, y, HLT.out, rfl, rfl, by go_num, HY.out.2.1, HY.out.2.2, Lib.hid ⟨HY.out.1, HWW.out⟩⟩
          case measure => have := HQ.out; have := HLT.out; omega
        · obtain rfl : j = m := by omega
          have hji : ¬ (j : Int) < (j : Int) := by omega
          clear hlt hj
          go_wp2_with fail
          go_ret
          exact ⟨by rw [HZ.out.1, ← HM.out, HRV.out]; rfl, HZ.out.2⟩
end Go.Proofs.Ytngbmaojgfocgaa.dr
