/- The program's Reduce, reversed, splitter. -/
import Derived.Test.YtmhhkhbdjkbklaaP14
import Derived.IntWalk
namespace Go.Proofs.Ytmhhkhbdjkbklaa
open Go.RowKit
set_option linter.unusedVariables false

theorem reduce_any (n : Int) (w : World) (h0 : -9223372036854775808 ≤ n) (h1 : n < 9223372036854775808) : Calls Try.prog 22 #[.int .i64 n] w fun e w' => e = .returned (.int .u16 (n % 3329)) ∧ w' = w := by
  obtain ⟨x, hx⟩ : ∃ x, n % 3329 = x := ⟨_, rfl⟩
  have x0 : 0 ≤ x := by omega
  have x1 : x < 3329 := by omega
  obtain ⟨t, ht⟩ : ∃ t, n.tmod 3329 = t := ⟨_, rfl⟩
  have htx : (0 ≤ t ∧ t = x) ∨ (t < 0 ∧ t = x - 3329) := by
    rcases (show 0 ≤ n ∨ n < 0 by omega) with h | h
    · rw [Int.tmod_eq_emod_of_nonneg h] at ht
      omega
    · have := Int.tmod_eq_emod (a := n) (b := 3329)
      rw [ht] at this
      split at this <;> omega
  have hwx : IntKind.u16.wrap x = x := by rw [IntKind.wrap_u16]; omega
  have hwt : IntKind.i64.wrap t = t := by rw [IntKind.wrap_i64]; omega
  rw [hx]
  rcases htx with ⟨h2, h3⟩ | ⟨h2, h3⟩
  · subst h3
    clear hx
    go_enter Try.func22, Try.ntmps22
    go_wp2_with fail
    go_ret
    exact ⟨rfl, rfl⟩
  · have hs : t + 3329 = x := by omega
    have hws : IntKind.i64.wrap (t + 3329) = x := by rw [IntKind.wrap_i64]; omega
    clear hx h3
    go_enter Try.func22, Try.ntmps22
    go_wp2_with fail
    go_ret
    exact ⟨rfl, rfl⟩
set_option maxHeartbeats 4000000 in
set_option maxRecDepth 100000 in
theorem reverse8_any (i : Nat) (hi : i < 128) (w : World) : Calls Try.prog 30 #[.int .u8 (i : Int)] w fun e w' => e = .returned (.int .u8 ((2 * rv7 i : Nat) : Int)) ∧ w' = w := by
  have hi0 : (0 : Int) ≤ (i : Int) := by omega
  have hi1 : (i : Int) < 256 := by omega
  go_enter Try.func30, Try.ntmps30
  go_wp2_with fail
  go_ret
  refine ⟨?_, rfl⟩
  refine congrArg (fun x : Nat => Ending.returned (Value.int .u8 (x : Int))) ?_
  obtain ⟨k, rfl⟩ : ∃ k : Fin 128, k.val = i := ⟨⟨i, hi⟩, rfl⟩
  revert k
  decide +kernel
set_option maxHeartbeats 4000000 in
theorem reversed_any (i : Nat) (hi : i < 128) (w : World) : Calls Try.prog 29 #[.int .i64 (i : Int)] w fun e w' => e = .returned (.int .i64 ((rv7 i : Nat) : Int)) ∧ w' = w := by
  have hi0 : (0 : Int) ≤ (i : Int) := by omega
  have hi1 : (i : Int) < 128 := by omega
  have HR := Lib.hid (fun w => reverse8_any i hi w)
  have hb := rv7_lt i
  generalize rv7 i = r at *
  have h2 : ((2 * r : Nat) : Int) / 2 = (r : Int) := by omega
  obtain ⟨q, hq⟩ : ∃ q : Int, ((2 * r : Nat) : Int) = q := ⟨_, rfl⟩
  rw [hq] at HR h2
  have q0 : 0 ≤ q := by omega
  have q1 : q < 256 := by omega
  have r0 : (0 : Int) ≤ (r : Int) := by omega
  have r1 : (r : Int) < 128 := by omega
  have hw : IntKind.u8.wrap (i : Int) = (i : Int) := by rw [IntKind.wrap_u8]; omega
  clear hi hb hq
  go_enter Try.func29, Try.ntmps29
  go_wp2_with fail
  refine (HR.out w).mono ?_
  rintro e w1 ⟨rfl, hw1⟩
  rw [hw1]
  clear hw1
  go_wp2_with fail
  go_ret
  exact ⟨rfl, rfl⟩
set_option maxHeartbeats 4000000 in
theorem splitter_any (s m i : Nat) (hs : 0 < s) (hm : 128 / s = m) (hi : m + i < 128) (hs2 : s ≤ 128) (w : World) : Calls Try.prog 28 #[.int .i64 (s : Int), .int .i64 (i : Int)] w fun e w' => e = .returned (.int .i64 ((rv7 (m + i) : Nat) : Int)) ∧ w' = w := by
  have HR := Lib.hid (fun w => reversed_any (m + i) hi w)
  have hs0 : ¬ (s : Int) = 0 := by omega
  have hs1 : (0 : Int) < (s : Int) := by omega
  have hd : (128 : Int).tdiv (s : Int) = (m : Int) := by rw [← hm]; rfl
  have hd2 : (128 : Int) / (s : Int) = (m : Int) := by rw [← hm]; rfl
  obtain ⟨n, hn⟩ : ∃ n, m + i = n := ⟨_, rfl⟩
  have hnI : (m : Int) + (i : Int) = (n : Int) := by omega
  have hw : IntKind.i64.wrap ((m : Int) + (i : Int)) = (n : Int) := by rw [IntKind.wrap_i64]; omega
  have hw2 : IntKind.i64.wrap (m : Int) = (m : Int) := by rw [IntKind.wrap_i64]; omega
  have hsb : (s : Int) ≤ 128 := by omega
  have hw3 : wrap64 (n : Int) = (n : Int) := IntWalk.wrap64_in _ (by omega)
  have hw4 : wrap64 (m : Int) = (m : Int) := IntWalk.wrap64_in _ (by omega)
  rw [hn] at HR ⊢
  clear hm hi hn hs
  go_enter Try.func28, Try.ntmps28
  go_wp2_with fail
  refine (HR.out w).mono ?_
  rintro e w1 ⟨rfl, hw1⟩
  rw [hw1]
  clear hw1
  go_wp2_with fail
  go_ret
  exact ⟨rfl, rfl⟩
set_option maxHeartbeats 4000000 in
theorem exponent_any (i : Nat) (hi : i < 128) (w : World) : Calls Try.prog 27 #[.int .i64 (i : Int)] w fun e w' => e = .returned (.int .i64 ((2 * rv7 i + 1 : Nat) : Int)) ∧ w' = w := by
  have HR := Lib.hid (fun w => reversed_any i hi w)
  have hb := rv7_lt i
  generalize rv7 i = r at *
  obtain ⟨m, hm⟩ : ∃ m, 2 * r + 1 = m := ⟨_, rfl⟩
  have hr2 : 2 * (r : Int) + 1 = (m : Int) := by omega
  have hw1 : IntKind.i64.wrap (2 * (r : Int)) = 2 * (r : Int) := by rw [IntKind.wrap_i64]; omega
  have hw2 : IntKind.i64.wrap (2 * (r : Int) + 1) = (m : Int) := by rw [hr2, IntKind.wrap_i64]; omega
  have hw3 : wrap64 (m : Int) = (m : Int) := IntWalk.wrap64_in _ (by omega)
  rw [hm]
  clear hm hi hb
  go_enter Try.func27, Try.ntmps27
  go_wp2_with fail
  refine (HR.out w).mono ?_
  rintro e w1 ⟨rfl, hw⟩
  rw [hw]
  clear hw
  go_wp2_with fail
  go_ret
  exact ⟨congrArg (fun x => Ending.returned (Value.int .i64 x)) hw3, rfl⟩
end Go.Proofs.Ytmhhkhbdjkbklaa
