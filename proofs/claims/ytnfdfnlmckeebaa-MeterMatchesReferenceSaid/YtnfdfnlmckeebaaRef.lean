/- Contracts of the reference meter: New and Add. -/
import Derived.Test.YtnfdfnlmckeebaaMet
namespace Go.Proofs.Ytnfdfnlmckeebaa
open Go.RowKit

theorem rnew_any (b : Int) (w : World) : Calls Try.prog 8 #[.int .i64 b] w fun e w' =>
    e = .returned (.agg #[.int .i64 0, .int .i64 (clamp b)]) ∧ Past w w' := by
  by_cases h0 : b < 0
  · rw [clamp_neg h0]
    go_enter Try.func8, Try.ntmps8
    go_wp2
    exact bodyPost_ret (v := .agg #[.int .i64 0, .int .i64 0]) (by simp [results, Try.results8, go_sem]) rfl ⟨rfl, (Below.refl _ _).alloc (Nat.le_refl _) _⟩
  · by_cases h1 : 4611686018427387904 < b
    · rw [clamp_big h1]
      unfold top
      go_enter Try.func8, Try.ntmps8
      go_wp2
      exact bodyPost_ret (v := .agg #[.int .i64 0, .int .i64 4611686018427387904]) (by simp [results, Try.results8, go_sem]) rfl ⟨rfl, (Below.refl _ _).alloc (Nat.le_refl _) _⟩
    · rw [clamp_mid (by omega) (by unfold top; omega)]
      go_enter Try.func8, Try.ntmps8
      go_wp2
      exact bodyPost_ret (v := .agg #[.int .i64 0, .int .i64 b]) (by simp [results, Try.results8, go_sem]) rfl ⟨rfl, (Below.refl _ _).alloc (Nat.le_refl _) _⟩

theorem radd_neg (B c n : Int) (w : World) (hn : n < 0) : Calls Try.prog 9 #[.agg #[.int .i64 c, .int .i64 B], .int .i64 n] w fun e w' =>
    e = .returned (.tuple #[.agg #[.int .i64 c, .int .i64 B], .bool false]) ∧ Past w w' := by
  go_enter Try.func9, Try.ntmps9
  go_wp2
  exact bodyPost_ret (v := .tuple #[.agg #[.int .i64 c, .int .i64 B], .bool false]) (by simp [results, Try.results9, go_sem]) rfl ⟨rfl, ((Below.refl _ _).alloc (Nat.le_refl _) _).alloc (by simp) _⟩
theorem radd_big (B c n : Int) (w : World) (h0 : 0 ≤ c) (hB : c ≤ B) (ht : B ≤ top) (hp : 0 ≤ n) (hn : B - c < n) : Calls Try.prog 9 #[.agg #[.int .i64 c, .int .i64 B], .int .i64 n] w fun e w' =>
    e = .returned (.tuple #[.agg #[.int .i64 c, .int .i64 B], .bool false]) ∧ Past w w' := by
  unfold top at ht
  have hd : decide (n < 0) = false := by simp; omega
  go_enter Try.func9, Try.ntmps9
  go_wp2
  refine bodyPost_ret (v := .tuple #[.agg #[.int .i64 c, .int .i64 B], .bool false]) (by simp [results, Try.results9, go_sem]) rfl ⟨rfl, ?_⟩
  exact ((Below.refl _ _).alloc (Nat.le_refl _) _).alloc (by simp) _
theorem radd_ok (B c n : Int) (w : World) (h0 : 0 ≤ c) (hB : c ≤ B) (ht : B ≤ top) (hp : 0 ≤ n) (hn : n ≤ B - c) : Calls Try.prog 9 #[.agg #[.int .i64 c, .int .i64 B], .int .i64 n] w fun e w' =>
    e = .returned (.tuple #[.agg #[.int .i64 (c + n), .int .i64 B], .bool true]) ∧ Past w w' := by
  unfold top at ht
  have hd : decide (n < 0) = false := by simp; omega
  go_enter Try.func9, Try.ntmps9
  go_wp2
  refine bodyPost_ret (v := .tuple #[.agg #[.int .i64 (c + n), .int .i64 B], .bool true]) (by simp [results, Try.results9, go_sem]) rfl ⟨rfl, ?_⟩
  exact ((Below.refl _ _).alloc (Nat.le_refl _) _).alloc (by simp) _

end Go.Proofs.Ytnfdfnlmckeebaa
