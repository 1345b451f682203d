/- The reference's group of a number. -/
import Derived.Test.YtnjoccmjembppaaDoorRef9A
namespace Go.Proofs.YtnjoccmjembppaaDoor
open Go.RowKit

/-- The digits to the base 128 ahead of the last one, each with 128 added. -/
def grpH (n : Nat) : List Int := if n = 0 then [] else grpH (n / 128) ++ [((128 + n % 128 : Nat) : Int)]
  termination_by n
  decreasing_by omega
def grp (n : Nat) : List Int := grpH (n / 128) ++ [((n % 128 : Nat) : Int)]
theorem grpH_zero : grpH 0 = [] := by rw [grpH, if_pos rfl]
theorem grpH_pos {n : Nat} (h : n ≠ 0) : grpH n = grpH (n / 128) ++ [((128 + n % 128 : Nat) : Int)] := by rw [grpH, if_neg h]
theorem grpH_rng (n : Nat) : ∀ x ∈ grpH n, 128 ≤ x ∧ x < 256 := by
  induction n using Nat.strongRecOn with
  | _ n ih =>
    by_cases h : n = 0
    · rw [h, grpH_zero]
      simp
    · rw [grpH_pos h]
      intro x hx
      rcases List.mem_append.1 hx with hx | hx
      · exact ih (n / 128) (by omega) x hx
      · obtain rfl : x = ((128 + n % 128 : Nat) : Int) := by simpa using hx
        omega
theorem grpH_len (k n : Nat) (h : n < 128 ^ k) : (grpH n).length ≤ k := by
  induction k generalizing n with
  | zero =>
    obtain rfl : n = 0 := by simpa using h
    rw [grpH_zero]
    exact Nat.le_refl _
  | succ k ih =>
    by_cases h0 : n = 0
    · rw [h0, grpH_zero]
      exact Nat.zero_le _
    · rw [grpH_pos h0, List.length_append]
      have e : 128 ^ (k + 1) = 128 * 128 ^ k := by rw [Nat.pow_succ, Nat.mul_comm]
      have := ih (n / 128) (by omega)
      simp only [List.length_cons, List.length_nil]
      omega
theorem grp_len (n : Nat) (h : n < 34359738368) : (grp n).length ≤ 5 ∧ 1 ≤ (grp n).length := by
  have := grpH_len 4 (n / 128) (by omega)
  unfold grp
  rw [List.length_append, List.length_singleton]
  omega
theorem grp_rng (n : Nat) : ∀ x ∈ grp n, 0 ≤ x ∧ x < 256 := by
  intro x hx
  rcases List.mem_append.1 hx with hx | hx
  · have := grpH_rng _ x hx
    omega
  · obtain rfl : x = ((n % 128 : Nat) : Int) := by simpa using hx
    omega
theorem own_block_ge {w : World} {base : Nat} {e : TypeId} {size : Nat} {v : Value} {n : Nat} {xs : List Value} (h : w.ownsRow base e size v n xs) : ∀ g, v.ownBlock = some g → base ≤ g := fun g hg => (h.lt g hg).1

end Go.Proofs.YtnjoccmjembppaaDoor
