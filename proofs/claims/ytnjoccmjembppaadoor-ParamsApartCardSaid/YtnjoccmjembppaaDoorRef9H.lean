/- The reference's Read of the contents of an identifier. -/
import Derived.Test.YtnjoccmjembppaaDoorRef9G
namespace Go.Proofs.YtnjoccmjembppaaDoor
open Go.RowKit

/-- The numbers with one more, which is m, or the two that the first one stands for. -/
def oneR (l : List Int) (m : Int) : List Int := if 0 < l.length then l ++ [m % 4294967296] else if m < 40 then [0, m] else if m < 80 then [1, m - 40] else [2, m - 80]
/-- What is read before place i: the number under way, and the numbers so far. -/
def rS (xs : List Int) : Nat → Option (Int × List Int)
  | 0 => some (0, [])
  | i + 1 => match rS xs i with
    | none => none
    | some (n, l) => if 4294967375 < n * 128 + xs.getD i 0 % 128 then none else if 128 ≤ xs.getD i 0 then some (n * 128 + xs.getD i 0 % 128, l) else some (0, oneR l (n * 128 + xs.getD i 0 % 128))
/-- What Read finds. -/
def readL (xs : List Int) : Option (List Int) :=
  match rS xs xs.length with
  | none => none
  | some (_, l) => if okL l = true ∧ contL l = xs then some l else none
theorem rS_none (xs : List Int) (i : Nat) (h : rS xs i = none) : ∀ j, rS xs (i + j) = none
  | 0 => h
  | j + 1 => by
    show rS xs (i + j + 1) = none
    unfold rS
    rw [rS_none xs i h j]
theorem rS_step (xs : List Int) (i : Nat) (n : Int) (l : List Int) (h : rS xs i = some (n, l)) : rS xs (i + 1) = if 4294967375 < n * 128 + xs.getD i 0 % 128 then none else if 128 ≤ xs.getD i 0 then some (n * 128 + xs.getD i 0 % 128, l) else some (0, oneR l (n * 128 + xs.getD i 0 % 128)) := by
  rw [rS, h]
theorem oneR_rng (l : List Int) (m : Int) (h0 : 0 ≤ m) (h1 : m ≤ 4294967375) (hl : ∀ x ∈ l, 0 ≤ x ∧ x < 4294967296) : ∀ x ∈ oneR l m, 0 ≤ x ∧ x < 4294967296 := by
  unfold oneR
  intro x hx
  split at hx
  · rcases List.mem_append.1 hx with hx | hx
    · exact hl x hx
    · obtain rfl : x = m % 4294967296 := by simpa using hx
      omega
  · split at hx
    · rcases List.mem_cons.1 hx with hx | hx
      · omega
      · obtain rfl : x = m := by simpa using hx
        omega
    · split at hx
      · rcases List.mem_cons.1 hx with hx | hx
        · omega
        · obtain rfl : x = m - 40 := by simpa using hx
          omega
      · rcases List.mem_cons.1 hx with hx | hx
        · omega
        · obtain rfl : x = m - 80 := by simpa using hx
          omega
theorem oneR_len (l : List Int) (m : Int) : (oneR l m).length ≤ l.length + 2 := by
  unfold oneR
  split
  · rw [List.length_append, List.length_singleton]
    omega
  · split
    · simp
    · split <;> simp
theorem rS_from (xs : List Int) (hr : ∀ x ∈ xs, 0 ≤ x ∧ x < 256) : ∀ i n l, rS xs i = some (n, l) → 0 ≤ n ∧ n ≤ 4294967375 ∧ l.length ≤ 2 * i ∧ ∀ x ∈ l, 0 ≤ x ∧ x < 4294967296
  | 0, n, l, h => by
    injection h with h
    injection h with h1 h2
    subst h1 h2
    simp
  | i + 1, n, l, h => by
    cases hq : rS xs i with
    | none =>
      have := rS_none xs i hq 1
      rw [this] at h
      cases h
    | some p =>
      obtain ⟨n0, l0⟩ := p
      obtain ⟨q1, q2, q3, q4⟩ := rS_from xs hr i n0 l0 hq
      have hx := getD_rngK (m := 256) (by omega) hr i
      rw [rS_step xs i n0 l0 hq] at h
      split at h
      · cases h
      · split at h
        · injection h with h
          injection h with h1 h2
          subst h1 h2
          exact ⟨by omega, by omega, by omega, q4⟩
        · injection h with h
          injection h with h1 h2
          subst h1 h2
          refine ⟨by omega, by omega, ?_, oneR_rng l0 _ (by omega) (by omega) q4⟩
          have := oneR_len l0 (n0 * 128 + xs.getD i 0 % 128)
          omega

end Go.Proofs.YtnjoccmjembppaaDoor
