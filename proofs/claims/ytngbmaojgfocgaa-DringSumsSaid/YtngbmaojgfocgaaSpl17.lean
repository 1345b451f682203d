/- One layer of the transform and of the inverse, done in place, step by step. -/
import Derived.Test.YtngbmaojgfocgaaK17D
namespace Go.Proofs.Ytngbmaojgfocgaa.dr
set_option linter.unusedVariables false

/-- The numbers of coefficients of a layer. -/
def Lay (s : Nat) : Prop := s = 1 ∨ s = 2 ∨ s = 4 ∨ s = 8 ∨ s = 16 ∨ s = 32 ∨ s = 64 ∨ s = 128
/-- What lies in memory once i blocks and r steps of the next one are done. -/
def prt (P : Nat → Int) (s : Nat) (f : Nat → Int) (i r m : Nat) : Int := if m / (2 * s) < i ∨ (m / (2 * s) = i ∧ m % (2 * s) % s < r) then P m else f m
theorem prt_zero (P : Nat → Int) (s : Nat) (f : Nat → Int) (m : Nat) : prt P s f 0 0 m = f m := by
  unfold prt
  rw [if_neg]
  rintro (h | ⟨_, h⟩)
  · exact absurd h (Nat.not_lt_zero _)
  · exact absurd h (Nat.not_lt_zero _)
theorem prt_block (P : Nat → Int) {s : Nat} (hs : Lay s) (f : Nat → Int) (i m : Nat) : prt P s f i s m = prt P s f (i + 1) 0 m := by
  unfold prt
  have h1 : m % (2 * s) % s < s := Nat.mod_lt _ (by unfold Lay at hs; omega)
  by_cases h : m / (2 * s) < i ∨ (m / (2 * s) = i ∧ m % (2 * s) % s < s)
  · rw [if_pos h, if_pos (by omega)]
  · rw [if_neg h, if_neg (by omega)]
theorem prt_end (P : Nat → Int) {s : Nat} (hs : Lay s) (f : Nat → Int) (m : Nat) (hm : m < 256) : prt P s f (128 / s) 0 m = P m := by
  unfold prt
  rw [if_pos]
  left
  rcases hs with rfl | rfl | rfl | rfl | rfl | rfl | rfl | rfl <;> omega
theorem prt_low (P : Nat → Int) {s : Nat} (hs : Lay s) (f : Nat → Int) (i r : Nat) (hr : r < s) : prt P s f i r (2 * s * i + r) = f (2 * s * i + r) := by
  unfold prt
  rw [if_neg]
  rcases hs with rfl | rfl | rfl | rfl | rfl | rfl | rfl | rfl <;> omega
theorem prt_high (P : Nat → Int) {s : Nat} (hs : Lay s) (f : Nat → Int) (i r : Nat) (hr : r < s) : prt P s f i r (2 * s * i + r + s) = f (2 * s * i + r + s) := by
  unfold prt
  rw [if_neg]
  rcases hs with rfl | rfl | rfl | rfl | rfl | rfl | rfl | rfl <;> omega
theorem prt_step (P : Nat → Int) {s : Nat} (hs : Lay s) (f : Nat → Int) (i r : Nat) (hr : r < s) (m : Nat) :
    (if m = 2 * s * i + r + s then P (2 * s * i + r + s) else if m = 2 * s * i + r then P (2 * s * i + r) else prt P s f i r m) = prt P s f i (r + 1) m := by
  by_cases h1 : m = 2 * s * i + r + s
  · rw [if_pos h1]
    unfold prt
    rw [if_pos, h1]
    rw [h1]
    rcases hs with rfl | rfl | rfl | rfl | rfl | rfl | rfl | rfl <;> omega
  · rw [if_neg h1]
    by_cases h2 : m = 2 * s * i + r
    · rw [if_pos h2]
      unfold prt
      rw [if_pos, h2]
      rw [h2]
      rcases hs with rfl | rfl | rfl | rfl | rfl | rfl | rfl | rfl <;> omega
    · rw [if_neg h2]
      unfold prt
      by_cases h3 : m / (2 * s) < i ∨ (m / (2 * s) = i ∧ m % (2 * s) % s < r)
      · rw [if_pos h3, if_pos (by omega)]
      · rw [if_neg h3, if_neg]
        rcases hs with rfl | rfl | rfl | rfl | rfl | rfl | rfl | rfl <;> omega
theorem sp_pair {s : Nat} (hs : Lay s) (f : Nat → Int) (i r : Nat) (hr : r < s) :
    sp s f (2 * s * i + r) = (f (2 * s * i + r) + wS s i * f (2 * s * i + r + s)) % 8380417
    ∧ sp s f (2 * s * i + r + s) = (f (2 * s * i + r) - wS s i * f (2 * s * i + r + s)) % 8380417 := by
  have m1 : (2 * s * i + r) % (2 * s) = r := by rcases hs with rfl | rfl | rfl | rfl | rfl | rfl | rfl | rfl <;> omega
  have d1 : (2 * s * i + r) / (2 * s) = i := by rcases hs with rfl | rfl | rfl | rfl | rfl | rfl | rfl | rfl <;> omega
  have m2 : (2 * s * i + r + s) % (2 * s) = r + s := by rcases hs with rfl | rfl | rfl | rfl | rfl | rfl | rfl | rfl <;> omega
  have d2 : (2 * s * i + r + s) / (2 * s) = i := by rcases hs with rfl | rfl | rfl | rfl | rfl | rfl | rfl | rfl <;> omega
  unfold sp spl
  rw [if_pos (by omega), if_neg (by omega), d1, d2, show 2 * s * i + r + s - s = 2 * s * i + r by omega]
  exact ⟨rfl, rfl⟩
theorem jn_pair {s : Nat} (hs : Lay s) (f : Nat → Int) (i r : Nat) (hr : r < s) :
    jn s f (2 * s * i + r) = (f (2 * s * i + r) + f (2 * s * i + r + s)) * 4190209 % 8380417
    ∧ jn s f (2 * s * i + r + s) = (f (2 * s * i + r) - f (2 * s * i + r + s)) * 4190209 * uS s i % 8380417 := by
  have m1 : (2 * s * i + r) % (2 * s) = r := by rcases hs with rfl | rfl | rfl | rfl | rfl | rfl | rfl | rfl <;> omega
  have m2 : (2 * s * i + r + s) % (2 * s) = r + s := by rcases hs with rfl | rfl | rfl | rfl | rfl | rfl | rfl | rfl <;> omega
  have d2 : (2 * s * i + r + s) / (2 * s) = i := by rcases hs with rfl | rfl | rfl | rfl | rfl | rfl | rfl | rfl <;> omega
  unfold jn jnd
  rw [if_pos (by omega), if_neg (by omega), d2, show 2 * s * i + r + s - s = 2 * s * i + r by omega]
  exact ⟨rfl, rfl⟩
/-- The places of a step lie in the array. -/
theorem lay_in {s : Nat} (hs : Lay s) (i r : Nat) (hi : i < 128 / s) (hr : r < s) : 2 * s * i + r + s < 256 ∧ 128 / s + i < 256 ∧ 0 < s ∧ s ≤ 128 ∧ 2 * s ≤ 256 ∧ 2 * s * i < 256 := by
  rcases hs with rfl | rfl | rfl | rfl | rfl | rfl | rfl | rfl <;> omega
end Go.Proofs.Ytngbmaojgfocgaa.dr
