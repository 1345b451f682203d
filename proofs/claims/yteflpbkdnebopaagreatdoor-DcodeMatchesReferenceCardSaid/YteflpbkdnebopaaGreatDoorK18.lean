/- Numbers below a top, modulo 8380417; the parts of a key; the first polynomial that has a number that is too great. Plain lists. -/
import Derived.Test.YteflpbkdnebopaaGreatDoorB5
namespace Go.Proofs.YteflpbkdnebopaaGreatDoor
open Go.RowKit
set_option linter.unusedVariables false

theorem pow_le2 {a b : Nat} (h : a ≤ b) : (2 : Int) ^ a ≤ 2 ^ b := by
  have h1 := Nat.pow_le_pow_right (n := 2) (by decide) h
  have e1 : ((2 ^ a : Nat) : Int) = 2 ^ a := Int.natCast_pow 2 a
  have e2 : ((2 ^ b : Nat) : Int) = 2 ^ b := Int.natCast_pow 2 b
  omega
/-- A number below the top, modulo 8380417. -/
def blw (top x : Int) : Int := (top - x) % 8380417
theorem blw_rng (top x : Int) : 0 ≤ blw top x ∧ blw top x < 8380417 := by unfold blw; omega
theorem blw_blw {top x : Int} (h0 : 0 ≤ x) (h1 : x < 8380417) : blw top (blw top x) = x := by unfold blw; omega
theorem blw_mod (top x : Int) : blw top (x % 8380417) = blw top x := by unfold blw; omega
/-- The size of a coefficient, and the greatest of the first n. -/
def szQ (x : Int) : Int := if 8380417 - x % 8380417 < x % 8380417 then 8380417 - x % 8380417 else x % 8380417
def nrmQ (f : Nat → Int) : Nat → Int
  | 0 => 0
  | n + 1 => if nrmQ f n < szQ (f n) then szQ (f n) else nrmQ f n
theorem szQ_rng (x : Int) : 0 ≤ szQ x ∧ szQ x ≤ 4190208 := by unfold szQ; split <;> omega
theorem nrmQ_rng (f : Nat → Int) (n : Nat) : 0 ≤ nrmQ f n ∧ nrmQ f n ≤ 4190208 := by
  induction n with
  | zero => exact ⟨Int.le_refl _, show (0 : Int) ≤ 4190208 by decide⟩
  | succ n ih =>
    have := szQ_rng (f n)
    unfold nrmQ
    split <;> omega
theorem nrmQ_le (f : Nat → Int) (t : Int) (h : 0 ≤ t) (n : Nat) : nrmQ f n ≤ t ↔ ∀ i, i < n → szQ (f i) ≤ t := by
  induction n with
  | zero => exact ⟨fun _ i hi => absurd hi (Nat.not_lt_zero _), fun _ => h⟩
  | succ n ih =>
    constructor
    · intro hn i hi
      unfold nrmQ at hn
      by_cases e : i = n
      · subst e
        split at hn <;> omega
      · refine ih.1 ?_ i (by omega)
        split at hn <;> omega
    · intro hn
      have h1 := ih.2 fun i hi => hn i (by omega)
      have h2 := hn n (by omega)
      unfold nrmQ
      split <;> omega
theorem szQ_small {e x : Int} (he : e = 2 ∨ e = 4) (h0 : 0 ≤ x) (h1 : x < 16) : szQ (blw e x) ≤ e ↔ x ≤ 2 * e := by
  unfold szQ blw
  rcases he with rfl | rfl <;> split <;> omega
theorem szQ_t0 {x : Int} (h0 : 0 ≤ x) (h1 : x < 8192) : szQ (blw 4096 x) ≤ 4096 := by
  unfold szQ blw
  split <;> omega

/-- The number i of D bits. -/
def nW (D : Nat) (xs : List Int) (i : Nat) : Int := loN (lbit xs) (D * i) D
theorem nW_rng (D : Nat) (xs : List Int) (i : Nat) : 0 ≤ nW D xs i ∧ nW D xs i < 2 ^ D := loN_rng (lbit_rng xs) D _
theorem numsW (D : Nat) (xs : List Int) (n i : Nat) (h : i < n) : (nums D xs n).getD i 0 = nW D xs i := nums_at D xs n i h
theorem nums_is (D : Nat) (xs : List Int) (n : Nat) : nums D xs n = (List.range n).map (nW D xs) :=
  list_ext5 (by rw [nums_len]; simp) fun i hi => by
    rw [nums_len] at hi
    rw [numsW D xs n i hi]
    simp [List.getD, hi]
theorem sizeW (D : Nat) (h1 : 1 ≤ D) (h2 : D ≤ 32) : sizeI (D : Int) 256 = ((32 * D : Nat) : Int) := by
  unfold sizeI
  rw [if_neg (by omega)]
  omega
/-- What Unpack makes of bytes. -/
theorem unpackW (D : Nat) (h1 : 1 ≤ D) (h2 : D ≤ 32) (xs : List Int) : runpack (D : Int) 256 xs = if xs.length = 32 * D then some (nums D xs 256) else none := by
  unfold runpack
  rw [sizeW D h1 h2]
  by_cases hl : xs.length = 32 * D
  · rw [if_pos hl, if_neg]
    · rfl
    · rintro (h | h | h | h | h | ⟨p, h3, h4, _⟩)
      · omega
      · omega
      · omega
      · omega
      · omega
      · rw [Int.toNat_natCast, show (256 : Int).toNat = 256 from rfl] at h4
        omega
  · rw [if_neg hl, if_pos]
    exact .inr (.inr (.inr (.inr (.inl (by omega)))))
/-- Bytes are the packing of their numbers. -/
theorem packs_numsW (D : Nat) (h1 : 1 ≤ D) (h2 : D ≤ 32) (xs : List Int) (hl : xs.length = 32 * D) (hr : ∀ x ∈ xs, 0 ≤ x ∧ x < 256) : rpack (D : Int) (nums D xs 256) = some xs := by
  have h := unpackW D h1 h2 xs
  rw [if_pos hl] at h
  exact (rpack_unpack h1 h2 hr h).1

/-- The polynomial whose packing with D bits for a top lies at a place. -/
def plyD (D : Nat) (top : Int) (xs : List Int) (m : Nat) : Int := blw top (nW D xs m)
theorem plyD_rng (D : Nat) (top : Int) (xs : List Int) (m : Nat) : 0 ≤ plyD D top xs m ∧ plyD D top xs m < 8380417 := blw_rng _ _
theorem plyD_back (D : Nat) (h2 : D ≤ 20) (top : Int) (xs : List Int) (m : Nat) : blw top (plyD D top xs m) = nW D xs m := by
  have h := nW_rng D xs m
  have : (2 : Int) ^ D ≤ 2 ^ 20 := pow_le2 h2
  refine blw_blw h.1 ?_
  omega

def kD (a : Int) : Nat := if a = 4 then 4 else if a = 5 then 6 else if a = 6 then 8 else 0
def lD (a : Int) : Nat := if a = 4 then 4 else if a = 5 then 5 else if a = 6 then 7 else 0
def eD (a : Int) : Nat := if a = 4 then 2 else if a = 5 then 4 else if a = 6 then 2 else 0
def wD (a : Int) : Nat := if a = 5 then 4 else 3
/-- The size of a small polynomial, and of the whole key. -/
def zD (a : Int) : Nat := 32 * wD a
def sD (a : Int) : Nat := 128 + zD a * (kD a + lD a) + 416 * kD a
/-- Some number is too great. -/
def badD (a : Int) (xs : List Int) (i : Nat) : Bool := (List.range 256).any fun m => decide (2 * (eD a : Int) < nW (wD a) (seg xs (128 + zD a * i) (zD a)) m)
theorem badD_false {a : Int} {xs : List Int} {i : Nat} : badD a xs i = false ↔ ∀ m, m < 256 → nW (wD a) (seg xs (128 + zD a * i) (zD a)) m ≤ 2 * (eD a : Int) := by
  unfold badD
  rw [List.any_eq_false]
  constructor
  · intro h m hm
    have := h m (List.mem_range.2 hm)
    simpa using this
  · intro h m hm
    have := h m (List.mem_range.1 hm)
    simpa using this
def bad4 (a : Int) (xs : List Int) (i : Nat) : Int := if badD a xs i = true then 4000 else 0
theorem bad4_le {a : Int} {xs : List Int} {i : Nat} : bad4 a xs i ≤ 3328 ↔ badD a xs i = false := by
  unfold bad4
  cases badD a xs i <;> simp
/-- The first polynomial that has a number that is too great, or -1. -/
def fbD (a : Int) (xs : List Int) : Int := fstI (bad4 a xs) (kD a + lD a)
/-- The error of a private key. -/
def chkD (a : Int) (xs : List Int) : Int × Int :=
  if a < 4 ∨ 6 < a then (8, 0) else if (xs.length : Int) ≠ (sD a : Int) then (6, 0) else
    if 0 ≤ fbD a xs then (9, 128 + (zD a : Int) * fbD a xs) else (0, 0)
/-- The error of a public key. -/
def chkQ (a : Int) (n : Int) : Int × Int := if a < 4 ∨ 6 < a then (8, 0) else if n ≠ 32 + 320 * (kD a : Int) then (6, 0) else (0, 0)
theorem in46 {a : Int} (h : ¬ (a < 4 ∨ 6 < a)) : a = 4 ∨ a = 5 ∨ a = 6 := by omega
theorem eD_two {a : Int} (h : a = 4 ∨ a = 5 ∨ a = 6) : (eD a : Int) = 2 ∨ (eD a : Int) = 4 := by
  rcases h with rfl | rfl | rfl
  · exact .inl rfl
  · exact .inr rfl
  · exact .inl rfl
theorem wD_le (a : Int) : 3 ≤ wD a ∧ wD a ≤ 4 := by unfold wD; split <;> omega
/-- A polynomial is accepted exactly if none of its numbers is too great. -/
theorem nrm_bad {a : Int} (ha : a = 4 ∨ a = 5 ∨ a = 6) (xs : List Int) (i : Nat) : nrmQ (plyD (wD a) (eD a) (seg xs (128 + zD a * i) (zD a))) 256 ≤ (eD a : Int) ↔ badD a xs i = false := by
  have he := eD_two ha
  rw [nrmQ_le _ _ (by omega), badD_false]
  constructor
  · intro h m hm
    have h1 := nW_rng (wD a) (seg xs (128 + zD a * i) (zD a)) m
    have h2 : (2 : Int) ^ wD a ≤ 2 ^ 4 := pow_le2 (wD_le a).2
    exact (szQ_small he h1.1 (by omega)).1 (h m hm)
  · intro h m hm
    have h1 := nW_rng (wD a) (seg xs (128 + zD a * i) (zD a)) m
    have h2 : (2 : Int) ^ wD a ≤ 2 ^ 4 := pow_le2 (wD_le a).2
    exact (szQ_small he h1.1 (by omega)).2 (h m hm)
theorem nrm_t0 (xs : List Int) : nrmQ (plyD 13 4096 xs) 256 ≤ 4096 := by
  rw [nrmQ_le _ _ (by decide)]
  intro m hm
  have h1 := nW_rng 13 xs m
  exact szQ_t0 h1.1 h1.2
/-- The polynomial of some bytes; zeros if there is none. -/
def unpF (D : Nat) (top : Int) (xs : List Int) : Nat → Int := if xs.length = 32 * D then plyD D top xs else fun _ => 0
theorem unpF_rng (D : Nat) (top : Int) (xs : List Int) (m : Nat) : 0 ≤ unpF D top xs m ∧ unpF D top xs m < 8380417 := by
  unfold unpF
  split
  · exact plyD_rng _ _ _ _
  · exact ⟨Int.le_refl _, show (0 : Int) < 8380417 by decide⟩
end Go.Proofs.YteflpbkdnebopaaGreatDoor
