/- Plain facts about packed numbers: the bits of a number, and that packing and unpacking lead back. -/
import Derived.Test.YtdclkhnmpkbgaaaRef5C
namespace Go.Proofs.Ytdclkhnmpkbgaaa
open Go.RowKit

/-- The number of n bits from p on, the lowest one first. -/
def loN (f : Nat → Int) (p : Nat) : Nat → Int
  | 0 => 0
  | n + 1 => f p + 2 * loN f (p + 1) n
theorem loN_rng {f : Nat → Int} (hf : ∀ q, 0 ≤ f q ∧ f q ≤ 1) (n : Nat) : ∀ p, 0 ≤ loN f p n ∧ loN f p n < 2 ^ n := by
  induction n with
  | zero => intro p; simp [loN]
  | succ n ih =>
    intro p
    have hb := hf p
    have h := ih (p + 1)
    have e : (2 : Int) ^ (n + 1) = 2 ^ n * 2 := Int.pow_succ 2 n
    rw [loN, e]
    omega
theorem loN_split (f : Nat → Int) (t m : Nat) : ∀ p, loN f p (t + m) = loN f p t + 2 ^ t * loN f (p + t) m := by
  induction t with
  | zero => intro p; simp [loN]
  | succ t ih =>
    intro p
    have e : (2 : Int) ^ (t + 1) = 2 ^ t * 2 := Int.pow_succ 2 t
    rw [show t + 1 + m = (t + m) + 1 by omega, loN, loN, ih (p + 1), e, show p + 1 + t = p + (t + 1) by omega, Int.mul_add, Int.add_assoc, Int.mul_comm (2 ^ t) 2, Int.mul_assoc]
theorem loN_bit {f : Nat → Int} (hf : ∀ q, 0 ≤ f q ∧ f q ≤ 1) (p t n : Nat) (h : t < n) : loN f p n / 2 ^ t % 2 = f (p + t) := by
  have e : n = t + ((n - t - 1) + 1) := by omega
  rw [e, loN_split, loN, Int.add_mul_ediv_left _ _ (Int.ne_of_gt (Int.pow_pos (by decide))), Int.ediv_eq_zero_of_lt (loN_rng hf t p).1 (loN_rng hf t p).2]
  have := hf (p + t)
  omega
theorem loN_eq {f g : Nat → Int} (p q n : Nat) (h : ∀ t, t < n → f (p + t) = g (q + t)) : loN f p n = loN g q n := by
  induction n generalizing p q with
  | zero => rfl
  | succ n ih =>
    have h0 := h 0 (by omega)
    rw [Nat.add_zero, Nat.add_zero] at h0
    rw [loN, loN, h0, ih (p + 1) (q + 1) fun t ht => by
      have := h (t + 1) (by omega)
      rwa [show p + (t + 1) = p + 1 + t by omega, show q + (t + 1) = q + 1 + t by omega] at this]
theorem half_half (x : Int) (t : Nat) : x / 2 / 2 ^ t = x / 2 ^ (t + 1) := by
  rw [Int.pow_succ', Int.ediv_ediv_of_nonneg (by decide)]
theorem loN_num (n : Nat) : ∀ x : Int, 0 ≤ x → x < 2 ^ n → loN (fun q => x / 2 ^ q % 2) 0 n = x := by
  induction n with
  | zero =>
    intro x h0 h1
    rw [loN]
    simp at h1
    omega
  | succ n ih =>
    intro x h0 h1
    have e : (2 : Int) ^ (n + 1) = 2 ^ n * 2 := Int.pow_succ 2 n
    have h := ih (x / 2) (by omega) (by rw [e] at h1; omega)
    have h2 : loN (fun q => x / 2 ^ q % 2) (0 + 1) n = loN (fun q => x / 2 / 2 ^ q % 2) 0 n := loN_eq _ _ n fun t _ => by
      simp only [half_half]
      congr 3
      omega
    rw [loN, h2, h]
    simp only [Int.pow_zero, Int.ediv_one]
    omega
theorem hiN_loN (f : Nat → Int) (p D t : Nat) (ht : t ≤ D) : hiN f p D t = loN f (p + (D - t)) t := by
  induction t with
  | zero => rfl
  | succ t ih =>
    rw [hiN, ih (by omega), loN, show p + (D - 1 - t) = p + (D - (t + 1)) by omega, show p + (D - (t + 1)) + 1 = p + (D - t) by omega]
    omega
theorem lo8_loN (f : Nat → Int) (p : Nat) : lo8 f p 8 = loN f p 8 := by
  have h : ∀ t, t ≤ 8 → lo8 f p t = hiN f p 8 t := by
    intro t ht
    induction t with
    | zero => rfl
    | succ t ih => rw [lo8, hiN, ih (by omega)]
  rw [h 8 (by omega), hiN_loN f p 8 8 (by omega), Nat.sub_self, Nat.add_zero]

theorem lbit_far (xs : List Int) (p : Nat) (h : 8 * xs.length ≤ p) : lbit xs p = 0 := by
  unfold lbit
  rw [List.getD_eq_getElem?_getD, List.getElem?_eq_none (by omega)]
  simp
theorem getD_rng8 {xs : List Int} (hr : ∀ x ∈ xs, 0 ≤ x ∧ x < 256) (i : Nat) : 0 ≤ xs.getD i 0 ∧ xs.getD i 0 < 256 := by
  rw [List.getD_eq_getElem?_getD]
  by_cases h : i < xs.length
  · rw [List.getElem?_eq_getElem h]
    exact hr _ (List.getElem_mem h)
  · rw [List.getElem?_eq_none (by omega)]
    simp
/-- A byte is the number of its bits. -/
theorem byte_loN {xs : List Int} (hr : ∀ x ∈ xs, 0 ≤ x ∧ x < 256) (j : Nat) : loN (lbit xs) (8 * j) 8 = xs.getD j 0 := by
  have h := getD_rng8 hr j
  rw [← loN_num 8 (xs.getD j 0) h.1 (by simpa using h.2)]
  exact loN_eq _ _ 8 fun t ht => by rw [lbit_in xs j t ht, Nat.zero_add]
/-- A number of D bits is the number of its bits in the list. -/
theorem num_loN {D : Nat} {ls : List Int} (i : Nat) (h0 : 0 ≤ ls.getD i 0) (h1 : ls.getD i 0 < 2 ^ D) : loN (pbit D ls) (D * i) D = ls.getD i 0 := by
  rw [← loN_num D (ls.getD i 0) h0 h1]
  exact loN_eq _ _ D fun t ht => by rw [pbit_in D ls i t ht, Nat.zero_add]

theorem list_ext5 {a b : List Int} (hl : a.length = b.length) (h : ∀ i, i < a.length → a.getD i 0 = b.getD i 0) : a = b := by
  refine List.ext_getElem hl fun i h1 h2 => ?_
  have := h i h1
  simpa [List.getD, h1, h2] using this
theorem packs_at (d : Nat) (ls : List Int) (q j : Nat) (h : j < q) : (packs d ls q).getD j 0 = loN (pbit d ls) (8 * j) 8 := by
  simp only [packs, List.getD_eq_getElem?_getD, List.getElem?_map, List.getElem?_range h, Option.map_some, Option.getD_some]
  exact lo8_loN _ _
theorem nums_at (D : Nat) (xs : List Int) (n i : Nat) (h : i < n) : (nums D xs n).getD i 0 = loN (lbit xs) (D * i) D := by
  simp only [nums, List.getD_eq_getElem?_getD, List.getElem?_map, List.getElem?_range h, Option.map_some, Option.getD_some]
  rw [hiN_loN _ _ D D (Nat.le_refl _), Nat.sub_self, Nat.add_zero]

/-- A bit of a packing is that of the numbers. -/
theorem lbit_packs (d : Nat) (ls : List Int) (q p : Nat) (h : p < 8 * q) : lbit (packs d ls q) p = pbit d ls p := by
  have e : p = 8 * (p / 8) + p % 8 := (Nat.div_add_mod p 8).symm
  unfold lbit
  rw [packs_at d ls q (p / 8) (by omega), loN_bit (pbit_rng d ls) _ _ 8 (by omega)]
  rw [← e]
/-- A bit of numbers that were taken from bytes is that of the bytes. -/
theorem pbit_nums (D : Nat) (xs : List Int) (n p : Nat) (hD : 0 < D) (h : p < D * n) : pbit D (nums D xs n) p = lbit xs p := by
  have e : p = D * (p / D) + p % D := (Nat.div_add_mod p D).symm
  have h1 : p / D < n := (Nat.div_lt_iff_lt_mul hD).2 (by rw [Nat.mul_comm]; exact h)
  unfold pbit
  rw [nums_at D xs n _ h1, loN_bit (lbit_rng xs) _ _ D (Nat.mod_lt _ hD)]
  rw [← e]

section
variable {D : Nat} (hD1 : 1 ≤ D) (hD2 : D ≤ 32)
include hD1 hD2
theorem sizeI_nat (n : Nat) (hn : n ≤ 1048576) : sizeI D n = ((nbytes D n : Nat) : Int) := by
  unfold sizeI nbytes
  rw [if_neg (by omega)]
  have : ((D * n : Nat) : Int) = (D : Int) * (n : Int) := Int.natCast_mul D n
  rw [← this]
  omega
/-- Numbers that are packed are unpacked again. -/
theorem runpack_pack (ls : List Int) (hn : ls.length ≤ 1048576) (hr : ∀ i, i < ls.length → 0 ≤ ls.getD i 0 ∧ ls.getD i 0 < 2 ^ D) :
    runpack (D : Int) (ls.length : Int) (packs D ls (nbytes D ls.length)) = some ls := by
  have hM : D * ls.length ≤ 8 * nbytes D ls.length := by unfold nbytes; omega
  unfold runpack
  rw [if_neg]
  · congr 1
    refine list_ext5 (by rw [nums_len]; rfl) fun i hi => ?_
    rw [nums_len, Int.toNat_natCast] at hi
    rw [Int.toNat_natCast, Int.toNat_natCast, nums_at D _ _ i hi, ← num_loN i (hr i hi).1 (hr i hi).2]
    refine loN_eq _ _ D fun t ht => lbit_packs D ls _ _ ?_
    have : D * i + D ≤ D * ls.length := by
      have := Nat.mul_le_mul_left D (show i + 1 ≤ ls.length by omega)
      rwa [Nat.mul_succ] at this
    omega
  · rintro (h | h | h | h | h | ⟨p, h1, h2, h3⟩)
    · omega
    · omega
    · omega
    · omega
    · rw [packs_len, sizeI_nat hD1 hD2 ls.length hn] at h
      exact h rfl
    · rw [packs_len] at h1
      rw [Int.toNat_natCast, Int.toNat_natCast] at h2
      rw [lbit_packs D ls _ p h1] at h3
      exact h3 (pbit_far D ls p (by omega) h2)
/-- Bytes that are unpacked are packed again. -/
theorem rpack_unpack {n : Int} {xs ls : List Int} (hr : ∀ x ∈ xs, 0 ≤ x ∧ x < 256) (h : runpack (D : Int) n xs = some ls) : rpack (D : Int) ls = some xs ∧ (ls.length : Int) = n ∧ ls.length ≤ 1048576 ∧ ∀ i, 0 ≤ ls.getD i 0 ∧ ls.getD i 0 < 2 ^ D := by
  unfold runpack at h
  split at h
  · cases h
  · rename_i hn
    injection h with h
    obtain ⟨N, rfl⟩ : ∃ N : Nat, n = (N : Int) := ⟨n.toNat, by omega⟩
    rw [Int.toNat_natCast, Int.toNat_natCast] at *
    subst h
    have hN : N ≤ 1048576 := by omega
    have hlen : xs.length = nbytes D N := by
      have h1 : (xs.length : Int) = sizeI D N := Classical.byContradiction fun h => hn (.inr (.inr (.inr (.inr (.inl h)))))
      rw [sizeI_nat hD1 hD2 N hN] at h1
      omega
    have hz : ∀ p, D * N ≤ p → lbit xs p = 0 := fun p hp => by
      by_cases h8 : p < 8 * xs.length
      · exact Classical.byContradiction fun h => hn (.inr (.inr (.inr (.inr (.inr ⟨p, h8, hp, h⟩)))))
      · exact lbit_far xs p (by omega)
    have hrng : ∀ i, 0 ≤ (nums D xs N).getD i 0 ∧ (nums D xs N).getD i 0 < 2 ^ D := fun i => by
      by_cases hi : i < N
      · rw [nums_at D xs N i hi]
        exact loN_rng (lbit_rng xs) D _
      · rw [List.getD_eq_getElem?_getD, List.getElem?_eq_none (by rw [nums_len]; omega)]
        exact ⟨Int.le_refl _, Int.pow_pos (by decide)⟩
    refine ⟨?_, by rw [nums_len], by rw [nums_len]; exact hN, hrng⟩
    unfold rpack
    rw [if_neg]
    · congr 1
      rw [nums_len, Int.toNat_natCast]
      refine list_ext5 (by rw [packs_len, hlen]) fun j hj => ?_
      rw [packs_len] at hj
      rw [packs_at D _ _ j hj, ← byte_loN hr j]
      refine loN_eq _ _ 8 fun t ht => ?_
      by_cases hp : 8 * j + t < D * N
      · exact pbit_nums D xs N _ (by omega) hp
      · rw [hz _ (by omega)]
        exact pbit_far D _ _ (by omega) (by rw [nums_len]; omega)
    · rintro (h | h | ⟨i, h1, h2⟩)
      · omega
      · omega
      · rw [Int.toNat_natCast] at h2
        exact h2 (hrng i).2
end

end Go.Proofs.Ytdclkhnmpkbgaaa
