/- The arithmetic of the program's buffer: what its shifts and masks do to the bits that it holds. -/
import Derived.Test.YtdclkhnmpkbgaaaImp5B
namespace Go.Proofs.Ytdclkhnmpkbgaaa
open Go.RowKit

theorem loN_zero {f : Nat → Int} (n : Nat) : ∀ p, (∀ t, t < n → f (p + t) = 0) → loN f p n = 0 := by
  induction n with
  | zero => intro p _; rfl
  | succ n ih =>
    intro p h
    have h0 := h 0 (by omega)
    rw [Nat.add_zero] at h0
    rw [loN, h0, ih (p + 1) fun t ht => by
      have := h (t + 1) (by omega)
      rwa [show p + (t + 1) = p + 1 + t by omega] at this]
    rfl
theorem loN_eq_zero {f : Nat → Int} (hf : ∀ q, 0 ≤ f q ∧ f q ≤ 1) {p n : Nat} (h : loN f p n = 0) (t : Nat) (ht : t < n) : f (p + t) = 0 := by
  rw [← loN_bit hf p t n ht, h]
  simp
/-- The bits that are held, with one number more behind them. -/
theorem join_num {D : Nat} {ls : List Int} {i q r : Nat} (h : 8 * q + r = D * i) (h0 : 0 ≤ ls.getD i 0) (h1 : ls.getD i 0 < 2 ^ D) :
    loN (pbit D ls) (8 * q) r + ls.getD i 0 * 2 ^ r = loN (pbit D ls) (8 * q) (r + D) := by
  rw [loN_split, h, num_loN i h0 h1, Int.mul_comm]
/-- .. and with one byte more. -/
theorem join_byte {xs : List Int} (hr : ∀ x ∈ xs, 0 ≤ x ∧ x < 256) {p h j : Nat} (e : p + h = 8 * j) :
    loN (lbit xs) p h + xs.getD j 0 * 2 ^ h = loN (lbit xs) p (h + 8) := by
  rw [loN_split, e, byte_loN hr, Int.mul_comm]
theorem low_bits (f : Nat → Int) (hf : ∀ q, 0 ≤ f q ∧ f q ≤ 1) (p D h : Nat) (hh : D ≤ h) : loN f p h % 2 ^ D = loN f p D ∧ loN f p h / 2 ^ D = loN f (p + D) (h - D) := by
  have e : h = D + (h - D) := by omega
  have hp : (0 : Int) < 2 ^ D := Int.pow_pos (by decide)
  have hr := loN_rng hf D p
  rw [e, loN_split, ← e]
  constructor
  · rw [Int.add_mul_emod_self_left]
    exact Int.emod_eq_of_lt hr.1 hr.2
  · rw [Int.add_mul_ediv_left _ _ (Int.ne_of_gt hp), Int.ediv_eq_zero_of_lt hr.1 hr.2, Int.zero_add]
theorem pow_le (a b : Nat) (h : a ≤ b) : (2 : Int) ^ a ≤ 2 ^ b := by
  have h1 : (2 : Nat) ^ a ≤ 2 ^ b := Nat.pow_le_pow_right (by decide) h
  exact_mod_cast h1
theorem shl_small {X : Int} {r s : Nat} (h0 : 0 ≤ X) (h1 : X < 2 ^ s) (hs : s + r ≤ 63) : IntKind.u64.wrap (X * 2 ^ r) = X * 2 ^ r ∧ 0 ≤ X * 2 ^ r ∧ X * 2 ^ r < 2 ^ 63 := by
  have hp : (0 : Int) < 2 ^ r := Int.pow_pos (by decide)
  have a0 : 0 ≤ X * 2 ^ r := Int.mul_nonneg h0 (Int.le_of_lt hp)
  have a1 : X * 2 ^ r < 2 ^ 63 := by
    have h : X * 2 ^ r < 2 ^ s * 2 ^ r := Int.mul_lt_mul_of_pos_right h1 hp
    rw [← Int.pow_add] at h
    exact Int.lt_of_lt_of_le h (pow_le _ _ hs)
  refine ⟨?_, a0, a1⟩
  rw [IntKind.wrap_u64]
  omega
theorem or_join {B X : Int} {r s : Nat} (b0 : 0 ≤ B) (b1 : B < 2 ^ r) (h0 : 0 ≤ X) (h1 : X < 2 ^ s) (hs : s + r ≤ 63) : bits .or .u64 B (X * 2 ^ r) = B + X * 2 ^ r := by
  obtain ⟨_, a0, a1⟩ := shl_small h0 h1 hs
  have hb : B < 2 ^ 63 := Int.lt_of_lt_of_le b1 (pow_le r 63 (by omega))
  have a2 : X * 2 ^ r < 2 ^ 64 := by omega
  have b2 : B < 2 ^ 64 := by omega
  exact bits_join_low .u64 64 (by decide) wraps_u64 r B (X * 2 ^ r) b0 b1 b2 a0 (Int.mul_emod_left _ _) a2
theorem mask_low {B : Int} {D : Nat} (b0 : 0 ≤ B) (b1 : B < 2 ^ 63) (hD : D ≤ 32) : bits .and .u64 B (2 ^ D - 1) = B % 2 ^ D :=
  bits_mask .u64 64 (by decide) wraps_u64 D (by omega) B b0 (by omega)

end Go.Proofs.Ytdclkhnmpkbgaaa
