/- Plain facts: a round of Keccak, and with it the permutation, takes different states to different states. -/
import Derived.Test.YtamgbkadiobklaaRef6G
namespace Go.Proofs.Ytamgbkadiobklaa
open Go.RowKit

theorem kround_same {A B : Nat → Lane} (h : ∀ i, i < 25 → A i = B i) (rc : Lane) (r : Nat → Nat) : ∀ i, i < 25 → kround A rc r i = kround B rc r i := by
  have hc : ∀ x, x < 5 → cC A x = cC B x := fun x hx => by
    simp only [cC, cP]
    rw [h (x * 5 + 0) (by omega), h (x * 5 + 1) (by omega), h (x * 5 + 2) (by omega), h (x * 5 + 3) (by omega), h (x * 5 + 4) (by omega)]
  have ht : ∀ i, i < 25 → th A i = th B i := fun i hi => by
    unfold th
    rw [h i hi, hc _ (by omega), hc _ (by omega)]
  have hr : ∀ i, i < 25 → rho (th A) r i = rho (th B) r i := fun i hi => by
    unfold rho
    rw [ht _ (dst_src ⟨i, hi⟩).2]
  have hx : ∀ i, i < 25 → chi (rho (th A) r) i = chi (rho (th B) r) i := fun i hi => by
    unfold chi
    rw [hr i hi, hr _ (by omega), hr _ (by omega)]
  intro i hi
  unfold kround iota
  rw [hx i hi, hx 0 (by omega)]

theorem xor_cancel {a b c : Lane} (h : a ^^^ c = b ^^^ c) : a = b := by
  have := congrArg (· ^^^ c) h
  simpa [BitVec.xor_assoc] using this
theorem chi5 : ∀ a0 a1 a2 a3 a4 b0 b1 b2 b3 b4 : Bool,
    (a0 ^^ (!a1 && a2)) = (b0 ^^ (!b1 && b2)) → (a1 ^^ (!a2 && a3)) = (b1 ^^ (!b2 && b3)) → (a2 ^^ (!a3 && a4)) = (b2 ^^ (!b3 && b4)) → (a3 ^^ (!a4 && a0)) = (b3 ^^ (!b4 && b0)) → (a4 ^^ (!a0 && a1)) = (b4 ^^ (!b0 && b1)) →
    a0 = b0 ∧ a1 = b1 ∧ a2 = b2 ∧ a3 = b3 ∧ a4 = b4 := by decide +kernel
theorem chi_bit (B : Nat → Lane) (i t : Nat) (ht : t < 64) : (chi B i).getLsbD t = ((B i).getLsbD t ^^ (!(B ((i / 5 + 1) % 5 * 5 + i % 5)).getLsbD t && (B ((i / 5 + 2) % 5 * 5 + i % 5)).getLsbD t)) := by
  unfold chi
  rw [BitVec.getLsbD_xor, BitVec.getLsbD_and, BitVec.getLsbD_not]
  simp [ht]
theorem chi_inj {A B : Nat → Lane} (h : ∀ i, i < 25 → chi A i = chi B i) : ∀ i, i < 25 → A i = B i := by
  have key : ∀ y, y < 5 → ∀ t, t < 64 → (A (0 * 5 + y)).getLsbD t = (B (0 * 5 + y)).getLsbD t ∧ (A (1 * 5 + y)).getLsbD t = (B (1 * 5 + y)).getLsbD t ∧ (A (2 * 5 + y)).getLsbD t = (B (2 * 5 + y)).getLsbD t ∧ (A (3 * 5 + y)).getLsbD t = (B (3 * 5 + y)).getLsbD t ∧ (A (4 * 5 + y)).getLsbD t = (B (4 * 5 + y)).getLsbD t := by
    intro y hy t ht
    have e : ∀ x, x < 5 → ((A (x * 5 + y)).getLsbD t ^^ (!(A ((x + 1) % 5 * 5 + y)).getLsbD t && (A ((x + 2) % 5 * 5 + y)).getLsbD t)) = ((B (x * 5 + y)).getLsbD t ^^ (!(B ((x + 1) % 5 * 5 + y)).getLsbD t && (B ((x + 2) % 5 * 5 + y)).getLsbD t)) := fun x hx => by
      have hh := congrArg (BitVec.getLsbD · t) (h (x * 5 + y) (by omega))
      rw [chi_bit A _ t ht, chi_bit B _ t ht, show (x * 5 + y) / 5 = x by omega, show (x * 5 + y) % 5 = y by omega] at hh
      exact hh
    exact chi5 _ _ _ _ _ _ _ _ _ _ (e 0 (by omega)) (e 1 (by omega)) (e 2 (by omega)) (e 3 (by omega)) (e 4 (by omega))
  intro i hi
  refine lane_ext fun t ht => ?_
  have k := key (i % 5) (by omega) t ht
  have hx : i / 5 = 0 ∨ i / 5 = 1 ∨ i / 5 = 2 ∨ i / 5 = 3 ∨ i / 5 = 4 := by omega
  rcases hx with hx | hx | hx | hx | hx
  · rw [show i = 0 * 5 + i % 5 by omega]; exact k.1
  · rw [show i = 1 * 5 + i % 5 by omega]; exact k.2.1
  · rw [show i = 2 * 5 + i % 5 by omega]; exact k.2.2.1
  · rw [show i = 3 * 5 + i % 5 by omega]; exact k.2.2.2.1
  · rw [show i = 4 * 5 + i % 5 by omega]; exact k.2.2.2.2
theorem rho_inj {A B : Nat → Lane} {r : Nat → Nat} (h : ∀ i, i < 25 → rho A r i = rho B r i) : ∀ i, i < 25 → A i = B i := fun i hi => by
  obtain ⟨h1, h2⟩ := src_dst ⟨i, hi⟩
  have := h _ h2
  unfold rho at this
  simp only at h1
  rw [h1] at this
  exact rotN_inj this

/-- A linear map of lanes by a place: each one, the one p places on, and the one q places on, rotated by s. -/
def TT (p q s : Nat) (c : Nat → Lane) (x : Nat) : Lane := c x ^^^ c (x + p) ^^^ rotN (c (x + q)) s
theorem xor9 (a b c d e f : Lane) : a ^^^ b ^^^ c ^^^ (b ^^^ d ^^^ e) ^^^ (c ^^^ e ^^^ f) = a ^^^ d ^^^ f := lane_ext fun t _ => by
  simp only [BitVec.getLsbD_xor]
  generalize a.getLsbD t = a
  generalize b.getLsbD t = b
  generalize c.getLsbD t = c
  generalize d.getLsbD t = d
  generalize e.getLsbD t = e
  generalize f.getLsbD t = f
  revert a b c d e f
  decide
theorem TT_TT (p q s : Nat) (c : Nat → Lane) : TT p q s (TT p q s c) = TT (2 * p) (2 * q) (2 * s) c := by
  funext x
  unfold TT
  rw [rotN_xor, rotN_xor, rotN_rotN, show x + q + p = x + p + q by omega, show x + p + p = x + 2 * p by omega, show x + q + q = x + 2 * q by omega, show s + s = 2 * s by omega]
  exact xor9 _ _ _ _ _ _
theorem xor_three (a b c d e : Lane) : a ^^^ b ^^^ e ^^^ (c ^^^ d ^^^ b) ^^^ (d ^^^ e ^^^ c) = a := lane_ext fun t _ => by
  simp only [BitVec.getLsbD_xor]
  generalize a.getLsbD t = a
  generalize b.getLsbD t = b
  generalize c.getLsbD t = c
  generalize d.getLsbD t = d
  generalize e.getLsbD t = e
  revert a b c d e
  decide
def NN (c : Nat → Lane) (x : Nat) : Lane := c x ^^^ c (x + 1) ^^^ c (x + 4)
theorem xor6 (a b c d e : Lane) : a ^^^ b ^^^ e ^^^ (b ^^^ c ^^^ a) ^^^ (e ^^^ a ^^^ d) = a ^^^ c ^^^ d := lane_ext fun t _ => by
  simp only [BitVec.getLsbD_xor]
  generalize a.getLsbD t = a
  generalize b.getLsbD t = b
  generalize c.getLsbD t = c
  generalize d.getLsbD t = d
  generalize e.getLsbD t = e
  revert a b c d e
  decide
theorem NN3 (c : Nat → Lane) (hc : ∀ x, c (x + 5) = c x) : NN (NN (NN c)) = c := by
  have h2 : NN (NN c) = fun x => c x ^^^ c (x + 2) ^^^ c (x + 3) := by
    funext x
    unfold NN
    rw [show x + 1 + 4 = x + 5 by omega, show x + 4 + 1 = x + 5 by omega, show x + 4 + 4 = x + 3 + 5 by omega, show x + 1 + 1 = x + 2 by omega, hc, hc]
    exact xor6 (c x) (c (x + 1)) (c (x + 2)) (c (x + 3)) (c (x + 4))
  rw [h2]
  funext x
  unfold NN
  simp only
  rw [show x + 1 + 2 = x + 3 by omega, show x + 1 + 3 = x + 4 by omega, show x + 4 + 2 = x + 1 + 5 by omega, show x + 4 + 3 = x + 2 + 5 by omega, show x + 1 = x + 1 from rfl, hc, hc]
  have e : ∀ a b c d e : Lane, a ^^^ c ^^^ d ^^^ (b ^^^ d ^^^ e) ^^^ (e ^^^ b ^^^ c) = a := fun a b c d e => lane_ext fun t _ => by
    simp only [BitVec.getLsbD_xor]
    generalize a.getLsbD t = a
    generalize b.getLsbD t = b
    generalize c.getLsbD t = c
    generalize d.getLsbD t = d
    generalize e.getLsbD t = e
    revert a b c d e
    decide
  exact e _ _ _ _ _
theorem per_mul (c : Nat → Lane) (hc : ∀ x, c (x + 5) = c x) (k : Nat) : ∀ x, c (x + 5 * k) = c x := by
  induction k with
  | zero => intro x; rfl
  | succ k ih => intro x; rw [show x + 5 * (k + 1) = (x + 5 * k) + 5 by omega, hc, ih]
theorem TT64 (c : Nat → Lane) (hc : ∀ x, c (x + 5) = c x) : TT 256 64 64 c = NN c := by
  funext x
  unfold TT NN
  rw [rotN_64, show x + 256 = (x + 1) + 5 * 51 by omega, per_mul c hc, show x + 64 = (x + 4) + 5 * 12 by omega, per_mul c hc]
theorem TT_inj {a b : Nat → Lane} (ha : ∀ x, a (x + 5) = a x) (hb : ∀ x, b (x + 5) = b x) (h : TT 4 1 1 a = TT 4 1 1 b) : a = b := by
  have h2 := congrArg (TT 4 1 1) h
  rw [TT_TT, TT_TT] at h2
  have h4 := congrArg (TT (2 * 4) (2 * 1) (2 * 1)) h2
  rw [TT_TT, TT_TT] at h4
  have h8 := congrArg (TT (2 * (2 * 4)) (2 * (2 * 1)) (2 * (2 * 1))) h4
  rw [TT_TT, TT_TT] at h8
  have h16 := congrArg (TT (2 * (2 * (2 * 4))) (2 * (2 * (2 * 1))) (2 * (2 * (2 * 1)))) h8
  rw [TT_TT, TT_TT] at h16
  have h32 := congrArg (TT (2 * (2 * (2 * (2 * 4)))) (2 * (2 * (2 * (2 * 1)))) (2 * (2 * (2 * (2 * 1))))) h16
  rw [TT_TT, TT_TT] at h32
  have h64 := congrArg (TT (2 * (2 * (2 * (2 * (2 * 4))))) (2 * (2 * (2 * (2 * (2 * 1))))) (2 * (2 * (2 * (2 * (2 * 1)))))) h32
  rw [TT_TT, TT_TT] at h64
  have e : ∀ c : Nat → Lane, TT (2 * (2 * (2 * (2 * (2 * (2 * 4)))))) (2 * (2 * (2 * (2 * (2 * (2 * 1)))))) (2 * (2 * (2 * (2 * (2 * (2 * 1)))))) c = TT 256 64 64 c := fun c => rfl
  rw [e, e, TT64 a ha, TT64 b hb] at h64
  rw [← NN3 a ha, h64, NN3 b hb]

theorem par5 (a b c d e z : Lane) : (a ^^^ z) ^^^ (b ^^^ z) ^^^ (c ^^^ z) ^^^ (d ^^^ z) ^^^ (e ^^^ z) = (a ^^^ b ^^^ c ^^^ d ^^^ e) ^^^ z := lane_ext fun t _ => by
  simp only [BitVec.getLsbD_xor]
  generalize a.getLsbD t = a
  generalize b.getLsbD t = b
  generalize c.getLsbD t = c
  generalize d.getLsbD t = d
  generalize e.getLsbD t = e
  generalize z.getLsbD t = z
  revert a b c d e z
  decide
theorem cC_five (A : Nat → Lane) (x : Nat) : cC A x = A (x * 5) ^^^ A (x * 5 + 1) ^^^ A (x * 5 + 2) ^^^ A (x * 5 + 3) ^^^ A (x * 5 + 4) := by
  simp only [cC, cP, Nat.add_zero]
  have : (0 : Lane) ^^^ A (x * 5) = A (x * 5) := BitVec.zero_xor
  rw [this]
theorem cC_th (A : Nat → Lane) (x : Nat) (hx : x < 5) : cC (th A) x = TT 4 1 1 (fun x => cC A (x % 5)) x := by
  have e : ∀ y, y < 5 → th A (x * 5 + y) = A (x * 5 + y) ^^^ (cC A ((x + 4) % 5) ^^^ rotN (cC A ((x + 1) % 5)) 1) := fun y hy => by
    unfold th
    rw [show (x * 5 + y) / 5 = x by omega, BitVec.xor_assoc]
  have e0 := e 0 (by omega)
  rw [Nat.add_zero] at e0
  rw [cC_five, e0, e 1 (by omega), e 2 (by omega), e 3 (by omega), e 4 (by omega), par5, ← cC_five]
  unfold TT
  simp only
  rw [Nat.mod_eq_of_lt hx, BitVec.xor_assoc]
theorem th_inj {A B : Nat → Lane} (h : ∀ i, i < 25 → th A i = th B i) : ∀ i, i < 25 → A i = B i := by
  have hc : ∀ x, x < 5 → cC (th A) x = cC (th B) x := fun x hx => by
    rw [cC_five, cC_five, h _ (by omega), h _ (by omega), h _ (by omega), h _ (by omega), h _ (by omega)]
  have hT : TT 4 1 1 (fun x => cC A (x % 5)) = TT 4 1 1 (fun x => cC B (x % 5)) := by
    have per : ∀ (C : Nat → Lane) (x : Nat), TT 4 1 1 (fun x => cC C (x % 5)) x = TT 4 1 1 (fun x => cC C (x % 5)) (x % 5) := fun C x => by
      unfold TT
      simp only
      rw [show x % 5 % 5 = x % 5 by omega, show (x % 5 + 4) % 5 = (x + 4) % 5 by omega, show (x % 5 + 1) % 5 = (x + 1) % 5 by omega]
    funext x
    rw [per A, per B, ← cC_th A _ (Nat.mod_lt _ (by decide)), ← cC_th B _ (Nat.mod_lt _ (by decide))]
    exact hc _ (Nat.mod_lt _ (by decide))
  have hf := TT_inj (fun x => by simp only [Nat.add_mod_right]) (fun x => by simp only [Nat.add_mod_right]) hT
  have hcc : ∀ x, x < 5 → cC A x = cC B x := fun x hx => by
    have := congrFun hf x
    simp only [Nat.mod_eq_of_lt hx] at this
    exact this
  intro i hi
  have ht := h i hi
  unfold th at ht
  rw [hcc _ (by omega), hcc _ (by omega)] at ht
  exact xor_cancel (xor_cancel ht)
theorem iota_inj {A B : Nat → Lane} {rc : Lane} (h : ∀ i, i < 25 → iota A rc i = iota B rc i) : ∀ i, i < 25 → A i = B i := fun i hi => by
  have := h i hi
  unfold iota at this
  by_cases e : i = 0
  · subst e
    rw [if_pos rfl, if_pos rfl] at this
    exact xor_cancel this
  · rwa [if_neg e, if_neg e] at this
theorem kround_inj {A B : Nat → Lane} {rc : Lane} {r : Nat → Nat} (h : ∀ i, i < 25 → kround A rc r i = kround B rc r i) : ∀ i, i < 25 → A i = B i :=
  th_inj (rho_inj (chi_inj (iota_inj h)))
theorem kS_inj {A B : Nat → Lane} (n : Nat) (h : ∀ i, i < 25 → kS A n i = kS B n i) : ∀ i, i < 25 → A i = B i := by
  induction n with
  | zero => exact h
  | succ n ih => exact ih (kround_inj h)
theorem kperm_inj {A B : Nat → Lane} (h : ∀ i, i < 25 → kperm A i = kperm B i) : ∀ i, i < 25 → A i = B i := kS_inj 24 h

end Go.Proofs.Ytamgbkadiobklaa
