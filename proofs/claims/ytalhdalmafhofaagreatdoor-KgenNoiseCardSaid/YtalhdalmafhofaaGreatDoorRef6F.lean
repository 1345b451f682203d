/- Contracts of the reference of Keccak: the permutation, and the bytes of a state. Contract of the reference of Keccak: the bytes of a state. Plain facts: a round of Keccak, and with it the permutation, takes different states to different states. States by x + 5 * y: what a round and the permutation make of them, in the words of the reference. A round of Keccak in lanes by x + 5 * y, as a program in one array of 25 lanes reckons it. math/bits.RotateLeft64 by a number from 0 to 63: the contract. -/
import Derived.Test.YtalhdalmafhofaaGreatDoorRef6E
import Derived.Deep.WholeRow
import Derived.StillTailTactics
import Derived.Laws.BitsLemmas
import Derived.Lib.EndianBits
namespace Go.Proofs.YtalhdalmafhofaaGreatDoor
set_option maxRecDepth 100000
open Go.RowKit

def rcL (i : Nat) : Lane := BitVec.ofNat 64 (rcs.getD i 0)
def offN (i : Nat) : Nat := offs.getD i 0
theorem rcF_ln : ∀ i : Fin 24, rcF i.val = ln (rcL i.val) := by decide +kernel
theorem offN_lt : ∀ i : Fin 25, offN i.val < 64 := by decide +kernel
/-- The state after n rounds. -/
def kS (A : Nat → Lane) : Nat → Nat → Lane
  | 0 => A
  | n + 1 => kround (kS A n) (rcL n) offN
def kperm (A : Nat → Lane) : Nat → Lane := kS A 24

/-- A load of a whole array among operations that only read. -/
theorem still_load_row {P : Program} {ops : Array Oper} {w : World} {Q : Act → Prop} {a : Act} {o : Oper} {rest : List Oper} (hgd : o.guard = none) (ty : TypeId) (x : Operand) (ho : o.op = .load ty x) (g : Nat) (hx : a.eval x = .pointer (some ⟨g, 0, none⟩)) (t : TypeId) (cs : Array Value) (d : TypeDesc) (hg : Row w g t cs)
    (hu : P.underlying ty = some d) (hd : (match d with | .struct _ | .array _ _ => true | _ => false) = true) (hi : (P.info? ty).map (·.size) = some cs.size) (h : wpStill P ops w Q rest (a.put o.dst (.agg cs))) : wpStill P ops w Q (o :: rest) a := by
  refine wpStill_step fun K hK => ?_
  rw [if_pos (by unfold Region.wanted; rw [hgd])]
  unfold Oper.still execOp
  simp only [ho, hx, Instr.loadAt, Instr.sureAddr, Sem.run_bind, Sem.run_pure, Result.andThen_ok, run_loadVar_row w g t ty cs (0, 0) d hg hu hd hi]
  exact ⟨rfl, hK _ h⟩
theorem past_alloc6 (w : World) (o : Obj) : Past w (w.alloc o) := (Below.refl _ _).alloc (Nat.le_refl _) _

end Go.Proofs.YtalhdalmafhofaaGreatDoor

namespace Go.Proofs.YtalhdalmafhofaaGreatDoor
open Go.RowKit

theorem zero200 (w : World) : (zeroValue 67).run Tryz.prog w = .ok (.agg (arr .u8 200 fun _ => 0)) w := by kernel_rfl
/-- Byte j of a state. -/
def kbyte (A : Nat → Lane) (j : Nat) : Int := ln (A (j / 8)) / 256 ^ (j % 8) % 256
theorem pow256_succ (k : Nat) (x : Int) : x / 256 ^ (k + 1) = x / 256 ^ k / 256 := by
  rw [Int.pow_succ, Int.ediv_ediv_of_nonneg (by exact Int.le_of_lt (Int.pow_pos (by decide)))]

theorem u64_div256 (y : Int) (h0 : 0 ≤ y) (h1 : y < 18446744073709551616) : IntKind.u64.wrap (y.tdiv 256) = y / 256 := by
  rw [IntKind.wrap_u64, Int.tdiv_eq_ediv_of_nonneg h0]
  omega

end Go.Proofs.YtalhdalmafhofaaGreatDoor

namespace Go.Proofs.YtalhdalmafhofaaGreatDoor
open Go.RowKit

theorem kround_same {A B : Nat → Lane} (h : ∀ i, i < 25 → A i = B i) (rc : Lane) (r : Nat → Nat) : ∀ i, i < 25 → kround A rc r i = kround B rc r i := by
  have hc : ∀ x, x < 5 → cC A x = cC B x := fun x hx => by
    simp only [cC, cP]
    rw [h (x * 5 + 0) (by omega), h (x * 5 + 1) (by omega), h (x * 5 + 2) (by omega), h (x * 5 + 3) (by omega), h (x * 5 + 4) (by omega)]
  have ht : ∀ i, i < 25 → th A i = th B i := fun i hi => by
    unfold th
    rw [h i hi, hc _ (by omega), hc _ (by omega)]
  have hr : ∀ i, i < 25 → rho (th A) r i = rho (th B) r i := fun i hi => by
    unfold rho
    rw [ht _ (dst_src ⟨i, hi⟩).2]
  have hx : ∀ i, i < 25 → chi (rho (th A) r) i = chi (rho (th B) r) i := fun i hi => by
    unfold chi
    rw [hr i hi, hr _ (by omega), hr _ (by omega)]
  intro i hi
  unfold kround iota
  rw [hx i hi, hx 0 (by omega)]

theorem xor_cancel {a b c : Lane} (h : a ^^^ c = b ^^^ c) : a = b := by
  have := congrArg (· ^^^ c) h
  simpa [BitVec.xor_assoc] using this
theorem chi5 : ∀ a0 a1 a2 a3 a4 b0 b1 b2 b3 b4 : Bool,
    (a0 ^^ (!a1 && a2)) = (b0 ^^ (!b1 && b2)) → (a1 ^^ (!a2 && a3)) = (b1 ^^ (!b2 && b3)) → (a2 ^^ (!a3 && a4)) = (b2 ^^ (!b3 && b4)) → (a3 ^^ (!a4 && a0)) = (b3 ^^ (!b4 && b0)) → (a4 ^^ (!a0 && a1)) = (b4 ^^ (!b0 && b1)) →
    a0 = b0 ∧ a1 = b1 ∧ a2 = b2 ∧ a3 = b3 ∧ a4 = b4 := by decide +kernel
theorem chi_bit (B : Nat → Lane) (i t : Nat) (ht : t < 64) : (chi B i).getLsbD t = ((B i).getLsbD t ^^ (!(B ((i / 5 + 1) % 5 * 5 + i % 5)).getLsbD t && (B ((i / 5 + 2) % 5 * 5 + i % 5)).getLsbD t)) := by
  unfold chi
  rw [BitVec.getLsbD_xor, BitVec.getLsbD_and, BitVec.getLsbD_not]
  simp [ht]
theorem chi_inj {A B : Nat → Lane} (h : ∀ i, i < 25 → chi A i = chi B i) : ∀ i, i < 25 → A i = B i := by
  have key : ∀ y, y < 5 → ∀ t, t < 64 → (A (0 * 5 + y)).getLsbD t = (B (0 * 5 + y)).getLsbD t ∧ (A (1 * 5 + y)).getLsbD t = (B (1 * 5 + y)).getLsbD t ∧ (A (2 * 5 + y)).getLsbD t = (B (2 * 5 + y)).getLsbD t ∧ (A (3 * 5 + y)).getLsbD t = (B (3 * 5 + y)).getLsbD t ∧ (A (4 * 5 + y)).getLsbD t = (B (4 * 5 + y)).getLsbD t := by
    intro y hy t ht
    have e : ∀ x, x < 5 → ((A (x * 5 + y)).getLsbD t ^^ (!(A ((x + 1) % 5 * 5 + y)).getLsbD t && (A ((x + 2) % 5 * 5 + y)).getLsbD t)) = ((B (x * 5 + y)).getLsbD t ^^ (!(B ((x + 1) % 5 * 5 + y)).getLsbD t && (B ((x + 2) % 5 * 5 + y)).getLsbD t)) := fun x hx => by
      have hh := congrArg (BitVec.getLsbD · t) (h (x * 5 + y) (by omega))
      rw [chi_bit A _ t ht, chi_bit B _ t ht, show (x * 5 + y) / 5 = x by omega, show (x * 5 + y) % 5 = y by omega] at hh
      exact hh
    exact chi5 _ _ _ _ _ _ _ _ _ _ (e 0 (by omega)) (e 1 (by omega)) (e 2 (by omega)) (e 3 (by omega)) (e 4 (by omega))
  intro i hi
  refine lane_ext fun t ht => ?_
  have k := key (i % 5) (by omega) t ht
  have hx : i / 5 = 0 ∨ i / 5 = 1 ∨ i / 5 = 2 ∨ i / 5 = 3 ∨ i / 5 = 4 := by omega
  rcases hx with hx | hx | hx | hx | hx
  · rw [show i = 0 * 5 + i % 5 by omega]; exact k.1
  · rw [show i = 1 * 5 + i % 5 by omega]; exact k.2.1
  · rw [show i = 2 * 5 + i % 5 by omega]; exact k.2.2.1
  · rw [show i = 3 * 5 + i % 5 by omega]; exact k.2.2.2.1
  · rw [show i = 4 * 5 + i % 5 by omega]; exact k.2.2.2.2
theorem rho_inj {A B : Nat → Lane} {r : Nat → Nat} (h : ∀ i, i < 25 → rho A r i = rho B r i) : ∀ i, i < 25 → A i = B i := fun i hi => by
  obtain ⟨h1, h2⟩ := src_dst ⟨i, hi⟩
  have := h _ h2
  unfold rho at this
  simp only at h1
  rw [h1] at this
  exact rotN_inj this

/-- A linear map of lanes by a place: each one, the one p places on, and the one q places on, rotated by s. -/
def TT (p q s : Nat) (c : Nat → Lane) (x : Nat) : Lane := c x ^^^ c (x + p) ^^^ rotN (c (x + q)) s
theorem xor9 (a b c d e f : Lane) : a ^^^ b ^^^ c ^^^ (b ^^^ d ^^^ e) ^^^ (c ^^^ e ^^^ f) = a ^^^ d ^^^ f := lane_ext fun t _ => by
  simp only [BitVec.getLsbD_xor]
  generalize a.getLsbD t = a
  generalize b.getLsbD t = b
  generalize c.getLsbD t = c
  generalize d.getLsbD t = d
  generalize e.getLsbD t = e
  generalize f.getLsbD t = f
  revert a b c d e f
  decide
theorem TT_TT (p q s : Nat) (c : Nat → Lane) : TT p q s (TT p q s c) = TT (2 * p) (2 * q) (2 * s) c := by
  funext x
  unfold TT
  rw [rotN_xor, rotN_xor, rotN_rotN, show x + q + p = x + p + q by omega, show x + p + p = x + 2 * p by omega, show x + q + q = x + 2 * q by omega, show s + s = 2 * s by omega]
  exact xor9 _ _ _ _ _ _
theorem xor_three (a b c d e : Lane) : a ^^^ b ^^^ e ^^^ (c ^^^ d ^^^ b) ^^^ (d ^^^ e ^^^ c) = a := lane_ext fun t _ => by
  simp only [BitVec.getLsbD_xor]
  generalize a.getLsbD t = a
  generalize b.getLsbD t = b
  generalize c.getLsbD t = c
  generalize d.getLsbD t = d
  generalize e.getLsbD t = e
  revert a b c d e
  decide
def NN (c : Nat → Lane) (x : Nat) : Lane := c x ^^^ c (x + 1) ^^^ c (x + 4)
theorem xor6 (a b c d e : Lane) : a ^^^ b ^^^ e ^^^ (b ^^^ c ^^^ a) ^^^ (e ^^^ a ^^^ d) = a ^^^ c ^^^ d := lane_ext fun t _ => by
  simp only [BitVec.getLsbD_xor]
  generalize a.getLsbD t = a
  generalize b.getLsbD t = b
  generalize c.getLsbD t = c
  generalize d.getLsbD t = d
  generalize e.getLsbD t = e
  revert a b c d e
  decide
theorem NN3 (c : Nat → Lane) (hc : ∀ x, c (x + 5) = c x) : NN (NN (NN c)) = c := by
  have h2 : NN (NN c) = fun x => c x ^^^ c (x + 2) ^^^ c (x + 3) := by
    funext x
    unfold NN
    rw [show x + 1 + 4 = x + 5 by omega, show x + 4 + 1 = x + 5 by omega, show x + 4 + 4 = x + 3 + 5 by omega, show x + 1 + 1 = x + 2 by omega, hc, hc]
    exact xor6 (c x) (c (x + 1)) (c (x + 2)) (c (x + 3)) (c (x + 4))
  rw [h2]
  funext x
  unfold NN
  simp only
  rw [show x + 1 + 2 = x + 3 by omega, show x + 1 + 3 = x + 4 by omega, show x + 4 + 2 = x + 1 + 5 by omega, show x + 4 + 3 = x + 2 + 5 by omega, show x + 1 = x + 1 from rfl, hc, hc]
  have e : ∀ a b c d e : Lane, a ^^^ c ^^^ d ^^^ (b ^^^ d ^^^ e) ^^^ (e ^^^ b ^^^ c) = a := fun a b c d e => lane_ext fun t _ => by
    simp only [BitVec.getLsbD_xor]
    generalize a.getLsbD t = a
    generalize b.getLsbD t = b
    generalize c.getLsbD t = c
    generalize d.getLsbD t = d
    generalize e.getLsbD t = e
    revert a b c d e
    decide
  exact e _ _ _ _ _
theorem per_mul (c : Nat → Lane) (hc : ∀ x, c (x + 5) = c x) (k : Nat) : ∀ x, c (x + 5 * k) = c x := by
  induction k with
  | zero => intro x; rfl
  | succ k ih => intro x; rw [show x + 5 * (k + 1) = (x + 5 * k) + 5 by omega, hc, ih]
theorem TT64 (c : Nat → Lane) (hc : ∀ x, c (x + 5) = c x) : TT 256 64 64 c = NN c := by
  funext x
  unfold TT NN
  rw [rotN_64, show x + 256 = (x + 1) + 5 * 51 by omega, per_mul c hc, show x + 64 = (x + 4) + 5 * 12 by omega, per_mul c hc]
theorem TT_inj {a b : Nat → Lane} (ha : ∀ x, a (x + 5) = a x) (hb : ∀ x, b (x + 5) = b x) (h : TT 4 1 1 a = TT 4 1 1 b) : a = b := by
  have h2 := congrArg (TT 4 1 1) h
  rw [TT_TT, TT_TT] at h2
  have h4 := congrArg (TT (2 * 4) (2 * 1) (2 * 1)) h2
  rw [TT_TT, TT_TT] at h4
  have h8 := congrArg (TT (2 * (2 * 4)) (2 * (2 * 1)) (2 * (2 * 1))) h4
  rw [TT_TT, TT_TT] at h8
  have h16 := congrArg (TT (2 * (2 * (2 * 4))) (2 * (2 * (2 * 1))) (2 * (2 * (2 * 1)))) h8
  rw [TT_TT, TT_TT] at h16
  have h32 := congrArg (TT (2 * (2 * (2 * (2 * 4)))) (2 * (2 * (2 * (2 * 1)))) (2 * (2 * (2 * (2 * 1))))) h16
  rw [TT_TT, TT_TT] at h32
  have h64 := congrArg (TT (2 * (2 * (2 * (2 * (2 * 4))))) (2 * (2 * (2 * (2 * (2 * 1))))) (2 * (2 * (2 * (2 * (2 * 1)))))) h32
  rw [TT_TT, TT_TT] at h64
  have e : ∀ c : Nat → Lane, TT (2 * (2 * (2 * (2 * (2 * (2 * 4)))))) (2 * (2 * (2 * (2 * (2 * (2 * 1)))))) (2 * (2 * (2 * (2 * (2 * (2 * 1)))))) c = TT 256 64 64 c := fun c => rfl
  rw [e, e, TT64 a ha, TT64 b hb] at h64
  rw [← NN3 a ha, h64, NN3 b hb]

theorem par5 (a b c d e z : Lane) : (a ^^^ z) ^^^ (b ^^^ z) ^^^ (c ^^^ z) ^^^ (d ^^^ z) ^^^ (e ^^^ z) = (a ^^^ b ^^^ c ^^^ d ^^^ e) ^^^ z := lane_ext fun t _ => by
  simp only [BitVec.getLsbD_xor]
  generalize a.getLsbD t = a
  generalize b.getLsbD t = b
  generalize c.getLsbD t = c
  generalize d.getLsbD t = d
  generalize e.getLsbD t = e
  generalize z.getLsbD t = z
  revert a b c d e z
  decide
theorem cC_five (A : Nat → Lane) (x : Nat) : cC A x = A (x * 5) ^^^ A (x * 5 + 1) ^^^ A (x * 5 + 2) ^^^ A (x * 5 + 3) ^^^ A (x * 5 + 4) := by
  simp only [cC, cP, Nat.add_zero]
  have : (0 : Lane) ^^^ A (x * 5) = A (x * 5) := BitVec.zero_xor
  rw [this]
theorem cC_th (A : Nat → Lane) (x : Nat) (hx : x < 5) : cC (th A) x = TT 4 1 1 (fun x => cC A (x % 5)) x := by
  have e : ∀ y, y < 5 → th A (x * 5 + y) = A (x * 5 + y) ^^^ (cC A ((x + 4) % 5) ^^^ rotN (cC A ((x + 1) % 5)) 1) := fun y hy => by
    unfold th
    rw [show (x * 5 + y) / 5 = x by omega, BitVec.xor_assoc]
  have e0 := e 0 (by omega)
  rw [Nat.add_zero] at e0
  rw [cC_five, e0, e 1 (by omega), e 2 (by omega), e 3 (by omega), e 4 (by omega), par5, ← cC_five]
  unfold TT
  simp only
  rw [Nat.mod_eq_of_lt hx, BitVec.xor_assoc]
theorem th_inj {A B : Nat → Lane} (h : ∀ i, i < 25 → th A i = th B i) : ∀ i, i < 25 → A i = B i := by
  have hc : ∀ x, x < 5 → cC (th A) x = cC (th B) x := fun x hx => by
    rw [cC_five, cC_five, h _ (by omega), h _ (by omega), h _ (by omega), h _ (by omega), h _ (by omega)]
  have hT : TT 4 1 1 (fun x => cC A (x % 5)) = TT 4 1 1 (fun x => cC B (x % 5)) := by
    have per : ∀ (C : Nat → Lane) (x : Nat), TT 4 1 1 (fun x => cC C (x % 5)) x = TT 4 1 1 (fun x => cC C (x % 5)) (x % 5) := fun C x => by
      unfold TT
      simp only
      rw [show x % 5 % 5 = x % 5 by omega, show (x % 5 + 4) % 5 = (x + 4) % 5 by omega, show (x % 5 + 1) % 5 = (x + 1) % 5 by omega]
    funext x
    rw [per A, per B, ← cC_th A _ (Nat.mod_lt _ (by decide)), ← cC_th B _ (Nat.mod_lt _ (by decide))]
    exact hc _ (Nat.mod_lt _ (by decide))
  have hf := TT_inj (fun x => by simp only [Nat.add_mod_right]) (fun x => by simp only [Nat.add_mod_right]) hT
  have hcc : ∀ x, x < 5 → cC A x = cC B x := fun x hx => by
    have := congrFun hf x
    simp only [Nat.mod_eq_of_lt hx] at this
    exact this
  intro i hi
  have ht := h i hi
  unfold th at ht
  rw [hcc _ (by omega), hcc _ (by omega)] at ht
  exact xor_cancel (xor_cancel ht)
theorem iota_inj {A B : Nat → Lane} {rc : Lane} (h : ∀ i, i < 25 → iota A rc i = iota B rc i) : ∀ i, i < 25 → A i = B i := fun i hi => by
  have := h i hi
  unfold iota at this
  by_cases e : i = 0
  · subst e
    rw [if_pos rfl, if_pos rfl] at this
    exact xor_cancel this
  · rwa [if_neg e, if_neg e] at this
theorem kround_inj {A B : Nat → Lane} {rc : Lane} {r : Nat → Nat} (h : ∀ i, i < 25 → kround A rc r i = kround B rc r i) : ∀ i, i < 25 → A i = B i :=
  th_inj (rho_inj (chi_inj (iota_inj h)))
theorem kS_inj {A B : Nat → Lane} (n : Nat) (h : ∀ i, i < 25 → kS A n i = kS B n i) : ∀ i, i < 25 → A i = B i := by
  induction n with
  | zero => exact h
  | succ n ih => exact ih (kround_inj h)
theorem kperm_inj {A B : Nat → Lane} (h : ∀ i, i < 25 → kperm A i = kperm B i) : ∀ i, i < 25 → A i = B i := kS_inj 24 h

end Go.Proofs.YtalhdalmafhofaaGreatDoor

namespace Go.Proofs.YtalhdalmafhofaaGreatDoor
open Go.RowKit

/-- The lanes by x * 5 + y of lanes by x + 5 * y, and the other way round. -/
def tr (S : Nat → Lane) (j : Nat) : Lane := S (j / 5 + 5 * (j % 5))
theorem tr_tr (S : Nat → Lane) (i : Nat) (h : i < 25) : tr (tr S) i = S i := by
  have e : (i / 5 + 5 * (i % 5)) / 5 + 5 * ((i / 5 + 5 * (i % 5)) % 5) = i := by omega
  unfold tr
  rw [e]
theorem tr_same {A B : Nat → Lane} (h : ∀ i, i < 25 → A i = B i) (j : Nat) (hj : j < 25) : tr A j = tr B j := by
  unfold tr
  exact h _ (by omega)
theorem tr_inj {A B : Nat → Lane} (h : ∀ i, i < 25 → tr A i = tr B i) (i : Nat) (hi : i < 25) : A i = B i := by
  rw [← tr_tr A i hi, ← tr_tr B i hi]
  exact tr_same h i hi
/-- A state as a value. -/
abbrev fl (S : Nat → Lane) : Value := .agg (arr .u64 25 fun i => ln (S i))
/-- The state after a round, and after the permutation. -/
def prd (S : Nat → Lane) (i : Nat) : Nat → Lane := tr (kround (tr S) (rcL i) offN)
def ppm (S : Nat → Lane) : Nat → Lane := tr (kperm (tr S))
def prdI (S : Nat → Lane) (i : Int) : Nat → Lane := if 0 ≤ i ∧ i < 24 then prd S i.toNat else S
/-- The offsets by the index of the lane. -/
def poff (i : Nat) : Int := offF ((i % 5) * 5 + i / 5)

/-- The rounds one after another. -/
def prS (S : Nat → Lane) : Nat → Nat → Lane
  | 0 => S
  | i + 1 => prd (prS S i) i
theorem prS_kS (S : Nat → Lane) : ∀ n i, i < 25 → tr (prS S n) i = kS (tr S) n i
  | 0, _, _ => rfl
  | n + 1, i, hi => by
    show tr (tr (kround (tr (prS S n)) (rcL n) offN)) i = kround (kS (tr S) n) (rcL n) offN i
    rw [tr_tr _ i hi]
    exact kround_same (prS_kS S n) _ _ i hi
theorem prS_ppm (S : Nat → Lane) (i : Nat) (hi : i < 25) : prS S 24 i = ppm S i :=
  tr_inj (fun j hj => by rw [prS_kS S 24 j hj, show ppm S = tr (kperm (tr S)) from rfl, tr_tr _ j hj]; rfl) i hi

end Go.Proofs.YtalhdalmafhofaaGreatDoor

namespace Go.Proofs.YtalhdalmafhofaaGreatDoor
open Go.RowKit

def sg (j : Nat) : Nat := j / 5 + 5 * (j % 5)
theorem sg_sg (j : Nat) (h : j < 25) : sg (sg j) = j := by unfold sg; omega
theorem sg_lt (j : Nat) (h : j < 25) : sg j < 25 := by unfold sg; omega
theorem tr_sg (S : Nat → Lane) (j : Nat) : tr S j = S (sg j) := rfl
/-- The parity of a column. -/
def fC (S : Nat → Lane) (x : Nat) : Lane := S x ^^^ S (x + 5) ^^^ S (x + 10) ^^^ S (x + 15) ^^^ S (x + 20)
theorem fC_cC (S : Nat → Lane) (x : Nat) : fC S x = cC (tr S) x := by
  rw [cC_five]
  simp only [tr_sg, fC]
  rw [show sg (x * 5) = x by unfold sg; omega, show sg (x * 5 + 1) = x + 5 by unfold sg; omega, show sg (x * 5 + 2) = x + 10 by unfold sg; omega, show sg (x * 5 + 3) = x + 15 by unfold sg; omega, show sg (x * 5 + 4) = x + 20 by unfold sg; omega]
def fth (S : Nat → Lane) (j : Nat) : Lane := S j ^^^ fC S ((j % 5 + 4) % 5) ^^^ rotN (fC S ((j % 5 + 1) % 5)) 1
theorem fth_th (S : Nat → Lane) (i : Nat) (hi : i < 25) : tr (fth S) i = th (tr S) i := by
  show fth S (sg i) = _
  unfold fth th
  have e : sg i % 5 = i / 5 := by unfold sg; omega
  rw [e, fC_cC S, fC_cC S]
  rfl
/-- Where the lane at the place j comes from, and where the lane at the place i goes. -/
def fsrc (j : Nat) : Nat := sg (srcI (sg j))
def fdst (i : Nat) : Nat := i / 5 + 5 * ((2 * (i % 5) + 3 * (i / 5)) % 5)
theorem fsrc_fdst : ∀ i : Fin 25, fsrc (fdst i.val) = i.val ∧ fdst i.val < 25 := by decide +kernel
theorem fdst_fsrc : ∀ j : Fin 25, fdst (fsrc j.val) = j.val ∧ fsrc j.val < 25 := by decide +kernel
/-- The offset of the lane at the place i. -/
def roff (i : Nat) : Nat := offN (i % 5 * 5 + i / 5)
theorem roff_lt : ∀ i : Fin 25, roff i.val < 64 := by decide +kernel
theorem poff_roff (i : Nat) : poff i = ((roff i : Nat) : Int) := rfl
def frho (T : Nat → Lane) (j : Nat) : Lane := rotN (T (fsrc j)) (roff (fsrc j))
theorem frho_rho {T A : Nat → Lane} (h : ∀ i, i < 25 → tr T i = A i) (i : Nat) (hi : i < 25) : tr (frho T) i = rho A offN i := by
  show frho T (sg i) = _
  unfold frho rho fsrc
  rw [sg_sg i hi]
  have hs := (dst_src ⟨i, hi⟩).2
  have e : roff (sg (srcI i)) = offN (srcI i) := by
    unfold roff
    have : sg (srcI i) % 5 * 5 + sg (srcI i) / 5 = srcI i := by
      have hs : srcI i < 25 := hs
      unfold sg
      omega
    rw [this]
  rw [e, ← h (srcI i) hs]
  rfl
def fchi (B : Nat → Lane) (j : Nat) : Lane := B j ^^^ (~~~ B ((j % 5 + 1) % 5 + 5 * (j / 5)) &&& B ((j % 5 + 2) % 5 + 5 * (j / 5)))
theorem fchi_chi {B A : Nat → Lane} (h : ∀ i, i < 25 → tr B i = A i) (i : Nat) (hi : i < 25) : tr (fchi B) i = chi A i := by
  show fchi B (sg i) = _
  unfold fchi chi
  have e1 : sg i % 5 = i / 5 := by unfold sg; omega
  have e2 : sg i / 5 = i % 5 := by unfold sg; omega
  rw [e1, e2, ← h i hi, ← h _ (show (i / 5 + 1) % 5 * 5 + i % 5 < 25 by omega), ← h _ (show (i / 5 + 2) % 5 * 5 + i % 5 < 25 by omega)]
  simp only [tr_sg]
  rw [show sg ((i / 5 + 1) % 5 * 5 + i % 5) = (i / 5 + 1) % 5 + 5 * (i % 5) by unfold sg; omega, show sg ((i / 5 + 2) % 5 * 5 + i % 5) = (i / 5 + 2) % 5 + 5 * (i % 5) by unfold sg; omega]
def fiota (A : Nat → Lane) (rc : Lane) (i : Nat) : Lane := if i = 0 then A 0 ^^^ rc else A i
theorem fiota_iota {B A : Nat → Lane} (h : ∀ i, i < 25 → tr B i = A i) (rc : Lane) (i : Nat) (hi : i < 25) : tr (fiota B rc) i = iota A rc i := by
  show fiota B rc (sg i) = _
  unfold fiota iota
  by_cases h0 : i = 0
  · subst h0
    rw [show sg 0 = 0 from rfl, if_pos rfl, ← h 0 (by decide)]
    rfl
  · rw [if_neg (by unfold sg; omega), if_neg h0, ← h i hi]
    rfl
/-- A round. -/
def frnd (S : Nat → Lane) (rc : Lane) : Nat → Lane := fiota (fchi (frho (fth S))) rc
theorem frnd_prd (S : Nat → Lane) (n i : Nat) (hi : i < 25) : frnd S (rcL n) i = prd S n i := by
  refine tr_inj (fun j hj => ?_) i hi
  rw [show prd S n = tr (kround (tr S) (rcL n) offN) from rfl, tr_tr _ j hj]
  exact fiota_iota (fchi_chi (frho_rho (fth_th S))) (rcL n) j hj

end Go.Proofs.YtalhdalmafhofaaGreatDoor

namespace Go.Proofs.YtalhdalmafhofaaGreatDoor
open Go.RowKit

theorem shl_ln (x : Lane) (k : Nat) : IntKind.u64.wrap (ln x * 2 ^ k) = ln (x <<< k) := by
  rw [IntKind.wrap_u64]
  unfold ln
  rw [BitVec.toNat_shiftLeft, Nat.shiftLeft_eq]
  have e : ((x.toNat * 2 ^ k : Nat) : Int) = (x.toNat : Int) * 2 ^ k := by rw [Int.natCast_mul, Int.natCast_pow]; rfl
  rw [← e]
  omega
theorem shr_ln (x : Lane) (k : Nat) : ln x / 2 ^ k = ln (x >>> k) := by
  unfold ln
  rw [BitVec.toNat_ushiftRight, Nat.shiftRight_eq_div_pow]
  have e : ((2 ^ k : Nat) : Int) = 2 ^ k := Int.natCast_pow 2 k
  rw [← e]
  omega
theorem rot_ln (x : Lane) (k m : Nat) (hk : k + m = 64) (hm : 0 < m) : bits .or .u64 (IntKind.u64.wrap (ln x * 2 ^ k)) (ln x / 2 ^ m) = ln (rotN x k) := by
  rw [shl_ln, shr_ln, or_ln, rotN_left x k (by omega)]
  congr 1
  rw [BitVec.rotateLeft_def, Nat.mod_eq_of_lt (show k < 64 by omega), show 64 - k = m by omega]

theorem rotl_any (x : Lane) (k : Nat) (hk : k < 64) (w : World) :
    Calls Tryz.prog 102 #[.int .u64 (ln x), .int .i64 (k : Int)] w fun e w' => e = .returned (.int .u64 (ln (rotN x k))) ∧ w = w' := by
  have hr := ln_rng x
  obtain ⟨m, hm⟩ : ∃ m, 64 - k = m := ⟨_, rfl⟩
  have hmi : (64 : Int) - (k : Int) = (m : Int) := by omega
  have ha : bits .and .u64 (k : Int) 63 = (k : Int) := by
    have h := bits_mask .u64 64 (by decide) wraps_u64 6 (by decide) (k : Int) (by omega) (by omega)
    have e : ((2 : Int) ^ 6 - 1) = 63 := by decide
    rw [e] at h
    rw [h]
    omega
  have hk0 : (0 : Int) ≤ (k : Int) := by omega
  have hk1 : (k : Int) < 64 := by omega
  have hR := Lib.hid (rot_ln x k m (by omega) (by omega))
  generalize ln x = y at *
  go_enter Tryz.func102, Tryz.ntmps102
  go_wp2
  go_ret
  exact ⟨congrArg (fun z => Ending.returned (Value.int .u64 z)) hR.out, rfl⟩

end Go.Proofs.YtalhdalmafhofaaGreatDoor
