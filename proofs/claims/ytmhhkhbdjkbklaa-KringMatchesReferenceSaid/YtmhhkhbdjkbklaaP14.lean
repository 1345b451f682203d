/- The contracts of the program's package kring. -/
import Derived.Test.YtmhhkhbdjkbklaaR14F
import Derived.Test.YtmhhkhbdjkbklaaEq
namespace Go.Proofs.Ytmhhkhbdjkbklaa
open Go.RowKit
set_option linter.unusedVariables false

def subF (f g : Nat → Int) (j : Nat) : Int := (f j - g j) % 3329
/-- Coefficients of 16 bits. -/
def R16 (f : Nat → Int) : Prop := ∀ j, 0 ≤ f j ∧ f j < 65536
theorem R16.of_low {f : Nat → Int} (h : ∀ j, 0 ≤ f j ∧ f j < 3329) : R16 f := fun j => by have := h j; omega
structure Prog14 : Prop where
  reduce : ∀ (n : Int) (w : World), -9223372036854775808 ≤ n → n < 9223372036854775808 → Calls Try.prog 22 #[.int .i64 n] w fun e w' => e = .returned (.int .u16 (n % 3329)) ∧ w' = w
  rootIn : ∀ (i : Nat) (w : World), i < 128 → Calls Try.prog 21 #[.int .i64 (i : Int)] w fun e w' => e = .returned (.tuple #[.int .u16 (rt i), .bool true]) ∧ Past w w'
  rootOut : ∀ (i : Int) (w : World), (i < 0 ∨ 127 < i) → Calls Try.prog 21 #[.int .i64 i] w fun e w' => e = .returned (.tuple #[.int .u16 0, .bool false]) ∧ Past w w'
  add : ∀ (a b : Nat → Int) (w : World), R16 a → R16 b → Calls Try.prog 18 #[.agg (arr .u16 256 a), .agg (arr .u16 256 b)] w fun e w' => e = .returned (.agg (arr .u16 256 (addF a b))) ∧ Past w w'
  sub : ∀ (a b : Nat → Int) (w : World), R16 a → R16 b → Calls Try.prog 19 #[.agg (arr .u16 256 a), .agg (arr .u16 256 b)] w fun e w' => e = .returned (.agg (arr .u16 256 (subF a b))) ∧ Past w w'
  mul : ∀ (a b : Nat → Int) (w : World), R16 a → R16 b → Calls Try.prog 15 #[.agg (arr .u16 256 a), .agg (arr .u16 256 b)] w fun e w' => e = .returned (.agg (arr .u16 256 (mulF a b))) ∧ Past w w'
  ntt : ∀ (a : Nat → Int) (w : World), R16 a → Calls Try.prog 10 #[.agg (arr .u16 256 a)] w fun e w' => e = .returned (.agg (arr .u16 256 (ntt a))) ∧ Past w w'
  intt : ∀ (a : Nat → Int) (w : World), R16 a → Calls Try.prog 13 #[.agg (arr .u16 256 a)] w fun e w' => e = .returned (.agg (arr .u16 256 (intt a))) ∧ Past w w'
  valid : ∀ (a : Nat → Int) (w : World), R16 a → Calls Try.prog 14 #[.agg (arr .u16 256 a)] w fun e w' => ∃ v, e = .returned (.bool v) ∧ (v = true ↔ ∀ j, j < 256 → a j < 3329) ∧ Past w w'
section
variable (H : Prog14)
include H
theorem Prog14.validT (a : Nat → Int) (w : World) (h : ∀ j, 0 ≤ a j ∧ a j < 3329) : Calls Try.prog 14 #[.agg (arr .u16 256 a)] w fun e w' => e = .returned (.bool true) ∧ Past w w' := by
  refine (H.valid a w (R16.of_low h)).mono ?_
  rintro e w' ⟨v, rfl, hv, hp⟩
  rw [hv.2 fun j _ => (h j).2]
  exact ⟨rfl, hp⟩
theorem Prog14.validF (a : Nat → Int) (w : World) (h : R16 a) (j : Nat) (hj : j < 256) (hb : ¬ a j < 3329) : Calls Try.prog 14 #[.agg (arr .u16 256 a)] w fun e w' => e = .returned (.bool false) ∧ Past w w' := by
  refine (H.valid a w h).mono ?_
  rintro e w' ⟨v, rfl, hv, hp⟩
  cases v with
  | false => exact ⟨rfl, hp⟩
  | true => exact absurd (hv.1 rfl j hj) hb
end
/-- The polynomial c. -/
def dlt (c : Int) (j : Nat) : Int := if j = 0 then c else 0
theorem dlt_rng {c : Int} (h0 : 0 ≤ c) (h1 : c < 65536) : R16 (dlt c) := fun j => by unfold dlt; split <;> omega
theorem ev_zero (n : Nat) (z : Int) : ev (fun _ => 0) n z = 0 := by
  induction n with
  | zero => rfl
  | succ n ih => rw [ev, ih, Int.mul_zero, Int.add_zero]
theorem ntt_dlt (i : Nat) (hi : i < 128) : ntt (dlt 1) (2 * i) = 1 ∧ ntt (dlt 1) (2 * i + 1) = 0 := by
  obtain ⟨h0, h1⟩ := ntt_at (dlt 1) i hi
  rw [h0, h1]
  constructor
  · have : ev (fun t => dlt 1 (2 * t)) 128 (rt i) = 1 := by
      rw [show (128 : Nat) = 127 + 1 from rfl, ev, ev_ext (g := fun _ => 0) fun t _ => by unfold dlt; rw [if_neg (by omega)], ev_zero]
      rfl
    rw [this]
    decide
  · have : ev (fun t => dlt 1 (2 * t + 1)) 128 (rt i) = 0 := by
      rw [ev_ext (g := fun _ => 0) fun t _ => by unfold dlt; rw [if_neg (by omega)], ev_zero]
    rw [this]
    decide
theorem rdc_dlt : rdc (dlt 1) = dlt 1 := by
  funext j
  unfold rdc dlt
  split <;> decide
theorem rdc_low {f : Nat → Int} (h : ∀ j, 0 ≤ f j ∧ f j < 3329) : rdc f = f := by
  funext j
  have := h j
  unfold rdc
  omega
/-- Arrays as lists of cells. -/
def lst (f : Nat → Int) : List Value := (List.range 256).map fun i => Value.int .u16 (f i)
theorem arr_lst (f : Nat → Int) : arr .u16 256 f = (lst f).toArray := rfl
theorem row_lst {w : World} {g : Nat} {t : TypeId} {f : Nat → Int} (h : Row w g t (arr .u16 256 f)) : w.rangeAt g 0 (lst f) := fun j v hj => by
  rw [Nat.zero_add, h.cell]
  rw [arr_lst]
  simpa using hj
theorem lst_len (f : Nat → Int) : (Try.prog.info? 26).map (·.size) = some (lst f).length ∧ (Try.prog.info? 28).map (·.size) = some (lst f).length := by
  have : (lst f).length = 256 := by unfold lst; simp
  rw [this]
  exact ⟨by kernel_rfl, by kernel_rfl⟩
end Go.Proofs.Ytmhhkhbdjkbklaa
