/- The contracts of the program's package dring. -/
import Derived.Test.YtngbmaojgfocgaaR17G
import Derived.Test.YtngbmaojgfocgaaEq
namespace Go.Proofs.Ytngbmaojgfocgaa.dr
open Go.RowKit
set_option linter.unusedVariables false

/-- Coefficients of 32 bits. -/
def R32 (f : Nat → Int) : Prop := ∀ j, 0 ≤ f j ∧ f j < 4294967296
theorem R32.of_low {f : Nat → Int} (h : ∀ j, 0 ≤ f j ∧ f j < 8380417) : R32 f := fun j => by have := h j; omega
structure Prog17 : Prop where
  reduce : ∀ (n : Int) (w : World), -9223372036854775808 ≤ n → n < 9223372036854775808 → Calls Try.prog 21 #[.int .i64 n] w fun e w' => e = .returned (.int .u32 (n % 8380417)) ∧ Past w w'
  rootIn : ∀ (i : Nat) (w : World), i < 256 → Calls Try.prog 22 #[.int .i64 (i : Int)] w fun e w' => e = .returned (.tuple #[.int .u32 (rt i), .bool true]) ∧ Past w w'
  rootOut : ∀ (i : Int) (w : World), (i < 0 ∨ 255 < i) → Calls Try.prog 22 #[.int .i64 i] w fun e w' => e = .returned (.tuple #[.int .u32 0, .bool false]) ∧ Past w w'
  add : ∀ (a b : Nat → Int) (w : World), R32 a → R32 b → Calls Try.prog 19 #[.agg (arr .u32 256 a), .agg (arr .u32 256 b)] w fun e w' => e = .returned (.agg (arr .u32 256 (addF a b))) ∧ Past w w'
  sub : ∀ (a b : Nat → Int) (w : World), R32 a → R32 b → Calls Try.prog 18 #[.agg (arr .u32 256 a), .agg (arr .u32 256 b)] w fun e w' => e = .returned (.agg (arr .u32 256 (subF a b))) ∧ Past w w'
  mul : ∀ (a b : Nat → Int) (w : World), R32 a → R32 b → Calls Try.prog 15 #[.agg (arr .u32 256 a), .agg (arr .u32 256 b)] w fun e w' => e = .returned (.agg (arr .u32 256 (mulF a b))) ∧ Past w w'
  ntt : ∀ (a : Nat → Int) (w : World), R32 a → Calls Try.prog 10 #[.agg (arr .u32 256 a)] w fun e w' => e = .returned (.agg (arr .u32 256 (ntt a))) ∧ Past w w'
  intt : ∀ (a : Nat → Int) (w : World), R32 a → Calls Try.prog 13 #[.agg (arr .u32 256 a)] w fun e w' => e = .returned (.agg (arr .u32 256 (intt a))) ∧ Past w w'
  norm : ∀ (a : Nat → Int) (w : World), R32 a → Calls Try.prog 24 #[.agg (arr .u32 256 a)] w fun e w' => e = .returned (.int .u32 (nrm a 256)) ∧ Past w w'
/-- The polynomial c. -/
def dlt (c : Int) (j : Nat) : Int := if j = 0 then c else 0
theorem dlt_rng {c : Int} (h0 : 0 ≤ c) (h1 : c < 4294967296) : R32 (dlt c) := fun j => by unfold dlt; split <;> omega
theorem ntt_dlt (i : Nat) (hi : i < 256) : ntt (dlt 1) i = 1 := by
  rw [ntt_at (dlt 1) i hi]
  have : ev (dlt 1) 256 (rt i) = 1 := by
    rw [show (256 : Nat) = 255 + 1 from rfl, ev, ev_ext (g := fun _ => 0) fun t _ => by unfold dlt; rw [if_neg (by omega)], ev_zero]
    rfl
  rw [this]
  decide
theorem rdc_dlt : rdc (dlt 1) = dlt 1 := by
  funext j
  unfold rdc dlt
  split <;> decide
theorem rdc_low {f : Nat → Int} (h : ∀ j, 0 ≤ f j ∧ f j < 8380417) : rdc f = f := by
  funext j
  have := h j
  unfold rdc
  omega
/-- The polynomial of the chapter's example. -/
def exF (j : Nat) : Int := if j = 0 then 8380415 else if j = 1 then 1 else if j = 2 then 1 else 0
theorem exF_rng : R32 exF := fun j => by unfold exF; split <;> (try split) <;> (try split) <;> omega
theorem nrm_ex : nrm exF 256 = 2 := by decide +kernel
/-- Arrays as lists of cells. -/
def lst (f : Nat → Int) : List Value := (List.range 256).map fun i => Value.int .u32 (f i)
theorem arr_lst (f : Nat → Int) : arr .u32 256 f = (lst f).toArray := rfl
theorem row_lst {w : World} {g : Nat} {t : TypeId} {f : Nat → Int} (h : Row w g t (arr .u32 256 f)) : w.rangeAt g 0 (lst f) := fun j v hj => by
  rw [Nat.zero_add, h.cell]
  rw [arr_lst]
  simpa using hj
theorem lst_len (f : Nat → Int) : (Try.prog.info? 25).map (·.size) = some (lst f).length ∧ (Try.prog.info? 27).map (·.size) = some (lst f).length := by
  have : (lst f).length = 256 := by unfold lst; simp
  rw [this]
  exact ⟨by kernel_rfl, by kernel_rfl⟩
theorem intt_prod (f g : Nat → Int) (j : Nat) (hj : j < 256) : intt (mulF (ntt f) (ntt g)) j = prod f g 256 j := by
  rw [intt_lt (g := ntt (prod f g 256)) (fun i hi => (ntt_prod_at f g i hi).symm) j hj, intt_ntt, rdc_low (prod_low f g 256)]
theorem step_wanted {P : Program} {ops : Array Oper} {o : Oper} {a : Act} {w : World} {K : Act → World → Prop} {Q : Exit → Act → World → Prop} {E : Prop} (hg : o.guard = none) (h : Oper.wp P o a w K Q) :
    if Region.wanted o (yielded ops a.tmps) = true then Oper.wp P o a w K Q else E := by
  rw [if_pos (by simp [Region.wanted, hg])]
  exact h
end Go.Proofs.Ytngbmaojgfocgaa.dr
