/- The inverse of the product in the transform is the product modulo X^256 + 1. -/
import Derived.Test.YtmhhkhbdjkbklaaFrame14
namespace Go.Proofs.Ytmhhkhbdjkbklaa
open Go.RowKit
set_option linter.unusedVariables false

theorem step_wanted {P : Program} {ops : Array Oper} {o : Oper} {a : Act} {w : World} {K : Act → World → Prop} {Q : Exit → Act → World → Prop} {E : Prop} (hg : o.guard = none) (h : Oper.wp P o a w K Q) :
    if Region.wanted o (yielded ops a.tmps) = true then Oper.wp P o a w K Q else E := by
  rw [if_pos (by simp [Region.wanted, hg])]
  exact h
theorem jn_local {s m : Nat} (hs : 0 < s) (hm : 256 = 2 * s * m) {f g : Nat → Int} (h : ∀ j, j < 256 → f j = g j) (j : Nat) (hj : j < 256) : jn s f j = jn s g j := by
  unfold jn jnd
  split
  · rename_i hlow
    have e := Nat.div_add_mod j (2 * s)
    have hq : j / (2 * s) < m := Nat.div_lt_of_lt_mul (by omega)
    have hb : 2 * s * (j / (2 * s)) + 2 * s ≤ 2 * s * m := by
      rw [← Nat.mul_succ]
      exact Nat.mul_le_mul_left _ hq
    rw [h j hj, h (j + s) (by omega)]
  · rw [h j hj, h (j - s) (by omega)]
theorem intt_local {f g : Nat → Int} (h : ∀ j, j < 256 → f j = g j) (j : Nat) (hj : j < 256) : intt f j = intt g j := by
  unfold intt
  exact jn_local (s := 128) (m := 1) (by decide) rfl (jn_local (s := 64) (m := 2) (by decide) rfl (jn_local (s := 32) (m := 4) (by decide) rfl (jn_local (s := 16) (m := 8) (by decide) rfl (jn_local (s := 8) (m := 16) (by decide) rfl (jn_local (s := 4) (m := 32) (by decide) rfl (jn_local (s := 2) (m := 64) (by decide) rfl h)))))) j hj
theorem intt_prod (f g : Nat → Int) (j : Nat) (hj : j < 256) : intt (mulF (ntt f) (ntt g)) j = prod f g 256 j := by
  rw [intt_local (g := ntt (prod f g 256)) (fun i hi => (ntt_prod_at f g i hi).symm) j hj, intt_ntt, rdc_low (prod_low f g 256)]
theorem mulF_low (f g : Nat → Int) (j : Nat) : 0 ≤ mulF f g j ∧ mulF f g j < 3329 := by unfold mulF; split <;> omega
end Go.Proofs.Ytmhhkhbdjkbklaa
