/- The transform of a sum; the reference's sums from the highest coefficient down. -/
import Derived.Test.YtmhhkhbdjkbklaaK14C
namespace Go.Proofs.Ytmhhkhbdjkbklaa
set_option linter.unusedVariables false

def addF (f g : Nat → Int) (j : Nat) : Int := (f j + g j) % 3329
theorem sp_add (s : Nat) (f g : Nat → Int) : sp s (addF f g) = addF (sp s f) (sp s g) := by
  funext j
  by_cases h : j % (2 * s) < s
  · have e : ∀ f, sp s f j = (f j + wS s (j / (2 * s)) * f (j + s)) % 3329 := fun f => if_pos h
    unfold addF
    rw [e, e, e]
    refine cg.eq (((cg.mod _).add ((cg.refl _).mul (cg.mod _))).trans ((cg.of_eq ?_).trans ((cg.mod _).symm.add (cg.mod _).symm)))
    grind
  · have e : ∀ f, sp s f j = (f (j - s) - wS s (j / (2 * s)) * f j) % 3329 := fun f => if_neg h
    unfold addF
    rw [e, e, e]
    refine cg.eq (((cg.mod _).sub ((cg.refl _).mul (cg.mod _))).trans ((cg.of_eq ?_).trans ((cg.mod _).symm.add (cg.mod _).symm)))
    grind
theorem ntt_add (f g : Nat → Int) : ntt (addF f g) = addF (ntt f) (ntt g) := by
  unfold ntt
  simp only [sp_add]
/-- What the reference holds once the coefficients from k on are taken. -/
def hor (f : Nat → Int) (n k : Nat) (z : Int) : Int := ev (fun t => f (k + t)) (n - k) z % 3329
theorem hor_top (f : Nat → Int) (n : Nat) (z : Int) : hor f n n z = 0 := by unfold hor; rw [Nat.sub_self]; rfl
theorem hor_step (f : Nat → Int) (n k : Nat) (z : Int) (hk : k < n) : (hor f n (k + 1) z * z + f k) % 3329 = hor f n k z := by
  unfold hor
  rw [show n - k = (n - (k + 1)) + 1 by omega]
  have e : ev (fun t => f (k + (t + 1))) (n - (k + 1)) z = ev (fun t => f (k + 1 + t)) (n - (k + 1)) z := ev_ext fun i _ => by rw [show k + (i + 1) = k + 1 + i by omega]
  rw [ev]
  simp only [Nat.add_zero]
  rw [e]
  exact cg.eq ((((cg.mod _).mul (cg.refl z)).add (cg.refl (f k))).trans (cg.of_eq (by grind)))
theorem hor_zero (f : Nat → Int) (n : Nat) (z : Int) : hor f n 0 z = ev f n z % 3329 := by
  unfold hor
  rw [Nat.sub_zero, ev_ext (f := fun t => f (0 + t)) (g := f) fun i _ => by rw [Nat.zero_add]]
theorem hor_lt (f : Nat → Int) (n k : Nat) (z : Int) : 0 ≤ hor f n k z ∧ hor f n k z < 3329 := by unfold hor; omega
end Go.Proofs.Ytmhhkhbdjkbklaa
