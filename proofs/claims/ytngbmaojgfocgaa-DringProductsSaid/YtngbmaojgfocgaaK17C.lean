/- The product modulo X^256 + 1 becomes the product of the values; sums, differences; the reference's values from the highest coefficient down. -/
import Derived.Test.YtngbmaojgfocgaaK17B
namespace Go.Proofs.Ytngbmaojgfocgaa.dr
set_option linter.unusedVariables false

/-- A coefficient changed. -/
def setF (f : Nat → Int) (m : Nat) (v : Int) (j : Nat) : Int := if j = m then v else f j
theorem ev_set (f : Nat → Int) (n : Nat) (z : Int) (m : Nat) (v : Int) (hm : m < n) : ev (setF f m v) n z = ev f n z + (v - f m) * z ^ m := by
  induction n with
  | zero => omega
  | succ n ih =>
    rw [ev_snoc, ev_snoc]
    by_cases h : m = n
    · subst h
      have : ev (setF f m v) m z = ev f m z := ev_ext fun i hi => if_neg (by omega)
      rw [this, show setF f m v m = v from if_pos rfl]
      grind
    · rw [ih (by omega), show setF f m v n = f n from if_neg (by omega)]
      grind
/-- z to the power of 256 is -1. -/
theorem rt_256 (c : Fin 256) : (rt c.val) ^ 256 % 8380417 = 8380416 := by
  revert c
  decide +kernel
theorem rt_wrap (c : Nat) (hc : c < 256) (n : Nat) (hn : 256 ≤ n) : cg ((rt c) ^ n) (- (rt c) ^ (n - 256)) := by
  have h : cg ((rt c) ^ 256) (-1) := cg.iff.2 (by rw [rt_256 ⟨c, hc⟩]; rfl)
  have e : (rt c) ^ n = (rt c) ^ (n - 256) * (rt c) ^ 256 := by rw [← Int.pow_add, show n - 256 + 256 = n by omega]
  rw [e]
  exact ((cg.refl _).mul h).trans (cg.of_eq (by grind))
/-- One step of the product: the coefficients i of a and k of b, into place. -/
def pstep (a b : Nat → Int) (i : Nat) (o : Nat → Int) (k : Nat) : Nat → Int :=
  if i + k < 256 then setF o (i + k) ((o (i + k) + a i % 8380417 * (b k % 8380417) % 8380417) % 8380417)
  else setF o (i + k - 256) ((o (i + k - 256) + 8380417 - a i % 8380417 * (b k % 8380417) % 8380417) % 8380417)
/-- Row after row, place after place. -/
def prow (a b : Nat → Int) (i : Nat) (o : Nat → Int) : Nat → Nat → Int
  | 0 => o
  | k + 1 => pstep a b i (prow a b i o k) k
def prod (a b : Nat → Int) : Nat → Nat → Int
  | 0 => fun _ => 0
  | i + 1 => prow a b i (prod a b i) 256
theorem pstep_low (a b : Nat → Int) (i : Nat) (o : Nat → Int) (k : Nat) (h : ∀ j, 0 ≤ o j ∧ o j < 8380417) (j : Nat) : 0 ≤ pstep a b i o k j ∧ pstep a b i o k j < 8380417 := by
  have hs : ∀ m v, 0 ≤ v → v < 8380417 → 0 ≤ setF o m v j ∧ setF o m v j < 8380417 := fun m v h0 h1 => by
    unfold setF
    split
    · exact ⟨h0, h1⟩
    · exact h j
  unfold pstep
  split <;> exact hs _ _ (by omega) (by omega)
theorem prow_low (a b : Nat → Int) (i : Nat) (o : Nat → Int) (h : ∀ j, 0 ≤ o j ∧ o j < 8380417) (k : Nat) : ∀ j, 0 ≤ prow a b i o k j ∧ prow a b i o k j < 8380417 := by
  induction k with
  | zero => exact h
  | succ k ih => exact pstep_low _ _ _ _ _ ih
theorem prod_low (a b : Nat → Int) (i : Nat) : ∀ j, 0 ≤ prod a b i j ∧ prod a b i j < 8380417 := by
  induction i with
  | zero => intro j; simp [prod]
  | succ i ih => exact prow_low _ _ _ _ ih _
theorem cg_c (a b : Int) : cg (a % 8380417 * (b % 8380417) % 8380417) (a * b) := (cg.mod _).trans ((cg.mod _).mul (cg.mod _))
/-- The value of a polynomial. -/
def vl (f : Nat → Int) (z : Int) : Int := ev f 256 z
theorem vl_set (f : Nat → Int) (z : Int) (m : Nat) (v : Int) (hm : m < 256) : vl (setF f m v) z = vl f z + (v - f m) * z ^ m := ev_set f 256 z m v hm
theorem pstep_e (a b : Nat → Int) (i : Nat) (o : Nat → Int) (k c : Nat) (hi : i < 256) (hk : k < 256) (hc : c < 256) :
    cg (vl (pstep a b i o k) (rt c)) (vl o (rt c) + a i * b k * (rt c) ^ (i + k)) := by
  unfold pstep
  have hcc := cg_c (a i) (b k)
  by_cases h : i + k < 256
  · rw [if_pos h, vl_set _ _ _ _ h]
    have hd : cg ((o (i + k) + a i % 8380417 * (b k % 8380417) % 8380417) % 8380417 - o (i + k)) (a i * b k) := by
      refine ((cg.mod _).sub (cg.refl _)).trans ((cg.of_eq ?_).trans hcc)
      omega
    exact (cg.refl _).add (hd.mul (cg.refl _))
  · rw [if_neg h, vl_set _ _ _ _ (by omega)]
    have hd : cg ((o (i + k - 256) + 8380417 - a i % 8380417 * (b k % 8380417) % 8380417) % 8380417 - o (i + k - 256)) (-(a i * b k)) := by
      refine ((cg.mod _).sub (cg.refl _)).trans (cg.trans ?_ hcc.neg)
      exact ⟨1, by omega⟩
    have h1 := rt_wrap c hc (i + k) (by omega)
    refine (cg.refl _).add ((hd.mul (cg.refl _)).trans ?_)
    exact (cg.of_eq (by grind)).trans ((cg.refl (a i * b k)).mul h1.symm)
theorem prow_e (a b : Nat → Int) (i : Nat) (o : Nat → Int) (c : Nat) (hi : i < 256) (hc : c < 256) (k : Nat) (hk : k ≤ 256) :
    cg (vl (prow a b i o k) (rt c)) (vl o (rt c) + a i * (rt c) ^ i * ev b k (rt c)) := by
  induction k with
  | zero =>
    refine cg.of_eq ?_
    rw [ev, Int.mul_zero, Int.add_zero]
    rfl
  | succ k ih =>
    have g1 := pstep_e a b i (prow a b i o k) k c hi (by omega) hc
    have h1 := ih (by omega)
    rw [ev_snoc]
    show cg (vl (pstep a b i (prow a b i o k) k) (rt c)) _
    rw [Int.pow_add] at g1
    exact g1.trans ((h1.add (cg.refl _)).trans (cg.of_eq (by grind)))
theorem ev_zero (n : Nat) (z : Int) : ev (fun _ => 0) n z = 0 := by
  induction n with
  | zero => rfl
  | succ n ih => rw [ev, ih, Int.mul_zero, Int.add_zero]
theorem prod_e (a b : Nat → Int) (c : Nat) (hc : c < 256) (i : Nat) (hi : i ≤ 256) :
    cg (vl (prod a b i) (rt c)) (ev a i (rt c) * vl b (rt c)) := by
  obtain ⟨p, hp⟩ : ∃ p, vl b (rt c) = p := ⟨_, rfl⟩
  rw [hp]
  induction i with
  | zero =>
    have z0 : vl (prod a b 0) (rt c) = 0 := ev_zero 256 _
    rw [z0]
    exact cg.of_eq (by simp [ev])
  | succ i ih =>
    have h1 := ih (by omega)
    have g1 := prow_e a b i (prod a b i) c (by omega) hc 256 (Nat.le_refl _)
    rw [show ev b 256 (rt c) = p from hp] at g1
    clear hp ih
    have f0 : prod a b (i + 1) = prow a b i (prod a b i) 256 := rfl
    rw [f0, ev_snoc]
    refine g1.trans ((h1.add (cg.refl (a i * rt c ^ i * p))).trans (cg.of_eq ?_))
    generalize ev a i (rt c) = u
    generalize rt c ^ i = t
    rw [Int.add_mul]
/-- The product in the transform. -/
def mulF (a b : Nat → Int) (j : Nat) : Int := a j % 8380417 * (b j % 8380417) % 8380417
theorem mulF_low (a b : Nat → Int) (j : Nat) : 0 ≤ mulF a b j ∧ mulF a b j < 8380417 := by unfold mulF; omega
theorem ntt_prod_at (a b : Nat → Int) (j : Nat) (hj : j < 256) : ntt (prod a b 256) j = mulF (ntt a) (ntt b) j := by
  unfold mulF
  rw [ntt_at _ j hj, ntt_at a j hj, ntt_at b j hj]
  refine ((prod_e a b j hj 256 (Nat.le_refl _)).trans ?_).eq
  exact ((cg.mod _).trans (cg.mod _)).symm.mul ((cg.mod _).trans (cg.mod _)).symm

def addF (f g : Nat → Int) (j : Nat) : Int := (f j + g j) % 8380417
def subF (f g : Nat → Int) (j : Nat) : Int := (f j - g j) % 8380417
theorem sp_sub (s : Nat) (f g : Nat → Int) : sp s (subF f g) = subF (sp s f) (sp s g) := by
  funext j
  by_cases h : j % (2 * s) < s
  · have e : ∀ f, sp s f j = (f j + wS s (j / (2 * s)) * f (j + s)) % 8380417 := fun f => if_pos h
    unfold subF
    rw [e, e, e]
    refine cg.eq (((cg.mod _).add ((cg.refl _).mul (cg.mod _))).trans ((cg.of_eq ?_).trans ((cg.mod _).symm.sub (cg.mod _).symm)))
    grind
  · have e : ∀ f, sp s f j = (f (j - s) - wS s (j / (2 * s)) * f j) % 8380417 := fun f => if_neg h
    unfold subF
    rw [e, e, e]
    refine cg.eq (((cg.mod _).sub ((cg.refl _).mul (cg.mod _))).trans ((cg.of_eq ?_).trans ((cg.mod _).symm.sub (cg.mod _).symm)))
    grind
theorem ntt_sub (f g : Nat → Int) : ntt (subF f g) = subF (ntt f) (ntt g) := by
  unfold ntt
  simp only [sp_sub]
/-- What the reference holds once the coefficients from k on are taken. -/
def hor (f : Nat → Int) (n k : Nat) (z : Int) : Int := ev (fun t => f (k + t)) (n - k) z % 8380417
theorem hor_top (f : Nat → Int) (n : Nat) (z : Int) : hor f n n z = 0 := by unfold hor; rw [Nat.sub_self]; rfl
theorem hor_step (f : Nat → Int) (n k : Nat) (z : Int) (hk : k < n) : (hor f n (k + 1) z * z + f k) % 8380417 = hor f n k z := by
  unfold hor
  rw [show n - k = (n - (k + 1)) + 1 by omega]
  have e : ev (fun t => f (k + (t + 1))) (n - (k + 1)) z = ev (fun t => f (k + 1 + t)) (n - (k + 1)) z := ev_ext fun i _ => by rw [show k + (i + 1) = k + 1 + i by omega]
  rw [ev]
  simp only [Nat.add_zero]
  rw [e]
  exact cg.eq ((((cg.mod _).mul (cg.refl z)).add (cg.refl (f k))).trans (cg.of_eq (by grind)))
theorem hor_zero (f : Nat → Int) (n : Nat) (z : Int) : hor f n 0 z = ev f n z % 8380417 := by
  unfold hor
  rw [Nat.sub_zero, ev_ext (f := fun t => f (0 + t)) (g := f) fun i _ => by rw [Nat.zero_add]]
theorem hor_lt (f : Nat → Int) (n k : Nat) (z : Int) : 0 ≤ hor f n k z ∧ hor f n k z < 8380417 := by unfold hor; omega
end Go.Proofs.Ytngbmaojgfocgaa.dr
