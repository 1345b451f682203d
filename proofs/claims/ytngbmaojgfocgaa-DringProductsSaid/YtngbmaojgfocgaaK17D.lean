/- The reference's inverse: sums of values divided by powers of the roots; it is the inverse. The norm. -/
import Derived.Test.YtngbmaojgfocgaaK17C
namespace Go.Proofs.Ytngbmaojgfocgaa.dr
set_option linter.unusedVariables false

/-- One divided by the root i. -/
def iW (i : Nat) : Int := pw (511 - 2 * rv8 i)
/-- The value i over 256, divided by the power k of the root i. -/
def xk (v : Nat → Int) (i : Nat) : Nat → Int
  | 0 => v i % 8380417 * 8347681 % 8380417
  | k + 1 => xk v i k * iW i % 8380417
/-- The coefficient k after i values. -/
def iv (v : Nat → Int) : Nat → Nat → Int
  | 0, _ => 0
  | i + 1, k => (iv v i k + xk v i k) % 8380417
theorem xk_low (v : Nat → Int) (i k : Nat) : 0 ≤ xk v i k ∧ xk v i k < 8380417 := by cases k <;> (unfold xk; omega)
theorem iv_low (v : Nat → Int) (i k : Nat) : 0 ≤ iv v i k ∧ iv v i k < 8380417 := by cases i <;> (unfold iv; omega)
theorem xk_cg (v : Nat → Int) (i k : Nat) : cg (xk v i k) (v i * 8347681 * iW i ^ k) := by
  induction k with
  | zero => exact (cg.mod _).trans (((cg.mod _).mul (cg.refl _)).trans (cg.of_eq (by grind)))
  | succ k ih => exact (cg.mod _).trans ((ih.mul (cg.refl _)).trans (cg.of_eq (by grind)))
theorem ev_lin (f g : Nat → Int) (n : Nat) (z : Int) : ev (fun k => f k + g k) n z = ev f n z + ev g n z := by
  induction n with
  | zero => rfl
  | succ n ih => rw [ev_snoc, ev_snoc, ev_snoc, ih]; grind
theorem ev_geo (a y : Int) (n : Nat) (z : Int) : ev (fun k => a * y ^ k) n z = a * ev (fun _ => 1) n (y * z) := by
  induction n with
  | zero => simp [ev]
  | succ n ih => rw [ev_snoc, ev_snoc, ih, Int.mul_pow]; grind
/-- The sum of 256 powers. -/
def geo (x : Int) : Int := ev (fun _ => 1) 256 x
theorem geo_two (n : Nat) (x : Int) : ev (fun _ => 1) (2 * n) x = (1 + x) * ev (fun _ => 1) n (x * x) := by
  rw [ev_two]
  grind
def dbl (x : Int) : Nat → Int
  | 0 => x % 8380417
  | m + 1 => dbl x m * dbl x m % 8380417
def geoP (x : Int) : Int := (1 + dbl x 0) * ((1 + dbl x 1) * ((1 + dbl x 2) * ((1 + dbl x 3) * ((1 + dbl x 4) * ((1 + dbl x 5) * ((1 + dbl x 6) * (1 + dbl x 7)))))))
theorem geo_cg (x : Int) : cg (geo x) (geoP x) := by
  have d0 : cg x (dbl x 0) := (cg.mod _).symm
  have d1 : cg (x * x) (dbl x 1) := (d0.mul d0).trans (cg.mod _).symm
  have d2 := (d1.mul d1).trans (show cg _ (dbl x 2) from (cg.mod _).symm)
  have d3 := (d2.mul d2).trans (show cg _ (dbl x 3) from (cg.mod _).symm)
  have d4 := (d3.mul d3).trans (show cg _ (dbl x 4) from (cg.mod _).symm)
  have d5 := (d4.mul d4).trans (show cg _ (dbl x 5) from (cg.mod _).symm)
  have d6 := (d5.mul d5).trans (show cg _ (dbl x 6) from (cg.mod _).symm)
  have d7 := (d6.mul d6).trans (show cg _ (dbl x 7) from (cg.mod _).symm)
  unfold geo geoP
  have h (n : Nat) (m : Nat) (hm : m = 2 * n) (x : Int) : ev (fun _ => 1) m x = (1 + x) * ev (fun _ => 1) n (x * x) := by subst hm; exact geo_two n x
  rw [h 128 256 rfl, h 64 128 rfl, h 32 64 rfl, h 16 32 rfl, h 8 16 rfl, h 4 8 rfl, h 2 4 rfl, h 1 2 rfl]
  have e1 : ∀ z, ev (fun _ => 1) 1 z = 1 := fun z => by simp [ev]
  rw [e1, Int.mul_one]
  exact ((cg.refl 1).add d0).mul (((cg.refl 1).add d1).mul (((cg.refl 1).add d2).mul (((cg.refl 1).add d3).mul (((cg.refl 1).add d4).mul (((cg.refl 1).add d5).mul (((cg.refl 1).add d6).mul ((cg.refl 1).add d7)))))))
theorem geo_all : ∀ d : Fin 512, geoP (pw (2 * d.val)) % 8380417 = if d.val % 256 = 0 then 256 else 0 := by decide +kernel
theorem rv8_rv8 (i : Nat) (h : i < 256) : rv8 (rv8 i) = i := by
  have : ∀ i : Fin 256, rv8 (rv8 i.val) = i.val := by decide +kernel
  exact this ⟨i, h⟩
theorem geo_at (i j : Nat) (hi : i < 256) (hj : j < 256) : cg (geo (iW i * rt j)) (if i = j then 256 else 0) := by
  have h1 := rv8_lt i
  have h2 := rv8_lt j
  have e : cg (iW i * rt j) (pw (2 * (256 + rv8 j - rv8 i))) := by
    refine (pw_add _ _).trans (cg.of_eq ?_)
    rw [show 511 - 2 * rv8 i + (2 * rv8 j + 1) = 2 * (256 + rv8 j - rv8 i) by omega]
  have hg := geo_all ⟨256 + rv8 j - rv8 i, by omega⟩
  have h3 : cg (geo (iW i * rt j)) (geo (pw (2 * (256 + rv8 j - rv8 i)))) := ev_congr (fun _ _ => cg.refl _) e
  refine h3.trans ((geo_cg _).trans (cg.iff.2 ?_))
  rw [hg]
  by_cases hij : i = j
  · subst hij
    rw [if_pos (by show (256 + rv8 i - rv8 i) % 256 = 0; omega), if_pos rfl]
    rfl
  · have : rv8 i ≠ rv8 j := fun h => hij (by rw [← rv8_rv8 i hi, h, rv8_rv8 j hj])
    rw [if_neg (by show ¬ (256 + rv8 j - rv8 i) % 256 = 0; omega), if_neg hij]
    rfl
theorem iv_ev (v : Nat → Int) (j : Nat) (hj : j < 256) (n : Nat) (hn : n ≤ 256) : cg (ev (iv v n) 256 (rt j)) (if j < n then v j else 0) := by
  induction n with
  | zero =>
    rw [if_neg (by omega)]
    exact cg.of_eq (ev_zero _ _)
  | succ n ih =>
    have h1 := ih (by omega)
    have e1 : cg (ev (iv v (n + 1)) 256 (rt j)) (ev (fun k => iv v n k + v n * 8347681 * iW n ^ k) 256 (rt j)) :=
      ev_congr (fun k _ => (cg.mod _).trans ((cg.refl _).add (xk_cg v n k))) (cg.refl _)
    rw [ev_lin, ev_geo] at e1
    have h2 : cg (v n * 8347681 * geo (iW n * rt j)) (v n * 8347681 * (if n = j then 256 else 0)) := (cg.refl _).mul (geo_at n j (by omega) hj)
    refine e1.trans ((h1.add h2).trans ?_)
    by_cases hnj : n = j
    · subst hnj
      rw [if_neg (by omega), if_pos rfl, if_pos (by omega)]
      exact ⟨v n * 255, by omega⟩
    · rw [if_neg hnj]
      by_cases hlt : j < n
      · rw [if_pos hlt, if_pos (by omega)]
        exact cg.of_eq (by omega)
      · rw [if_neg hlt, if_neg (by omega)]
        exact cg.of_eq (by omega)
theorem ntt_iv (v : Nat → Int) (j : Nat) (hj : j < 256) : ntt (iv v 256) j = rdc v j := by
  rw [ntt_at _ j hj]
  have h := (iv_ev v j hj 256 (Nat.le_refl _)).eq
  rw [if_pos hj] at h
  exact h
/-- A layer of the inverse looks at no place from 256 on. -/
theorem jn_lt {s : Nat} (hs : s = 1 ∨ s = 2 ∨ s = 4 ∨ s = 8 ∨ s = 16 ∨ s = 32 ∨ s = 64 ∨ s = 128) {f g : Nat → Int} (h : ∀ j, j < 256 → f j = g j) (j : Nat) (hj : j < 256) : jn s f j = jn s g j := by
  unfold jn jnd
  split
  · rename_i hl
    rw [h j hj, h (j + s) (by rcases hs with rfl | rfl | rfl | rfl | rfl | rfl | rfl | rfl <;> omega)]
  · rename_i hl
    rw [h j hj, h (j - s) (by omega)]
theorem intt_lt {f g : Nat → Int} (h : ∀ j, j < 256 → f j = g j) (j : Nat) (hj : j < 256) : intt f j = intt g j := by
  unfold intt
  exact jn_lt (by decide) (fun j hj => jn_lt (by decide) (fun j hj => jn_lt (by decide) (fun j hj => jn_lt (by decide) (fun j hj => jn_lt (by decide) (fun j hj => jn_lt (by decide) (fun j hj => jn_lt (by decide) (fun j hj => jn_lt (by decide) h j hj) j hj) j hj) j hj) j hj) j hj) j hj) j hj
theorem intt_iv (v : Nat → Int) (j : Nat) (hj : j < 256) : intt v j = iv v 256 j := by
  have h1 := congrFun (intt_ntt (iv v 256)) j
  have h2 := intt_lt (fun j hj => ntt_iv v j hj) j hj
  rw [intt_rdc] at h2
  rw [← h2, h1]
  have := iv_low v 256 j
  unfold rdc
  omega

/-- The size of a coefficient, and the greatest of the first n. -/
def szF (x : Int) : Int := if 8380417 - x % 8380417 < x % 8380417 then 8380417 - x % 8380417 else x % 8380417
def nrm (f : Nat → Int) : Nat → Int
  | 0 => 0
  | n + 1 => if nrm f n < szF (f n) then szF (f n) else nrm f n
theorem szF_rng (x : Int) : 0 ≤ szF x ∧ szF x ≤ 4190208 := by unfold szF; split <;> omega
theorem nrm_rng (f : Nat → Int) (n : Nat) : 0 ≤ nrm f n ∧ nrm f n ≤ 4190208 := by
  induction n with
  | zero => exact ⟨Int.le_refl _, show (0 : Int) ≤ 4190208 by decide⟩
  | succ n ih =>
    have := szF_rng (f n)
    unfold nrm
    split <;> omega
theorem szF_mod (x : Int) : szF (x % 8380417) = szF x := by unfold szF; rw [Int.emod_emod_of_dvd _ (Int.dvd_refl _)]
theorem szF_add (x y : Int) : szF ((x + y) % 8380417) ≤ szF x + szF y := by
  rw [szF_mod]
  unfold szF
  split <;> split <;> split <;> omega
theorem szF_neg (x : Int) : szF ((0 - x) % 8380417) = szF x := by
  rw [szF_mod]
  unfold szF
  split <;> split <;> omega
theorem nrm_add (f g : Nat → Int) (n : Nat) : nrm (addF f g) n ≤ nrm f n + nrm g n := by
  induction n with
  | zero => exact Int.le_refl _
  | succ n ih =>
    have := szF_add (f n) (g n)
    simp only [nrm]
    unfold addF at this ⊢
    have hh : nrm (fun j => (f j + g j) % 8380417) n ≤ nrm f n + nrm g n := ih
    split <;> split <;> split <;> omega
theorem nrm_neg (f : Nat → Int) (n : Nat) : nrm (subF (fun _ => 0) f) n = nrm f n := by
  induction n with
  | zero => rfl
  | succ n ih =>
    have := szF_neg (f n)
    simp only [nrm, ih]
    rw [show subF (fun _ => 0) f n = (0 - f n) % 8380417 from rfl, this]
end Go.Proofs.Ytngbmaojgfocgaa.dr
