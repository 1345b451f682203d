/- Numbers modulo 8380417: congruence, polynomials at a point, one layer of the transform and its inverse. -/
namespace Go.Proofs.Ytngbmaojgfocgaa.dr
set_option linter.unusedVariables false

/-- The same modulo 8380417. -/
def cg (a b : Int) : Prop := ∃ k : Int, a = b + 8380417 * k
theorem cg.refl (a : Int) : cg a a := ⟨0, by omega⟩
theorem cg.symm {a b : Int} (h : cg a b) : cg b a := by obtain ⟨k, hk⟩ := h; exact ⟨-k, by omega⟩
theorem cg.trans {a b c : Int} (h : cg a b) (g : cg b c) : cg a c := by
  obtain ⟨k, hk⟩ := h
  obtain ⟨l, hl⟩ := g
  exact ⟨k + l, by omega⟩
theorem cg.of_eq {a b : Int} (h : a = b) : cg a b := h ▸ cg.refl a
theorem cg.add {a b c d : Int} (h : cg a b) (g : cg c d) : cg (a + c) (b + d) := by
  obtain ⟨k, hk⟩ := h
  obtain ⟨l, hl⟩ := g
  exact ⟨k + l, by omega⟩
theorem cg.sub {a b c d : Int} (h : cg a b) (g : cg c d) : cg (a - c) (b - d) := by
  obtain ⟨k, hk⟩ := h
  obtain ⟨l, hl⟩ := g
  exact ⟨k - l, by omega⟩
theorem cg.neg {a b : Int} (h : cg a b) : cg (-a) (-b) := by
  obtain ⟨k, hk⟩ := h
  exact ⟨-k, by omega⟩
theorem cg.mul {a b c d : Int} (h : cg a b) (g : cg c d) : cg (a * c) (b * d) := by
  obtain ⟨k, rfl⟩ := h
  obtain ⟨l, rfl⟩ := g
  exact ⟨b * l + d * k + 8380417 * (k * l), by grind⟩
theorem cg.mod (a : Int) : cg (a % 8380417) a := ⟨-(a / 8380417), by omega⟩
theorem cg.iff {a b : Int} : cg a b ↔ a % 8380417 = b % 8380417 := by
  constructor
  · rintro ⟨k, rfl⟩
    omega
  · intro h
    exact ⟨a / 8380417 - b / 8380417, by omega⟩
theorem cg.eq {a b : Int} (h : cg a b) : a % 8380417 = b % 8380417 := cg.iff.1 h

/-- The sum of the n first coefficients of f, each times a power of z. -/
def ev (f : Nat → Int) : Nat → Int → Int
  | 0, _ => 0
  | n + 1, z => f 0 + z * ev (fun i => f (i + 1)) n z
theorem ev_congr {f g : Nat → Int} {n : Nat} {y z : Int} (h : ∀ i, i < n → cg (f i) (g i)) (hz : cg y z) : cg (ev f n y) (ev g n z) := by
  induction n generalizing f g with
  | zero => exact cg.refl _
  | succ n ih => exact (h 0 (by omega)).add (hz.mul (ih fun i hi => h (i + 1) (by omega)))
theorem ev_ext {f g : Nat → Int} {n : Nat} {z : Int} (h : ∀ i, i < n → f i = g i) : ev f n z = ev g n z := by
  induction n generalizing f g with
  | zero => rfl
  | succ n ih => unfold ev; rw [h 0 (by omega), ih fun i hi => h (i + 1) (by omega)]
/-- Even and odd places apart. -/
theorem ev_two (f : Nat → Int) (n : Nat) (z : Int) : ev f (2 * n) z = ev (fun i => f (2 * i)) n (z * z) + z * ev (fun i => f (2 * i + 1)) n (z * z) := by
  induction n generalizing f with
  | zero => simp [ev]
  | succ n ih =>
    rw [show 2 * (n + 1) = 2 * n + 1 + 1 by omega]
    simp only [ev]
    rw [ih (fun i => f (i + 1 + 1))]
    have h1 : ev (fun i => f (2 * i + 1 + 1)) n (z * z) = ev (fun i => f (2 * (i + 1))) n (z * z) := ev_ext fun i _ => by rw [show 2 * i + 1 + 1 = 2 * (i + 1) by omega]
    have h2 : ev (fun i => f (2 * i + 1 + 1 + 1)) n (z * z) = ev (fun i => f (2 * (i + 1) + 1)) n (z * z) := ev_ext fun i _ => by rw [show 2 * i + 1 + 1 + 1 = 2 * (i + 1) + 1 by omega]
    simp only [h1, h2]
    grind
/-- The sum with one more coefficient at the end. -/
theorem ev_snoc (f : Nat → Int) (n : Nat) (z : Int) : ev f (n + 1) z = ev f n z + f n * z ^ n := by
  induction n generalizing f with
  | zero => simp [ev]
  | succ n ih =>
    have := ih (fun i => f (i + 1))
    rw [ev, this, ev, Int.pow_succ]
    grind

/-- The powers of 1753. -/
def pw (n : Nat) : Int := (1753 : Int) ^ n % 8380417
theorem pw_cg (n : Nat) : cg (pw n) ((1753 : Int) ^ n) := cg.mod _
theorem pw_add (m n : Nat) : cg (pw m * pw n) (pw (m + n)) := by
  refine ((pw_cg m).mul (pw_cg n)).trans ((cg.of_eq ?_).trans (pw_cg (m + n)).symm)
  rw [Int.pow_add]
theorem pw_lt (n : Nat) : 0 ≤ pw n ∧ pw n < 8380417 := by unfold pw; omega
theorem pw_succ (n : Nat) : pw (n + 1) = 1753 * pw n % 8380417 := by
  have h : cg (pw (n + 1)) (1753 * pw n) := (pw_cg (n + 1)).trans (((cg.of_eq (by rw [Int.pow_succ, Int.mul_comm])).trans ((cg.refl 1753).mul (pw_cg n).symm)))
  have := h.eq
  have := pw_lt (n + 1)
  omega

/-- One layer of the transform: the remainder of 2 * s coefficients with the number b is divided by X^s - w b and X^s + w b. -/
def spl (w : Nat → Int) (s : Nat) (f : Nat → Int) (j : Nat) : Int :=
  if j % (2 * s) < s then (f j + w (j / (2 * s)) * f (j + s)) % 8380417 else (f (j - s) - w (j / (2 * s)) * f j) % 8380417
/-- One layer of the inverse. -/
def jnd (u : Nat → Int) (s : Nat) (f : Nat → Int) (j : Nat) : Int :=
  if j % (2 * s) < s then (f j + f (j + s)) * 4190209 % 8380417 else (f (j - s) - f j) * 4190209 * u (j / (2 * s)) % 8380417
/-- All coefficients modulo 8380417. -/
def rdc (f : Nat → Int) (j : Nat) : Int := f j % 8380417
theorem rdc_cg (f : Nat → Int) (j : Nat) : cg (rdc f j) (f j) := cg.mod _
theorem spl_cg {w : Nat → Int} {s : Nat} {f g : Nat → Int} (h : ∀ j, cg (f j) (g j)) : spl w s f = spl w s g := by
  funext j
  unfold spl
  split
  · exact ((h _).add ((cg.refl _).mul (h _))).eq
  · exact ((h _).sub ((cg.refl _).mul (h _))).eq
theorem jnd_cg {u : Nat → Int} {s : Nat} {f g : Nat → Int} (h : ∀ j, cg (f j) (g j)) : jnd u s f = jnd u s g := by
  funext j
  unfold jnd
  split
  · exact (((h _).add (h _)).mul (cg.refl _)).eq
  · exact ((((h _).sub (h _)).mul (cg.refl _)).mul (cg.refl _)).eq
theorem low_add {s j : Nat} (hs : 0 < s) (h : j % (2 * s) < s) : (j + s) % (2 * s) = j % (2 * s) + s ∧ (j + s) / (2 * s) = j / (2 * s) := by
  have e := Nat.div_add_mod j (2 * s)
  have h2 : (j % (2 * s) + s) < 2 * s := by omega
  rw [show j + s = (j % (2 * s) + s) + 2 * s * (j / (2 * s)) by omega]
  rw [Nat.add_mul_mod_self_left, Nat.add_mul_div_left _ _ (by omega), Nat.mod_eq_of_lt h2, Nat.div_eq_of_lt h2]
  omega
theorem high_sub {s j : Nat} (hs : 0 < s) (h : ¬ j % (2 * s) < s) : (j - s) % (2 * s) = j % (2 * s) - s ∧ (j - s) / (2 * s) = j / (2 * s) ∧ s ≤ j := by
  have e := Nat.div_add_mod j (2 * s)
  have h1 := Nat.mod_lt j (show 0 < 2 * s by omega)
  have h2 : (j % (2 * s) - s) < 2 * s := by omega
  have h3 : s ≤ j := Nat.le_trans (by omega) (Nat.mod_le j (2 * s))
  refine ⟨?_, ?_, h3⟩
  · rw [show j - s = (j % (2 * s) - s) + 2 * s * (j / (2 * s)) by omega, Nat.add_mul_mod_self_left, Nat.mod_eq_of_lt h2]
  · rw [show j - s = (j % (2 * s) - s) + 2 * s * (j / (2 * s)) by omega, Nat.add_mul_div_left _ _ (by omega), Nat.div_eq_of_lt h2]
    omega
theorem jnd_spl {w u : Nat → Int} {s : Nat} (hs : 0 < s) (hw : ∀ b, cg (w b * u b) 1) (f : Nat → Int) : jnd u s (spl w s f) = rdc f := by
  funext j
  unfold jnd rdc
  by_cases h : j % (2 * s) < s
  · obtain ⟨h1, h2⟩ := low_add hs h
    rw [if_pos h]
    have e1 : spl w s f j = (f j + w (j / (2 * s)) * f (j + s)) % 8380417 := if_pos h
    have e2 : spl w s f (j + s) = (f j - w (j / (2 * s)) * f (j + s)) % 8380417 := by
      unfold spl
      rw [if_neg (by omega), h2, show j + s - s = j by omega]
    rw [e1, e2]
    refine cg.eq (((((cg.mod _).add (cg.mod _)).mul (cg.refl 4190209))).trans ⟨f j, ?_⟩)
    grind
  · obtain ⟨h1, h2, h3⟩ := high_sub hs h
    rw [if_neg h]
    have hm := Nat.mod_lt j (show 0 < 2 * s by omega)
    have e1 : spl w s f (j - s) = (f (j - s) + w (j / (2 * s)) * f j) % 8380417 := by
      unfold spl
      rw [if_pos (by omega), h2, show j - s + s = j by omega]
    have e2 : spl w s f j = (f (j - s) - w (j / (2 * s)) * f j) % 8380417 := if_neg h
    rw [e1, e2]
    obtain ⟨k, hk⟩ := hw (j / (2 * s))
    refine cg.eq ((((((cg.mod _).sub (cg.mod _)).mul (cg.refl 4190209)).mul (cg.refl _))).trans ⟨f j * (8380418 * k + 1), ?_⟩)
    grind
theorem spl_jnd {w u : Nat → Int} {s : Nat} (hs : 0 < s) (hw : ∀ b, cg (w b * u b) 1) (f : Nat → Int) : spl w s (jnd u s f) = rdc f := by
  funext j
  unfold spl rdc
  by_cases h : j % (2 * s) < s
  · obtain ⟨h1, h2⟩ := low_add hs h
    rw [if_pos h]
    have e1 : jnd u s f j = (f j + f (j + s)) * 4190209 % 8380417 := if_pos h
    have e2 : jnd u s f (j + s) = (f j - f (j + s)) * 4190209 * u (j / (2 * s)) % 8380417 := by
      unfold jnd
      rw [if_neg (by omega), h2, show j + s - s = j by omega]
    rw [e1, e2]
    obtain ⟨k, hk⟩ := hw (j / (2 * s))
    refine cg.eq (((cg.mod _).add ((cg.refl _).mul (cg.mod _))).trans ⟨f j + (f j - f (j + s)) * 4190209 * k, ?_⟩)
    grind
  · obtain ⟨h1, h2, h3⟩ := high_sub hs h
    rw [if_neg h]
    have hm := Nat.mod_lt j (show 0 < 2 * s by omega)
    have e1 : jnd u s f (j - s) = (f (j - s) + f j) * 4190209 % 8380417 := by
      unfold jnd
      rw [if_pos (by omega), show j - s + s = j by omega]
    have e2 : jnd u s f j = (f (j - s) - f j) * 4190209 * u (j / (2 * s)) % 8380417 := if_neg h
    rw [e1, e2]
    obtain ⟨k, hk⟩ := hw (j / (2 * s))
    refine cg.eq (((cg.mod _).sub ((cg.refl _).mul (cg.mod _))).trans ⟨f j - (f (j - s) - f j) * 4190209 * k, ?_⟩)
    grind
end Go.Proofs.Ytngbmaojgfocgaa.dr
