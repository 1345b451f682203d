/- Numbers modulo 3329: congruence, polynomials at a point, one layer of the transform and its inverse. The whole transform: its places are remainders; it and the inverse invert each other. The product modulo X^256 + 1 becomes the product of the remainders. The transform of a sum; the reference's sums from the highest coefficient down. -/

namespace Go.Proofs.YtalhdalmafhofaaGreatDoor
set_option maxRecDepth 100000
set_option linter.unusedVariables false

/-- The same modulo 3329. -/
def cg (a b : Int) : Prop := ∃ k : Int, a = b + 3329 * k
theorem cg.refl (a : Int) : cg a a := ⟨0, by omega⟩
theorem cg.symm {a b : Int} (h : cg a b) : cg b a := by obtain ⟨k, hk⟩ := h; exact ⟨-k, by omega⟩
theorem cg.trans {a b c : Int} (h : cg a b) (g : cg b c) : cg a c := by
  obtain ⟨k, hk⟩ := h
  obtain ⟨l, hl⟩ := g
  exact ⟨k + l, by omega⟩
theorem cg.of_eq {a b : Int} (h : a = b) : cg a b := h ▸ cg.refl a
theorem cg.add {a b c d : Int} (h : cg a b) (g : cg c d) : cg (a + c) (b + d) := by
  obtain ⟨k, hk⟩ := h
  obtain ⟨l, hl⟩ := g
  exact ⟨k + l, by omega⟩
theorem cg.sub {a b c d : Int} (h : cg a b) (g : cg c d) : cg (a - c) (b - d) := by
  obtain ⟨k, hk⟩ := h
  obtain ⟨l, hl⟩ := g
  exact ⟨k - l, by omega⟩
theorem cg.neg {a b : Int} (h : cg a b) : cg (-a) (-b) := by
  obtain ⟨k, hk⟩ := h
  exact ⟨-k, by omega⟩
theorem cg.mul {a b c d : Int} (h : cg a b) (g : cg c d) : cg (a * c) (b * d) := by
  obtain ⟨k, rfl⟩ := h
  obtain ⟨l, rfl⟩ := g
  exact ⟨b * l + d * k + 3329 * (k * l), by grind⟩
theorem cg.mod (a : Int) : cg (a % 3329) a := ⟨-(a / 3329), by omega⟩
theorem cg.iff {a b : Int} : cg a b ↔ a % 3329 = b % 3329 := by
  constructor
  · rintro ⟨k, rfl⟩
    omega
  · intro h
    exact ⟨a / 3329 - b / 3329, by omega⟩
theorem cg.eq {a b : Int} (h : cg a b) : a % 3329 = b % 3329 := cg.iff.1 h

/-- The sum of the n first coefficients of f, each times a power of z. -/
def ev (f : Nat → Int) : Nat → Int → Int
  | 0, _ => 0
  | n + 1, z => f 0 + z * ev (fun i => f (i + 1)) n z
theorem ev_congr {f g : Nat → Int} {n : Nat} {y z : Int} (h : ∀ i, i < n → cg (f i) (g i)) (hz : cg y z) : cg (ev f n y) (ev g n z) := by
  induction n generalizing f g with
  | zero => exact cg.refl _
  | succ n ih => exact (h 0 (by omega)).add (hz.mul (ih fun i hi => h (i + 1) (by omega)))
theorem ev_ext {f g : Nat → Int} {n : Nat} {z : Int} (h : ∀ i, i < n → f i = g i) : ev f n z = ev g n z := by
  induction n generalizing f g with
  | zero => rfl
  | succ n ih => unfold ev; rw [h 0 (by omega), ih fun i hi => h (i + 1) (by omega)]
/-- Even and odd places apart. -/
theorem ev_two (f : Nat → Int) (n : Nat) (z : Int) : ev f (2 * n) z = ev (fun i => f (2 * i)) n (z * z) + z * ev (fun i => f (2 * i + 1)) n (z * z) := by
  induction n generalizing f with
  | zero => simp [ev]
  | succ n ih =>
    rw [show 2 * (n + 1) = 2 * n + 1 + 1 by omega]
    simp only [ev]
    rw [ih (fun i => f (i + 1 + 1))]
    have h1 : ev (fun i => f (2 * i + 1 + 1)) n (z * z) = ev (fun i => f (2 * (i + 1))) n (z * z) := ev_ext fun i _ => by rw [show 2 * i + 1 + 1 = 2 * (i + 1) by omega]
    have h2 : ev (fun i => f (2 * i + 1 + 1 + 1)) n (z * z) = ev (fun i => f (2 * (i + 1) + 1)) n (z * z) := ev_ext fun i _ => by rw [show 2 * i + 1 + 1 + 1 = 2 * (i + 1) + 1 by omega]
    simp only [h1, h2]
    grind
/-- The sum with one more coefficient at the end. -/
theorem ev_snoc (f : Nat → Int) (n : Nat) (z : Int) : ev f (n + 1) z = ev f n z + f n * z ^ n := by
  induction n generalizing f with
  | zero => simp [ev]
  | succ n ih =>
    have := ih (fun i => f (i + 1))
    rw [ev, this, ev, Int.pow_succ]
    grind

/-- The powers of 17. -/
def pw (n : Nat) : Int := (17 : Int) ^ n % 3329
theorem pw_cg (n : Nat) : cg (pw n) ((17 : Int) ^ n) := cg.mod _
theorem pw_add (m n : Nat) : cg (pw m * pw n) (pw (m + n)) := by
  refine ((pw_cg m).mul (pw_cg n)).trans ((cg.of_eq ?_).trans (pw_cg (m + n)).symm)
  rw [Int.pow_add]
theorem pw_lt (n : Nat) : 0 ≤ pw n ∧ pw n < 3329 := by unfold pw; omega
theorem pw_succ (n : Nat) : pw (n + 1) = 17 * pw n % 3329 := by
  have h : cg (pw (n + 1)) (17 * pw n) := (pw_cg (n + 1)).trans (((cg.of_eq (by rw [Int.pow_succ, Int.mul_comm])).trans ((cg.refl 17).mul (pw_cg n).symm)))
  have := h.eq
  have := pw_lt (n + 1)
  omega

/-- One layer of the transform: the remainder of 2 * s coefficients with the number b is divided by X^s - w b and X^s + w b. -/
def spl (w : Nat → Int) (s : Nat) (f : Nat → Int) (j : Nat) : Int :=
  if j % (2 * s) < s then (f j + w (j / (2 * s)) * f (j + s)) % 3329 else (f (j - s) - w (j / (2 * s)) * f j) % 3329
/-- One layer of the inverse. -/
def jnd (u : Nat → Int) (s : Nat) (f : Nat → Int) (j : Nat) : Int :=
  if j % (2 * s) < s then (f j + f (j + s)) * 1665 % 3329 else (f (j - s) - f j) * 1665 * u (j / (2 * s)) % 3329
/-- All coefficients modulo 3329. -/
def rdc (f : Nat → Int) (j : Nat) : Int := f j % 3329
theorem rdc_cg (f : Nat → Int) (j : Nat) : cg (rdc f j) (f j) := cg.mod _
theorem spl_cg {w : Nat → Int} {s : Nat} {f g : Nat → Int} (h : ∀ j, cg (f j) (g j)) : spl w s f = spl w s g := by
  funext j
  unfold spl
  split
  · exact ((h _).add ((cg.refl _).mul (h _))).eq
  · exact ((h _).sub ((cg.refl _).mul (h _))).eq
theorem jnd_cg {u : Nat → Int} {s : Nat} {f g : Nat → Int} (h : ∀ j, cg (f j) (g j)) : jnd u s f = jnd u s g := by
  funext j
  unfold jnd
  split
  · exact (((h _).add (h _)).mul (cg.refl _)).eq
  · exact ((((h _).sub (h _)).mul (cg.refl _)).mul (cg.refl _)).eq
theorem low_add {s j : Nat} (hs : 0 < s) (h : j % (2 * s) < s) : (j + s) % (2 * s) = j % (2 * s) + s ∧ (j + s) / (2 * s) = j / (2 * s) := by
  have e := Nat.div_add_mod j (2 * s)
  have h2 : (j % (2 * s) + s) < 2 * s := by omega
  rw [show j + s = (j % (2 * s) + s) + 2 * s * (j / (2 * s)) by omega]
  rw [Nat.add_mul_mod_self_left, Nat.add_mul_div_left _ _ (by omega), Nat.mod_eq_of_lt h2, Nat.div_eq_of_lt h2]
  omega
theorem high_sub {s j : Nat} (hs : 0 < s) (h : ¬ j % (2 * s) < s) : (j - s) % (2 * s) = j % (2 * s) - s ∧ (j - s) / (2 * s) = j / (2 * s) ∧ s ≤ j := by
  have e := Nat.div_add_mod j (2 * s)
  have h1 := Nat.mod_lt j (show 0 < 2 * s by omega)
  have h2 : (j % (2 * s) - s) < 2 * s := by omega
  have h3 : s ≤ j := Nat.le_trans (by omega) (Nat.mod_le j (2 * s))
  refine ⟨?_, ?_, h3⟩
  · rw [show j - s = (j % (2 * s) - s) + 2 * s * (j / (2 * s)) by omega, Nat.add_mul_mod_self_left, Nat.mod_eq_of_lt h2]
  · rw [show j - s = (j % (2 * s) - s) + 2 * s * (j / (2 * s)) by omega, Nat.add_mul_div_left _ _ (by omega), Nat.div_eq_of_lt h2]
    omega
theorem jnd_spl {w u : Nat → Int} {s : Nat} (hs : 0 < s) (hw : ∀ b, cg (w b * u b) 1) (f : Nat → Int) : jnd u s (spl w s f) = rdc f := by
  funext j
  unfold jnd rdc
  by_cases h : j % (2 * s) < s
  · obtain ⟨h1, h2⟩ := low_add hs h
    rw [if_pos h]
    have e1 : spl w s f j = (f j + w (j / (2 * s)) * f (j + s)) % 3329 := if_pos h
    have e2 : spl w s f (j + s) = (f j - w (j / (2 * s)) * f (j + s)) % 3329 := by
      unfold spl
      rw [if_neg (by omega), h2, show j + s - s = j by omega]
    rw [e1, e2]
    refine cg.eq (((((cg.mod _).add (cg.mod _)).mul (cg.refl 1665))).trans ⟨f j, ?_⟩)
    grind
  · obtain ⟨h1, h2, h3⟩ := high_sub hs h
    rw [if_neg h]
    have hm := Nat.mod_lt j (show 0 < 2 * s by omega)
    have e1 : spl w s f (j - s) = (f (j - s) + w (j / (2 * s)) * f j) % 3329 := by
      unfold spl
      rw [if_pos (by omega), h2, show j - s + s = j by omega]
    have e2 : spl w s f j = (f (j - s) - w (j / (2 * s)) * f j) % 3329 := if_neg h
    rw [e1, e2]
    obtain ⟨k, hk⟩ := hw (j / (2 * s))
    refine cg.eq ((((((cg.mod _).sub (cg.mod _)).mul (cg.refl 1665)).mul (cg.refl _))).trans ⟨f j * (3330 * k + 1), ?_⟩)
    grind
theorem spl_jnd {w u : Nat → Int} {s : Nat} (hs : 0 < s) (hw : ∀ b, cg (w b * u b) 1) (f : Nat → Int) : spl w s (jnd u s f) = rdc f := by
  funext j
  unfold spl rdc
  by_cases h : j % (2 * s) < s
  · obtain ⟨h1, h2⟩ := low_add hs h
    rw [if_pos h]
    have e1 : jnd u s f j = (f j + f (j + s)) * 1665 % 3329 := if_pos h
    have e2 : jnd u s f (j + s) = (f j - f (j + s)) * 1665 * u (j / (2 * s)) % 3329 := by
      unfold jnd
      rw [if_neg (by omega), h2, show j + s - s = j by omega]
    rw [e1, e2]
    obtain ⟨k, hk⟩ := hw (j / (2 * s))
    refine cg.eq (((cg.mod _).add ((cg.refl _).mul (cg.mod _))).trans ⟨f j + (f j - f (j + s)) * 1665 * k, ?_⟩)
    grind
  · obtain ⟨h1, h2, h3⟩ := high_sub hs h
    rw [if_neg h]
    have hm := Nat.mod_lt j (show 0 < 2 * s by omega)
    have e1 : jnd u s f (j - s) = (f (j - s) + f j) * 1665 % 3329 := by
      unfold jnd
      rw [if_pos (by omega), show j - s + s = j by omega]
    have e2 : jnd u s f j = (f (j - s) - f j) * 1665 * u (j / (2 * s)) % 3329 := if_neg h
    rw [e1, e2]
    obtain ⟨k, hk⟩ := hw (j / (2 * s))
    refine cg.eq (((cg.mod _).sub ((cg.refl _).mul (cg.mod _))).trans ⟨f j - (f (j - s) - f j) * 1665 * k, ?_⟩)
    grind
end Go.Proofs.YtalhdalmafhofaaGreatDoor

namespace Go.Proofs.YtalhdalmafhofaaGreatDoor
set_option linter.unusedVariables false

/-- The number whose 7 bits are those of i in reverse order. -/
def rv7 (i : Nat) : Nat := i % 2 * 64 + i / 2 % 2 * 32 + i / 4 % 2 * 16 + i / 8 % 2 * 8 + i / 16 % 2 * 4 + i / 32 % 2 * 2 + i / 64 % 2
theorem rv7_lt (i : Nat) : rv7 i < 128 := by unfold rv7; omega
/-- The root i. -/
def rt (i : Nat) : Int := pw (2 * rv7 i + 1)
/-- By what the remainder b is divided in the layer of s coefficients. -/
def wS (s b : Nat) : Int := pw (rv7 (128 / s + b))
def uS (s b : Nat) : Int := pw (256 - rv7 (128 / s + b))
theorem pw_256 : pw 256 = 1 := by decide +kernel
theorem wu (s b : Nat) : cg (wS s b * uS s b) 1 := by
  have h := rv7_lt (128 / s + b)
  refine (pw_add _ _).trans (cg.of_eq ?_)
  rw [show rv7 (128 / s + b) + (256 - rv7 (128 / s + b)) = 256 by omega, pw_256]
def sp (s : Nat) (f : Nat → Int) : Nat → Int := spl (wS s) s f
def jn (s : Nat) (f : Nat → Int) : Nat → Int := jnd (uS s) s f
/-- The transform and its inverse, layer by layer. -/
def ntt (f : Nat → Int) : Nat → Int := sp 2 (sp 4 (sp 8 (sp 16 (sp 32 (sp 64 (sp 128 f))))))
def intt (f : Nat → Int) : Nat → Int := jn 128 (jn 64 (jn 32 (jn 16 (jn 8 (jn 4 (jn 2 f))))))
theorem jn_sp {s : Nat} (hs : 0 < s) (f : Nat → Int) : jn s (sp s f) = rdc f := jnd_spl hs (wu s) f
theorem sp_jn {s : Nat} (hs : 0 < s) (f : Nat → Int) : sp s (jn s f) = rdc f := spl_jnd hs (wu s) f
theorem jn_rdc (s : Nat) (f : Nat → Int) : jn s (rdc f) = jn s f := jnd_cg (rdc_cg f)
theorem sp_rdc (s : Nat) (f : Nat → Int) : sp s (rdc f) = sp s f := spl_cg (rdc_cg f)
theorem intt_ntt (f : Nat → Int) : intt (ntt f) = rdc f := by
  unfold intt ntt
  simp only [jn_sp (show 0 < 2 by decide), jn_sp (show 0 < 4 by decide), jn_sp (show 0 < 8 by decide), jn_sp (show 0 < 16 by decide), jn_sp (show 0 < 32 by decide), jn_sp (show 0 < 64 by decide), jn_sp (show 0 < 128 by decide), jn_rdc]
theorem ntt_intt (f : Nat → Int) : ntt (intt f) = rdc f := by
  unfold intt ntt
  simp only [sp_jn (show 0 < 2 by decide), sp_jn (show 0 < 4 by decide), sp_jn (show 0 < 8 by decide), sp_jn (show 0 < 16 by decide), sp_jn (show 0 < 32 by decide), sp_jn (show 0 < 64 by decide), sp_jn (show 0 < 128 by decide), sp_rdc]
theorem intt_cg {f g : Nat → Int} (h : ∀ j, cg (f j) (g j)) : intt f = intt g := by unfold intt jn; rw [jnd_cg h]
theorem ntt_cg {f g : Nat → Int} (h : ∀ j, cg (f j) (g j)) : ntt f = ntt g := by unfold ntt sp; rw [spl_cg h]
theorem ntt_rdc (f : Nat → Int) : ntt (rdc f) = ntt f := ntt_cg (rdc_cg f)
theorem intt_rdc (f : Nat → Int) : intt (rdc f) = intt f := intt_cg (rdc_cg f)

/-- The places of g are the remainders of f: 256 / l of them, of l coefficients each, that with the number c after the division by X^l - v c. -/
def Rems (f : Nat → Int) (m l : Nat) (v : Nat → Int) (g : Nat → Int) : Prop :=
  ∀ c r, c < m → r < l → cg (g (c * l + r)) (ev (fun t => f (r + l * t)) m (v c))
theorem Rems.start (f : Nat → Int) (v : Nat → Int) : Rems f 1 256 v f := by
  intro c r hc hr
  obtain rfl : c = 0 := by omega
  refine cg.of_eq ?_
  simp [ev]
theorem Rems.step {f g : Nat → Int} {m s : Nat} {v w v' : Nat → Int} (hs : 0 < s) (h : Rems f m (2 * s) v g)
    (hv : ∀ b, b < m → cg (v b) (w b * w b)) (h0 : ∀ b, b < m → cg (v' (2 * b)) (w b)) (h1 : ∀ b, b < m → cg (v' (2 * b + 1)) (- w b)) :
    Rems f (2 * m) s v' (spl w s g) := by
  intro c r hc hr
  have ev0 : ∀ z : Int, ev (fun t => f (r + s * t)) (2 * m) z = ev (fun t => f (r + 2 * s * t)) m (z * z) + z * ev (fun t => f (r + s + 2 * s * t)) m (z * z) := fun z => by
    rw [ev_two]
    rw [ev_ext (f := fun i => f (r + s * (2 * i))) (g := fun t => f (r + 2 * s * t)) fun i _ => by rw [show s * (2 * i) = 2 * s * i by grind]]
    rw [ev_ext (f := fun i => f (r + s * (2 * i + 1))) (g := fun t => f (r + s + 2 * s * t)) fun i _ => by rw [show r + s * (2 * i + 1) = r + s + 2 * s * i by grind]]
  rw [ev0]
  obtain ⟨b, hb | hb⟩ : ∃ b, c = 2 * b ∨ c = 2 * b + 1 := ⟨c / 2, by omega⟩
  · subst hb
    have hb : b < m := by omega
    have a1 := h b r hb (by omega)
    have a2 := h b (r + s) hb (by omega)
    have hj : 2 * b * s + r = b * (2 * s) + r := by grind
    have hm : (b * (2 * s) + r) % (2 * s) = r := by rw [Nat.add_comm, Nat.add_mul_mod_self_right, Nat.mod_eq_of_lt (by omega)]
    have hd : (b * (2 * s) + r) / (2 * s) = b := by rw [Nat.add_comm, Nat.add_mul_div_right _ _ (by omega), Nat.div_eq_of_lt (by omega)]; omega
    rw [hj]
    unfold spl
    rw [if_pos (by omega), hd]
    have hz : cg (v' (2 * b) * v' (2 * b)) (v b) := ((h0 b hb).mul (h0 b hb)).trans (hv b hb).symm
    refine (cg.mod _).trans ((a1.trans (ev_congr (fun i _ => cg.refl _) hz.symm)).add ((h0 b hb).symm.mul ?_))
    have : b * (2 * s) + (r + s) = b * (2 * s) + r + s := by omega
    rw [← this]
    exact a2.trans (ev_congr (fun i _ => cg.refl _) hz.symm)
  · subst hb
    have hb : b < m := by omega
    have a1 := h b r hb (by omega)
    have a2 := h b (r + s) hb (by omega)
    have hj : (2 * b + 1) * s + r = b * (2 * s) + (r + s) := by grind
    have hm : (b * (2 * s) + (r + s)) % (2 * s) = r + s := by rw [Nat.add_comm, Nat.add_mul_mod_self_right, Nat.mod_eq_of_lt (by omega)]
    have hd : (b * (2 * s) + (r + s)) / (2 * s) = b := by rw [Nat.add_comm, Nat.add_mul_div_right _ _ (by omega), Nat.div_eq_of_lt (by omega)]; omega
    rw [hj]
    unfold spl
    rw [if_neg (by omega), hd, show b * (2 * s) + (r + s) - s = b * (2 * s) + r by omega]
    have hz : cg (v' (2 * b + 1) * v' (2 * b + 1)) (v b) := ((h1 b hb).mul (h1 b hb)).trans ((cg.of_eq (by grind)).trans (hv b hb).symm)
    have e : ev (fun t => f (r + 2 * s * t)) m (v' (2 * b + 1) * v' (2 * b + 1)) + v' (2 * b + 1) * ev (fun t => f (r + s + 2 * s * t)) m (v' (2 * b + 1) * v' (2 * b + 1)) = ev (fun t => f (r + 2 * s * t)) m (v' (2 * b + 1) * v' (2 * b + 1)) - (- v' (2 * b + 1)) * ev (fun t => f (r + s + 2 * s * t)) m (v' (2 * b + 1) * v' (2 * b + 1)) := by grind
    rw [e]
    refine (cg.mod _).trans ((a1.trans (ev_congr (fun i _ => cg.refl _) hz.symm)).sub (cg.mul ?_ (a2.trans (ev_congr (fun i _ => cg.refl _) hz.symm))))
    exact (cg.of_eq (by grind)).trans (h1 b hb).neg.symm
/-- By what the remainders of l coefficients are remainders. -/
def vS (m b : Nat) : Int := pw (2 * rv7 (m + b))
theorem vS_ok : ∀ k : Fin 7, ∀ b : Fin (2 ^ k.val), vS (2 ^ k.val) b.val % 3329 = wS (128 / 2 ^ k.val) b.val * wS (128 / 2 ^ k.val) b.val % 3329 := by decide +kernel
theorem vS_even : ∀ k : Fin 6, ∀ b : Fin (2 ^ k.val), vS (2 * 2 ^ k.val) (2 * b.val) % 3329 = wS (128 / 2 ^ k.val) b.val % 3329 := by decide +kernel
theorem vS_odd : ∀ k : Fin 6, ∀ b : Fin (2 ^ k.val), vS (2 * 2 ^ k.val) (2 * b.val + 1) % 3329 = (- wS (128 / 2 ^ k.val) b.val) % 3329 := by decide +kernel
theorem rt_even : ∀ b : Fin 64, rt (2 * b.val) % 3329 = wS 2 b.val % 3329 := by decide +kernel
theorem rt_odd : ∀ b : Fin 64, rt (2 * b.val + 1) % 3329 = (- wS 2 b.val) % 3329 := by decide +kernel
theorem rems_ntt (f : Nat → Int) : Rems f 128 2 rt (ntt f) := by
  have st : ∀ (k : Nat) (hk : k < 6) (g : Nat → Int), Rems f (2 ^ k) (2 * (128 / 2 ^ k)) (vS (2 ^ k)) g → 0 < 128 / 2 ^ k → Rems f (2 * 2 ^ k) (128 / 2 ^ k) (vS (2 * 2 ^ k)) (sp (128 / 2 ^ k) g) := fun k hk g h h0 =>
    h.step h0 (fun b hb => cg.iff.2 (vS_ok ⟨k, by omega⟩ ⟨b, hb⟩)) (fun b hb => cg.iff.2 (vS_even ⟨k, hk⟩ ⟨b, hb⟩)) (fun b hb => cg.iff.2 (vS_odd ⟨k, hk⟩ ⟨b, hb⟩))
  have a0 := st 0 (by decide) f (Rems.start f _) (by decide)
  have a1 := st 1 (by decide) _ a0 (by decide)
  have a2 := st 2 (by decide) _ a1 (by decide)
  have a3 := st 3 (by decide) _ a2 (by decide)
  have a4 := st 4 (by decide) _ a3 (by decide)
  have a5 := st 5 (by decide) _ a4 (by decide)
  exact Rems.step (m := 64) (s := 2) (by decide) a5 (fun b hb => cg.iff.2 (vS_ok 6 ⟨b, hb⟩)) (fun b hb => cg.iff.2 (rt_even ⟨b, hb⟩)) (fun b hb => cg.iff.2 (rt_odd ⟨b, hb⟩))
theorem sp_low (s : Nat) (f : Nat → Int) (j : Nat) : 0 ≤ sp s f j ∧ sp s f j < 3329 := by unfold sp spl; split <;> omega
theorem jn_low (s : Nat) (f : Nat → Int) (j : Nat) : 0 ≤ jn s f j ∧ jn s f j < 3329 := by unfold jn jnd; split <;> omega
theorem ntt_low (f : Nat → Int) (j : Nat) : 0 ≤ ntt f j ∧ ntt f j < 3329 := sp_low _ _ _
theorem intt_low (f : Nat → Int) (j : Nat) : 0 ≤ intt f j ∧ intt f j < 3329 := jn_low _ _ _
/-- The coefficients 2 * c and 2 * c + 1 of the transform. -/
theorem ntt_at (f : Nat → Int) (c : Nat) (hc : c < 128) : ntt f (2 * c) = ev (fun t => f (2 * t)) 128 (rt c) % 3329 ∧ ntt f (2 * c + 1) = ev (fun t => f (2 * t + 1)) 128 (rt c) % 3329 := by
  have h0 := (rems_ntt f c 0 hc (by omega)).eq
  have h1 := (rems_ntt f c 1 hc (by omega)).eq
  have l0 := ntt_low f (c * 2 + 0)
  have l1 := ntt_low f (c * 2 + 1)
  have e0 : ev (fun t => f (0 + 2 * t)) 128 (rt c) = ev (fun t => f (2 * t)) 128 (rt c) := ev_ext fun i _ => by rw [Nat.zero_add]
  have e1 : ev (fun t => f (1 + 2 * t)) 128 (rt c) = ev (fun t => f (2 * t + 1)) 128 (rt c) := ev_ext fun i _ => by rw [Nat.add_comm]
  rw [e0] at h0
  rw [e1] at h1
  rw [show 2 * c = c * 2 + 0 by omega, show c * 2 + 0 + 1 = c * 2 + 1 by omega]
  omega
end Go.Proofs.YtalhdalmafhofaaGreatDoor

namespace Go.Proofs.YtalhdalmafhofaaGreatDoor
set_option linter.unusedVariables false

/-- A polynomial's remainder after the division by X^2 - z, its constant part and that of X. -/
def e0 (f : Nat → Int) (z : Int) : Int := ev (fun t => f (2 * t)) 128 z
def e1 (f : Nat → Int) (z : Int) : Int := ev (fun t => f (2 * t + 1)) 128 z
/-- The remainder of X^n, its constant part and that of X. -/
def x0 (n : Nat) (z : Int) : Int := if n % 2 = 0 then z ^ (n / 2) else 0
def x1 (n : Nat) (z : Int) : Int := if n % 2 = 0 then 0 else z ^ (n / 2)
/-- A coefficient changed. -/
def setF (f : Nat → Int) (m : Nat) (v : Int) (j : Nat) : Int := if j = m then v else f j
theorem ev_set (f : Nat → Int) (n : Nat) (z : Int) (m : Nat) (v : Int) (hm : m < n) : ev (setF f m v) n z = ev f n z + (v - f m) * z ^ m := by
  induction n with
  | zero => omega
  | succ n ih =>
    rw [ev_snoc, ev_snoc]
    by_cases h : m = n
    · subst h
      have : ev (setF f m v) m z = ev f m z := ev_ext fun i hi => if_neg (by omega)
      rw [this, show setF f m v m = v from if_pos rfl]
      grind
    · rw [ih (by omega), show setF f m v n = f n from if_neg (by omega)]
      grind
theorem e0_set (f : Nat → Int) (z : Int) (m : Nat) (v : Int) (hm : m < 256) : e0 (setF f m v) z = e0 f z + (v - f m) * x0 m z := by
  unfold e0 x0
  split
  · rename_i h
    have : ev (fun t => setF f m v (2 * t)) 128 z = ev (setF (fun t => f (2 * t)) (m / 2) v) 128 z := ev_ext fun i _ => by
      unfold setF
      by_cases h2 : 2 * i = m
      · rw [if_pos h2, if_pos (by omega)]
      · rw [if_neg h2, if_neg (by omega)]
    rw [this, ev_set _ _ _ _ _ (by omega), show 2 * (m / 2) = m by omega]
  · rename_i h
    have : ev (fun t => setF f m v (2 * t)) 128 z = ev (fun t => f (2 * t)) 128 z := ev_ext fun i _ => by
      unfold setF
      rw [if_neg (by omega)]
    rw [this]
    omega
theorem e1_set (f : Nat → Int) (z : Int) (m : Nat) (v : Int) (hm : m < 256) : e1 (setF f m v) z = e1 f z + (v - f m) * x1 m z := by
  unfold e1 x1
  split
  · rename_i h
    have : ev (fun t => setF f m v (2 * t + 1)) 128 z = ev (fun t => f (2 * t + 1)) 128 z := ev_ext fun i _ => by
      unfold setF
      rw [if_neg (by omega)]
    rw [this]
    omega
  · rename_i h
    have : ev (fun t => setF f m v (2 * t + 1)) 128 z = ev (setF (fun t => f (2 * t + 1)) (m / 2) v) 128 z := ev_ext fun i _ => by
      unfold setF
      by_cases h2 : 2 * i + 1 = m
      · rw [if_pos h2, if_pos (by omega)]
      · rw [if_neg h2, if_neg (by omega)]
    rw [this, ev_set _ _ _ _ _ (by omega), show 2 * (m / 2) + 1 = m by omega]
/-- Products of powers of X. -/
theorem x_mul (a b : Nat) (z : Int) : x0 (a + b) z = x0 a z * x0 b z + z * (x1 a z * x1 b z) ∧ x1 (a + b) z = x0 a z * x1 b z + x1 a z * x0 b z := by
  rcases Nat.mod_two_eq_zero_or_one a with ha | ha <;> rcases Nat.mod_two_eq_zero_or_one b with hb | hb
  · have hab : (a + b) % 2 = 0 := by omega
    simp only [x0, x1, ha, hb, hab, show (a + b) / 2 = a / 2 + b / 2 by omega, Int.pow_add, if_true]
    grind
  · have hab : (a + b) % 2 = 1 := by omega
    simp only [x0, x1, ha, hb, hab, show (a + b) / 2 = a / 2 + b / 2 by omega, Int.pow_add, if_true]
    grind
  · have hab : (a + b) % 2 = 1 := by omega
    simp only [x0, x1, ha, hb, hab, show (a + b) / 2 = a / 2 + b / 2 by omega, Int.pow_add, if_true]
    grind
  · have hab : (a + b) % 2 = 0 := by omega
    simp only [x0, x1, ha, hb, hab, show (a + b) / 2 = a / 2 + b / 2 + 1 by omega, Int.pow_succ, Int.pow_add, if_true]
    grind
/-- z to the power of 128 is -1. -/
theorem rt_128 (c : Fin 128) : (rt c.val) ^ 128 % 3329 = 3328 := by
  revert c
  decide +kernel
theorem x_wrap (c : Nat) (hc : c < 128) (n : Nat) (hn : 256 ≤ n) : cg (x0 n (rt c)) (- x0 (n - 256) (rt c)) ∧ cg (x1 n (rt c)) (- x1 (n - 256) (rt c)) := by
  have h : cg ((rt c) ^ 128) (-1) := cg.iff.2 (by rw [rt_128 ⟨c, hc⟩]; rfl)
  have e : (rt c) ^ (n / 2) = (rt c) ^ ((n - 256) / 2) * (rt c) ^ 128 := by rw [← Int.pow_add, show (n - 256) / 2 + 128 = n / 2 by omega]
  have h2 : cg ((rt c) ^ (n / 2)) (- (rt c) ^ ((n - 256) / 2)) := by
    rw [e]
    exact ((cg.refl _).mul h).trans (cg.of_eq (by grind))
  unfold x0 x1
  rcases Nat.mod_two_eq_zero_or_one n with hn2 | hn2
  · rw [if_pos hn2, if_pos (by omega), if_pos hn2, if_pos (by omega)]
    exact ⟨h2, cg.refl _⟩
  · rw [if_neg (by omega), if_neg (by omega), if_neg (by omega), if_neg (by omega)]
    exact ⟨cg.refl _, h2⟩

/-- One step of the product: the coefficients i of a and k of b, into place. -/
def pstep14 (a b : Nat → Int) (i : Nat) (o : Nat → Int) (k : Nat) : Nat → Int :=
  if i + k < 256 then setF o (i + k) ((o (i + k) + a i % 3329 * (b k % 3329) % 3329) % 3329)
  else setF o (i + k - 256) ((o (i + k - 256) + 3329 - a i % 3329 * (b k % 3329) % 3329) % 3329)
/-- Row after row, place after place. -/
def prow (a b : Nat → Int) (i : Nat) (o : Nat → Int) : Nat → Nat → Int
  | 0 => o
  | k + 1 => pstep14 a b i (prow a b i o k) k
def prod (a b : Nat → Int) : Nat → Nat → Int
  | 0 => fun _ => 0
  | i + 1 => prow a b i (prod a b i) 256
theorem pstep_low (a b : Nat → Int) (i : Nat) (o : Nat → Int) (k : Nat) (h : ∀ j, 0 ≤ o j ∧ o j < 3329) (j : Nat) : 0 ≤ pstep14 a b i o k j ∧ pstep14 a b i o k j < 3329 := by
  have hs : ∀ m v, 0 ≤ v → v < 3329 → 0 ≤ setF o m v j ∧ setF o m v j < 3329 := fun m v h0 h1 => by
    unfold setF
    split
    · exact ⟨h0, h1⟩
    · exact h j
  unfold pstep14
  split <;> exact hs _ _ (by omega) (by omega)
theorem prow_low (a b : Nat → Int) (i : Nat) (o : Nat → Int) (h : ∀ j, 0 ≤ o j ∧ o j < 3329) (k : Nat) : ∀ j, 0 ≤ prow a b i o k j ∧ prow a b i o k j < 3329 := by
  induction k with
  | zero => exact h
  | succ k ih => exact pstep_low _ _ _ _ _ ih
theorem prod_low (a b : Nat → Int) (i : Nat) : ∀ j, 0 ≤ prod a b i j ∧ prod a b i j < 3329 := by
  induction i with
  | zero => intro j; simp [prod]
  | succ i ih => exact prow_low _ _ _ _ ih _
/-- Sums over pairs. -/
def s0 (b : Nat → Int) (z : Int) : Nat → Int
  | 0 => 0
  | k + 1 => s0 b z k + b k * x0 k z
def s1 (b : Nat → Int) (z : Int) : Nat → Int
  | 0 => 0
  | k + 1 => s1 b z k + b k * x1 k z
theorem cg_c (a b : Int) : cg (a % 3329 * (b % 3329) % 3329) (a * b) := (cg.mod _).trans ((cg.mod _).mul (cg.mod _))
theorem pstep_e (a b : Nat → Int) (i : Nat) (o : Nat → Int) (k c : Nat) (hi : i < 256) (hk : k < 256) (hc : c < 128) :
    cg (e0 (pstep14 a b i o k) (rt c)) (e0 o (rt c) + a i * b k * x0 (i + k) (rt c)) ∧ cg (e1 (pstep14 a b i o k) (rt c)) (e1 o (rt c) + a i * b k * x1 (i + k) (rt c)) := by
  unfold pstep14
  have hcc := cg_c (a i) (b k)
  by_cases h : i + k < 256
  · rw [if_pos h]
    rw [e0_set _ _ _ _ h, e1_set _ _ _ _ h]
    have hd : cg ((o (i + k) + a i % 3329 * (b k % 3329) % 3329) % 3329 - o (i + k)) (a i * b k) := by
      refine ((cg.mod _).sub (cg.refl _)).trans ((cg.of_eq ?_).trans hcc)
      omega
    exact ⟨(cg.refl _).add (hd.mul (cg.refl _)), (cg.refl _).add (hd.mul (cg.refl _))⟩
  · rw [if_neg h]
    rw [e0_set _ _ _ _ (by omega), e1_set _ _ _ _ (by omega)]
    have hd : cg ((o (i + k - 256) + 3329 - a i % 3329 * (b k % 3329) % 3329) % 3329 - o (i + k - 256)) (-(a i * b k)) := by
      refine ((cg.mod _).sub (cg.refl _)).trans (cg.trans ?_ hcc.neg)
      exact ⟨1, by omega⟩
    obtain ⟨h1, h2⟩ := x_wrap c hc (i + k) (by omega)
    refine ⟨(cg.refl _).add ((hd.mul (cg.refl _)).trans ?_), (cg.refl _).add ((hd.mul (cg.refl _)).trans ?_)⟩
    · exact (cg.of_eq (by grind)).trans ((cg.refl (a i * b k)).mul h1.symm)
    · exact (cg.of_eq (by grind)).trans ((cg.refl (a i * b k)).mul h2.symm)
theorem prow_e (a b : Nat → Int) (i : Nat) (o : Nat → Int) (c : Nat) (hi : i < 256) (hc : c < 128) (k : Nat) (hk : k ≤ 256) :
    cg (e0 (prow a b i o k) (rt c)) (e0 o (rt c) + a i * (x0 i (rt c) * s0 b (rt c) k + rt c * (x1 i (rt c) * s1 b (rt c) k)))
    ∧ cg (e1 (prow a b i o k) (rt c)) (e1 o (rt c) + a i * (x0 i (rt c) * s1 b (rt c) k + x1 i (rt c) * s0 b (rt c) k)) := by
  induction k with
  | zero => exact ⟨cg.of_eq (by simp [prow, s0, s1]), cg.of_eq (by simp [prow, s0, s1])⟩
  | succ k ih =>
    obtain ⟨h1, h2⟩ := ih (by omega)
    obtain ⟨g1, g2⟩ := pstep_e a b i (prow a b i o k) k c hi (by omega) hc
    obtain ⟨m1, m2⟩ := x_mul i k (rt c)
    unfold prow s0 s1
    rw [m1] at g1
    rw [m2] at g2
    exact ⟨g1.trans ((h1.add (cg.refl _)).trans (cg.of_eq (by grind))), g2.trans ((h2.add (cg.refl _)).trans (cg.of_eq (by grind)))⟩
theorem prod_e (a b : Nat → Int) (c : Nat) (hc : c < 128) (i : Nat) (hi : i ≤ 256) :
    cg (e0 (prod a b i) (rt c)) (s0 a (rt c) i * s0 b (rt c) 256 + rt c * (s1 a (rt c) i * s1 b (rt c) 256))
    ∧ cg (e1 (prod a b i) (rt c)) (s0 a (rt c) i * s1 b (rt c) 256 + s1 a (rt c) i * s0 b (rt c) 256) := by
  obtain ⟨p, hp⟩ : ∃ p, s0 b (rt c) 256 = p := ⟨_, rfl⟩
  obtain ⟨q, hq⟩ : ∃ q, s1 b (rt c) 256 = q := ⟨_, rfl⟩
  rw [hp, hq]
  induction i with
  | zero =>
    have hz : ∀ n z, ev (fun _ => 0) n z = 0 := fun n z => by
      induction n with
      | zero => rfl
      | succ n ih => rw [ev, ih, Int.mul_zero, Int.add_zero]
    have z0 : e0 (prod a b 0) (rt c) = 0 := hz 128 _
    have z1 : e1 (prod a b 0) (rt c) = 0 := hz 128 _
    rw [z0, z1]
    exact ⟨cg.of_eq (by rw [s0, s1, Int.zero_mul, Int.zero_mul, Int.mul_zero, Int.add_zero]), cg.of_eq (by rw [s0, s1, Int.zero_mul, Int.zero_mul, Int.add_zero])⟩
  | succ i ih =>
    obtain ⟨h1, h2⟩ := ih (by omega)
    obtain ⟨g1, g2⟩ := prow_e a b i (prod a b i) c (by omega) hc 256 (Nat.le_refl _)
    rw [hp, hq] at g1 g2
    clear hp hq ih
    have f0 : prod a b (i + 1) = prow a b i (prod a b i) 256 := rfl
    rw [f0, s0, s1]
    exact ⟨g1.trans ((h1.add (cg.refl _)).trans (cg.of_eq (by grind))), g2.trans ((h2.add (cg.refl _)).trans (cg.of_eq (by grind)))⟩
/-- The sums are the remainders. -/
theorem s_even (f : Nat → Int) (z : Int) (n : Nat) : s0 f z (2 * n) = ev (fun t => f (2 * t)) n z ∧ s1 f z (2 * n) = ev (fun t => f (2 * t + 1)) n z := by
  induction n with
  | zero => exact ⟨rfl, rfl⟩
  | succ n ih =>
    rw [show 2 * (n + 1) = 2 * n + 1 + 1 by omega, ev_snoc, ev_snoc]
    simp only [s0, s1, ih.1, ih.2]
    unfold x0 x1
    rw [if_pos (by omega), if_neg (by omega), if_pos (by omega), if_neg (by omega), show 2 * n / 2 = n by omega, show (2 * n + 1) / 2 = n by omega]
    constructor <;> omega
/-- The transform of the product is the product in the transform. -/
theorem ntt_prod (a b : Nat → Int) (c : Nat) (hc : c < 128) :
    ntt (prod a b 256) (2 * c) = (ntt a (2 * c) * ntt b (2 * c) + rt c * ntt a (2 * c + 1) * ntt b (2 * c + 1)) % 3329
    ∧ ntt (prod a b 256) (2 * c + 1) = (ntt a (2 * c) * ntt b (2 * c + 1) + ntt a (2 * c + 1) * ntt b (2 * c)) % 3329 := by
  obtain ⟨h1, h2⟩ := prod_e a b c hc 256 (Nat.le_refl _)
  obtain ⟨p0, p1⟩ := ntt_at (prod a b 256) c hc
  obtain ⟨a0, a1⟩ := ntt_at a c hc
  obtain ⟨b0, b1⟩ := ntt_at b c hc
  obtain ⟨sa0, sa1⟩ := s_even a (rt c) 128
  obtain ⟨sb0, sb1⟩ := s_even b (rt c) 128
  simp only [Nat.reduceMul] at sa0 sa1 sb0 sb1
  rw [sa0, sa1, sb0, sb1] at h1 h2
  rw [p0, p1, a0, a1, b0, b1]
  constructor
  · refine (h1.trans ?_).eq
    exact (((cg.mod _).symm.mul (cg.mod _).symm).add (((cg.refl (rt c)).mul ((cg.mod _).symm.mul (cg.mod _).symm)).trans (cg.of_eq (by grind))))
  · refine (h2.trans ?_).eq
    exact (((cg.mod _).symm.mul (cg.mod _).symm).add ((cg.mod _).symm.mul (cg.mod _).symm))
/-- The product in the transform. -/
def mulF (a b : Nat → Int) (j : Nat) : Int :=
  if j % 2 = 0 then (a j * b j + rt (j / 2) * a (j + 1) * b (j + 1)) % 3329 else (a (j - 1) * b j + a j * b (j - 1)) % 3329
theorem ntt_prod_at (a b : Nat → Int) (j : Nat) (hj : j < 256) : ntt (prod a b 256) j = mulF (ntt a) (ntt b) j := by
  obtain ⟨h0, h1⟩ := ntt_prod a b (j / 2) (by omega)
  unfold mulF
  split
  · rw [show 2 * (j / 2) = j by omega] at h0
    exact h0
  · rw [show 2 * (j / 2) + 1 = j by omega, show 2 * (j / 2) = j - 1 by omega] at h1
    exact h1
end Go.Proofs.YtalhdalmafhofaaGreatDoor

namespace Go.Proofs.YtalhdalmafhofaaGreatDoor
set_option linter.unusedVariables false

def addF (f g : Nat → Int) (j : Nat) : Int := (f j + g j) % 3329
theorem sp_add (s : Nat) (f g : Nat → Int) : sp s (addF f g) = addF (sp s f) (sp s g) := by
  funext j
  by_cases h : j % (2 * s) < s
  · have e : ∀ f, sp s f j = (f j + wS s (j / (2 * s)) * f (j + s)) % 3329 := fun f => if_pos h
    unfold addF
    rw [e, e, e]
    refine cg.eq (((cg.mod _).add ((cg.refl _).mul (cg.mod _))).trans ((cg.of_eq ?_).trans ((cg.mod _).symm.add (cg.mod _).symm)))
    grind
  · have e : ∀ f, sp s f j = (f (j - s) - wS s (j / (2 * s)) * f j) % 3329 := fun f => if_neg h
    unfold addF
    rw [e, e, e]
    refine cg.eq (((cg.mod _).sub ((cg.refl _).mul (cg.mod _))).trans ((cg.of_eq ?_).trans ((cg.mod _).symm.add (cg.mod _).symm)))
    grind
theorem ntt_add (f g : Nat → Int) : ntt (addF f g) = addF (ntt f) (ntt g) := by
  unfold ntt
  simp only [sp_add]
/-- What the reference holds once the coefficients from k on are taken. -/
def hor (f : Nat → Int) (n k : Nat) (z : Int) : Int := ev (fun t => f (k + t)) (n - k) z % 3329
theorem hor_top (f : Nat → Int) (n : Nat) (z : Int) : hor f n n z = 0 := by unfold hor; rw [Nat.sub_self]; rfl
theorem hor_step (f : Nat → Int) (n k : Nat) (z : Int) (hk : k < n) : (hor f n (k + 1) z * z + f k) % 3329 = hor f n k z := by
  unfold hor
  rw [show n - k = (n - (k + 1)) + 1 by omega]
  have e : ev (fun t => f (k + (t + 1))) (n - (k + 1)) z = ev (fun t => f (k + 1 + t)) (n - (k + 1)) z := ev_ext fun i _ => by rw [show k + (i + 1) = k + 1 + i by omega]
  rw [ev]
  simp only [Nat.add_zero]
  rw [e]
  exact cg.eq ((((cg.mod _).mul (cg.refl z)).add (cg.refl (f k))).trans (cg.of_eq (by grind)))
theorem hor_zero (f : Nat → Int) (n : Nat) (z : Int) : hor f n 0 z = ev f n z % 3329 := by
  unfold hor
  rw [Nat.sub_zero, ev_ext (f := fun t => f (0 + t)) (g := f) fun i _ => by rw [Nat.zero_add]]
theorem hor_lt (f : Nat → Int) (n k : Nat) (z : Int) : 0 ≤ hor f n k z ∧ hor f n k z < 3329 := by unfold hor; omega
end Go.Proofs.YtalhdalmafhofaaGreatDoor
