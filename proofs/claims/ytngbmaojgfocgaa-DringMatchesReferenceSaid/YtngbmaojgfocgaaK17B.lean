/- The whole transform: its places are remainders; it and the inverse invert each other. -/
import Derived.Test.YtngbmaojgfocgaaK17A
namespace Go.Proofs.Ytngbmaojgfocgaa.dr
set_option linter.unusedVariables false

/-- The number whose 8 bits are those of i in reverse order. -/
def rv8 (i : Nat) : Nat := i % 2 * 128 + i / 2 % 2 * 64 + i / 4 % 2 * 32 + i / 8 % 2 * 16 + i / 16 % 2 * 8 + i / 32 % 2 * 4 + i / 64 % 2 * 2 + i / 128 % 2
theorem rv8_lt (i : Nat) : rv8 i < 256 := by unfold rv8; omega
/-- The root i. -/
def rt (i : Nat) : Int := pw (2 * rv8 i + 1)
/-- By what the remainder b is divided in the layer of s coefficients. -/
def wS (s b : Nat) : Int := pw (rv8 (128 / s + b))
def uS (s b : Nat) : Int := pw (512 - rv8 (128 / s + b))
theorem pw_512 : pw 512 = 1 := by decide +kernel
theorem wu (s b : Nat) : cg (wS s b * uS s b) 1 := by
  have h := rv8_lt (128 / s + b)
  refine (pw_add _ _).trans (cg.of_eq ?_)
  rw [show rv8 (128 / s + b) + (512 - rv8 (128 / s + b)) = 512 by omega, pw_512]
def sp (s : Nat) (f : Nat → Int) : Nat → Int := spl (wS s) s f
def jn (s : Nat) (f : Nat → Int) : Nat → Int := jnd (uS s) s f
/-- The transform and its inverse, layer by layer. -/
def ntt (f : Nat → Int) : Nat → Int := sp 1 (sp 2 (sp 4 (sp 8 (sp 16 (sp 32 (sp 64 (sp 128 f)))))))
def intt (f : Nat → Int) : Nat → Int := jn 128 (jn 64 (jn 32 (jn 16 (jn 8 (jn 4 (jn 2 (jn 1 f)))))))
theorem jn_sp {s : Nat} (hs : 0 < s) (f : Nat → Int) : jn s (sp s f) = rdc f := jnd_spl hs (wu s) f
theorem sp_jn {s : Nat} (hs : 0 < s) (f : Nat → Int) : sp s (jn s f) = rdc f := spl_jnd hs (wu s) f
theorem jn_rdc (s : Nat) (f : Nat → Int) : jn s (rdc f) = jn s f := jnd_cg (rdc_cg f)
theorem sp_rdc (s : Nat) (f : Nat → Int) : sp s (rdc f) = sp s f := spl_cg (rdc_cg f)
theorem intt_ntt (f : Nat → Int) : intt (ntt f) = rdc f := by
  unfold intt ntt
  simp only [jn_sp (show 0 < 1 by decide), jn_sp (show 0 < 2 by decide), jn_sp (show 0 < 4 by decide), jn_sp (show 0 < 8 by decide), jn_sp (show 0 < 16 by decide), jn_sp (show 0 < 32 by decide), jn_sp (show 0 < 64 by decide), jn_sp (show 0 < 128 by decide), jn_rdc]
theorem ntt_intt (f : Nat → Int) : ntt (intt f) = rdc f := by
  unfold intt ntt
  simp only [sp_jn (show 0 < 1 by decide), sp_jn (show 0 < 2 by decide), sp_jn (show 0 < 4 by decide), sp_jn (show 0 < 8 by decide), sp_jn (show 0 < 16 by decide), sp_jn (show 0 < 32 by decide), sp_jn (show 0 < 64 by decide), sp_jn (show 0 < 128 by decide), sp_rdc]
theorem intt_cg {f g : Nat → Int} (h : ∀ j, cg (f j) (g j)) : intt f = intt g := by unfold intt jn; rw [jnd_cg h]
theorem ntt_cg {f g : Nat → Int} (h : ∀ j, cg (f j) (g j)) : ntt f = ntt g := by unfold ntt sp; rw [spl_cg h]
theorem ntt_rdc (f : Nat → Int) : ntt (rdc f) = ntt f := ntt_cg (rdc_cg f)
theorem intt_rdc (f : Nat → Int) : intt (rdc f) = intt f := intt_cg (rdc_cg f)

/-- The places of g are the remainders of f: 256 / l of them, of l coefficients each, that with the number c after the division by X^l - v c. -/
def Rems (f : Nat → Int) (m l : Nat) (v : Nat → Int) (g : Nat → Int) : Prop :=
  ∀ c r, c < m → r < l → cg (g (c * l + r)) (ev (fun t => f (r + l * t)) m (v c))
theorem Rems.start (f : Nat → Int) (v : Nat → Int) : Rems f 1 256 v f := by
  intro c r hc hr
  obtain rfl : c = 0 := by omega
  refine cg.of_eq ?_
  simp [ev]
theorem Rems.step {f g : Nat → Int} {m s : Nat} {v w v' : Nat → Int} (hs : 0 < s) (h : Rems f m (2 * s) v g)
    (hv : ∀ b, b < m → cg (v b) (w b * w b)) (h0 : ∀ b, b < m → cg (v' (2 * b)) (w b)) (h1 : ∀ b, b < m → cg (v' (2 * b + 1)) (- w b)) :
    Rems f (2 * m) s v' (spl w s g) := by
  intro c r hc hr
  have ev0 : ∀ z : Int, ev (fun t => f (r + s * t)) (2 * m) z = ev (fun t => f (r + 2 * s * t)) m (z * z) + z * ev (fun t => f (r + s + 2 * s * t)) m (z * z) := fun z => by
    rw [ev_two]
    rw [ev_ext (f := fun i => f (r + s * (2 * i))) (g := fun t => f (r + 2 * s * t)) fun i _ => by rw [show s * (2 * i) = 2 * s * i by grind]]
    rw [ev_ext (f := fun i => f (r + s * (2 * i + 1))) (g := fun t => f (r + s + 2 * s * t)) fun i _ => by rw [show r + s * (2 * i + 1) = r + s + 2 * s * i by grind]]
  rw [ev0]
  obtain ⟨b, hb | hb⟩ : ∃ b, c = 2 * b ∨ c = 2 * b + 1 := ⟨c / 2, by omega⟩
  · subst hb
    have hb : b < m := by omega
    have a1 := h b r hb (by omega)
    have a2 := h b (r + s) hb (by omega)
    have hj : 2 * b * s + r = b * (2 * s) + r := by grind
    have hm : (b * (2 * s) + r) % (2 * s) = r := by rw [Nat.add_comm, Nat.add_mul_mod_self_right, Nat.mod_eq_of_lt (by omega)]
    have hd : (b * (2 * s) + r) / (2 * s) = b := by rw [Nat.add_comm, Nat.add_mul_div_right _ _ (by omega), Nat.div_eq_of_lt (by omega)]; omega
    rw [hj]
    unfold spl
    rw [if_pos (by omega), hd]
    have hz : cg (v' (2 * b) * v' (2 * b)) (v b) := ((h0 b hb).mul (h0 b hb)).trans (hv b hb).symm
    refine (cg.mod _).trans ((a1.trans (ev_congr (fun i _ => cg.refl _) hz.symm)).add ((h0 b hb).symm.mul ?_))
    have : b * (2 * s) + (r + s) = b * (2 * s) + r + s := by omega
    rw [← this]
    exact a2.trans (ev_congr (fun i _ => cg.refl _) hz.symm)
  · subst hb
    have hb : b < m := by omega
    have a1 := h b r hb (by omega)
    have a2 := h b (r + s) hb (by omega)
    have hj : (2 * b + 1) * s + r = b * (2 * s) + (r + s) := by grind
    have hm : (b * (2 * s) + (r + s)) % (2 * s) = r + s := by rw [Nat.add_comm, Nat.add_mul_mod_self_right, Nat.mod_eq_of_lt (by omega)]
    have hd : (b * (2 * s) + (r + s)) / (2 * s) = b := by rw [Nat.add_comm, Nat.add_mul_div_right _ _ (by omega), Nat.div_eq_of_lt (by omega)]; omega
    rw [hj]
    unfold spl
    rw [if_neg (by omega), hd, show b * (2 * s) + (r + s) - s = b * (2 * s) + r by omega]
    have hz : cg (v' (2 * b + 1) * v' (2 * b + 1)) (v b) := ((h1 b hb).mul (h1 b hb)).trans ((cg.of_eq (by grind)).trans (hv b hb).symm)
    have e : ev (fun t => f (r + 2 * s * t)) m (v' (2 * b + 1) * v' (2 * b + 1)) + v' (2 * b + 1) * ev (fun t => f (r + s + 2 * s * t)) m (v' (2 * b + 1) * v' (2 * b + 1)) = ev (fun t => f (r + 2 * s * t)) m (v' (2 * b + 1) * v' (2 * b + 1)) - (- v' (2 * b + 1)) * ev (fun t => f (r + s + 2 * s * t)) m (v' (2 * b + 1) * v' (2 * b + 1)) := by grind
    rw [e]
    refine (cg.mod _).trans ((a1.trans (ev_congr (fun i _ => cg.refl _) hz.symm)).sub (cg.mul ?_ (a2.trans (ev_congr (fun i _ => cg.refl _) hz.symm))))
    exact (cg.of_eq (by grind)).trans (h1 b hb).neg.symm
/-- By what the remainders of l coefficients are remainders. -/
def vS (m b : Nat) : Int := pw (2 * rv8 (m + b))
theorem vS_ok : ∀ k : Fin 8, ∀ b : Fin (2 ^ k.val), vS (2 ^ k.val) b.val % 8380417 = wS (128 / 2 ^ k.val) b.val * wS (128 / 2 ^ k.val) b.val % 8380417 := by decide +kernel
theorem vS_even : ∀ k : Fin 7, ∀ b : Fin (2 ^ k.val), vS (2 * 2 ^ k.val) (2 * b.val) % 8380417 = wS (128 / 2 ^ k.val) b.val % 8380417 := by decide +kernel
theorem vS_odd : ∀ k : Fin 7, ∀ b : Fin (2 ^ k.val), vS (2 * 2 ^ k.val) (2 * b.val + 1) % 8380417 = (- wS (128 / 2 ^ k.val) b.val) % 8380417 := by decide +kernel
theorem rt_even : ∀ b : Fin 128, rt (2 * b.val) % 8380417 = wS 1 b.val % 8380417 := by decide +kernel
theorem rt_odd : ∀ b : Fin 128, rt (2 * b.val + 1) % 8380417 = (- wS 1 b.val) % 8380417 := by decide +kernel
theorem rems_ntt (f : Nat → Int) : Rems f 256 1 rt (ntt f) := by
  have st : ∀ (k : Nat) (hk : k < 7) (g : Nat → Int), Rems f (2 ^ k) (2 * (128 / 2 ^ k)) (vS (2 ^ k)) g → 0 < 128 / 2 ^ k → Rems f (2 * 2 ^ k) (128 / 2 ^ k) (vS (2 * 2 ^ k)) (sp (128 / 2 ^ k) g) := fun k hk g h h0 =>
    h.step h0 (fun b hb => cg.iff.2 (vS_ok ⟨k, by omega⟩ ⟨b, hb⟩)) (fun b hb => cg.iff.2 (vS_even ⟨k, hk⟩ ⟨b, hb⟩)) (fun b hb => cg.iff.2 (vS_odd ⟨k, hk⟩ ⟨b, hb⟩))
  have a0 := st 0 (by decide) f (Rems.start f _) (by decide)
  have a1 := st 1 (by decide) _ a0 (by decide)
  have a2 := st 2 (by decide) _ a1 (by decide)
  have a3 := st 3 (by decide) _ a2 (by decide)
  have a4 := st 4 (by decide) _ a3 (by decide)
  have a5 := st 5 (by decide) _ a4 (by decide)
  have a6 := st 6 (by decide) _ a5 (by decide)
  exact Rems.step (m := 128) (s := 1) (by decide) a6 (fun b hb => cg.iff.2 (vS_ok 7 ⟨b, hb⟩)) (fun b hb => cg.iff.2 (rt_even ⟨b, hb⟩)) (fun b hb => cg.iff.2 (rt_odd ⟨b, hb⟩))
theorem sp_low (s : Nat) (f : Nat → Int) (j : Nat) : 0 ≤ sp s f j ∧ sp s f j < 8380417 := by unfold sp spl; split <;> omega
theorem jn_low (s : Nat) (f : Nat → Int) (j : Nat) : 0 ≤ jn s f j ∧ jn s f j < 8380417 := by unfold jn jnd; split <;> omega
theorem ntt_low (f : Nat → Int) (j : Nat) : 0 ≤ ntt f j ∧ ntt f j < 8380417 := sp_low _ _ _
theorem intt_low (f : Nat → Int) (j : Nat) : 0 ≤ intt f j ∧ intt f j < 8380417 := jn_low _ _ _
/-- The coefficients of the transform are values. -/
theorem ntt_at (f : Nat → Int) (c : Nat) (hc : c < 256) : ntt f c = ev f 256 (rt c) % 8380417 := by
  have h0 := (rems_ntt f c 0 hc (by omega)).eq
  have l0 := ntt_low f (c * 1 + 0)
  have e0 : ev (fun t => f (0 + 1 * t)) 256 (rt c) = ev f 256 (rt c) := ev_ext fun i _ => by rw [Nat.zero_add, Nat.one_mul]
  rw [e0] at h0
  rw [show c * 1 + 0 = c by omega] at h0 l0
  omega
end Go.Proofs.Ytngbmaojgfocgaa.dr
