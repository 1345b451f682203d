/- The product modulo X^256 + 1 becomes the product of the remainders. -/
import Derived.Test.YtmhhkhbdjkbklaaK14B
namespace Go.Proofs.Ytmhhkhbdjkbklaa
set_option linter.unusedVariables false

/-- A polynomial's remainder after the division by X^2 - z, its constant part and that of X. -/
def e0 (f : Nat → Int) (z : Int) : Int := ev (fun t => f (2 * t)) 128 z
def e1 (f : Nat → Int) (z : Int) : Int := ev (fun t => f (2 * t + 1)) 128 z
/-- The remainder of X^n, its constant part and that of X. -/
def x0 (n : Nat) (z : Int) : Int := if n % 2 = 0 then z ^ (n / 2) else 0
def x1 (n : Nat) (z : Int) : Int := if n % 2 = 0 then 0 else z ^ (n / 2)
/-- A coefficient changed. -/
def setF (f : Nat → Int) (m : Nat) (v : Int) (j : Nat) : Int := if j = m then v else f j
theorem ev_set (f : Nat → Int) (n : Nat) (z : Int) (m : Nat) (v : Int) (hm : m < n) : ev (setF f m v) n z = ev f n z + (v - f m) * z ^ m := by
  induction n with
  | zero => omega
  | succ n ih =>
    rw [ev_snoc, ev_snoc]
    by_cases h : m = n
    · subst h
      have : ev (setF f m v) m z = ev f m z := ev_ext fun i hi => if_neg (by omega)
      rw [this, show setF f m v m = v from if_pos rfl]
      grind
    · rw [ih (by omega), show setF f m v n = f n from if_neg (by omega)]
      grind
theorem e0_set (f : Nat → Int) (z : Int) (m : Nat) (v : Int) (hm : m < 256) : e0 (setF f m v) z = e0 f z + (v - f m) * x0 m z := by
  unfold e0 x0
  split
  · rename_i h
    have : ev (fun t => setF f m v (2 * t)) 128 z = ev (setF (fun t => f (2 * t)) (m / 2) v) 128 z := ev_ext fun i _ => by
      unfold setF
      by_cases h2 : 2 * i = m
      · rw [if_pos h2, if_pos (by omega)]
      · rw [if_neg h2, if_neg (by omega)]
    rw [this, ev_set _ _ _ _ _ (by omega), show 2 * (m / 2) = m by omega]
  · rename_i h
    have : ev (fun t => setF f m v (2 * t)) 128 z = ev (fun t => f (2 * t)) 128 z := ev_ext fun i _ => by
      unfold setF
      rw [if_neg (by omega)]
    rw [this]
    omega
theorem e1_set (f : Nat → Int) (z : Int) (m : Nat) (v : Int) (hm : m < 256) : e1 (setF f m v) z = e1 f z + (v - f m) * x1 m z := by
  unfold e1 x1
  split
  · rename_i h
    have : ev (fun t => setF f m v (2 * t + 1)) 128 z = ev (fun t => f (2 * t + 1)) 128 z := ev_ext fun i _ => by
      unfold setF
      rw [if_neg (by omega)]
    rw [this]
    omega
  · rename_i h
    have : ev (fun t => setF f m v (2 * t + 1)) 128 z = ev (setF (fun t => f (2 * t + 1)) (m / 2) v) 128 z := ev_ext fun i _ => by
      unfold setF
      by_cases h2 : 2 * i + 1 = m
      · rw [if_pos h2, if_pos (by omega)]
      · rw [if_neg h2, if_neg (by omega)]
    rw [this, ev_set _ _ _ _ _ (by omega), show 2 * (m / 2) + 1 = m by omega]
/-- Products of powers of X. -/
theorem x_mul (a b : Nat) (z : Int) : x0 (a + b) z = x0 a z * x0 b z + z * (x1 a z * x1 b z) ∧ x1 (a + b) z = x0 a z * x1 b z + x1 a z * x0 b z := by
  rcases Nat.mod_two_eq_zero_or_one a with ha | ha <;> rcases Nat.mod_two_eq_zero_or_one b with hb | hb
  · have hab : (a + b) % 2 = 0 := by omega
    simp only [x0, x1, ha, hb, hab, show (a + b) / 2 = a / 2 + b / 2 by omega, Int.pow_add, if_true]
    grind
  · have hab : (a + b) % 2 = 1 := by omega
    simp only [x0, x1, ha, hb, hab, show (a + b) / 2 = a / 2 + b / 2 by omega, Int.pow_add, if_true]
    grind
  · have hab : (a + b) % 2 = 1 := by omega
    simp only [x0, x1, ha, hb, hab, show (a + b) / 2 = a / 2 + b / 2 by omega, Int.pow_add, if_true]
    grind
  · have hab : (a + b) % 2 = 0 := by omega
    simp only [x0, x1, ha, hb, hab, show (a + b) / 2 = a / 2 + b / 2 + 1 by omega, Int.pow_succ, Int.pow_add, if_true]
    grind
/-- z to the power of 128 is -1. -/
theorem rt_128 (c : Fin 128) : (rt c.val) ^ 128 % 3329 = 3328 := by
  revert c
  decide +kernel
theorem x_wrap (c : Nat) (hc : c < 128) (n : Nat) (hn : 256 ≤ n) : cg (x0 n (rt c)) (- x0 (n - 256) (rt c)) ∧ cg (x1 n (rt c)) (- x1 (n - 256) (rt c)) := by
  have h : cg ((rt c) ^ 128) (-1) := cg.iff.2 (by rw [rt_128 ⟨c, hc⟩]; rfl)
  have e : (rt c) ^ (n / 2) = (rt c) ^ ((n - 256) / 2) * (rt c) ^ 128 := by rw [← Int.pow_add, show (n - 256) / 2 + 128 = n / 2 by omega]
  have h2 : cg ((rt c) ^ (n / 2)) (- (rt c) ^ ((n - 256) / 2)) := by
    rw [e]
    exact ((cg.refl _).mul h).trans (cg.of_eq (by grind))
  unfold x0 x1
  rcases Nat.mod_two_eq_zero_or_one n with hn2 | hn2
  · rw [if_pos hn2, if_pos (by omega), if_pos hn2, if_pos (by omega)]
    exact ⟨h2, cg.refl _⟩
  · rw [if_neg (by omega), if_neg (by omega), if_neg (by omega), if_neg (by omega)]
    exact ⟨cg.refl _, h2⟩

/-- One step of the product: the coefficients i of a and k of b, into place. -/
def pstep (a b : Nat → Int) (i : Nat) (o : Nat → Int) (k : Nat) : Nat → Int :=
  if i + k < 256 then setF o (i + k) ((o (i + k) + a i % 3329 * (b k % 3329) % 3329) % 3329)
  else setF o (i + k - 256) ((o (i + k - 256) + 3329 - a i % 3329 * (b k % 3329) % 3329) % 3329)
/-- Row after row, place after place. -/
def prow (a b : Nat → Int) (i : Nat) (o : Nat → Int) : Nat → Nat → Int
  | 0 => o
  | k + 1 => pstep a b i (prow a b i o k) k
def prod (a b : Nat → Int) : Nat → Nat → Int
  | 0 => fun _ => 0
  | i + 1 => prow a b i (prod a b i) 256
theorem pstep_low (a b : Nat → Int) (i : Nat) (o : Nat → Int) (k : Nat) (h : ∀ j, 0 ≤ o j ∧ o j < 3329) (j : Nat) : 0 ≤ pstep a b i o k j ∧ pstep a b i o k j < 3329 := by
  have hs : ∀ m v, 0 ≤ v → v < 3329 → 0 ≤ setF o m v j ∧ setF o m v j < 3329 := fun m v h0 h1 => by
    unfold setF
    split
    · exact ⟨h0, h1⟩
    · exact h j
  unfold pstep
  split <;> exact hs _ _ (by omega) (by omega)
theorem prow_low (a b : Nat → Int) (i : Nat) (o : Nat → Int) (h : ∀ j, 0 ≤ o j ∧ o j < 3329) (k : Nat) : ∀ j, 0 ≤ prow a b i o k j ∧ prow a b i o k j < 3329 := by
  induction k with
  | zero => exact h
  | succ k ih => exact pstep_low _ _ _ _ _ ih
theorem prod_low (a b : Nat → Int) (i : Nat) : ∀ j, 0 ≤ prod a b i j ∧ prod a b i j < 3329 := by
  induction i with
  | zero => intro j; simp [prod]
  | succ i ih => exact prow_low _ _ _ _ ih _
/-- Sums over pairs. -/
def s0 (b : Nat → Int) (z : Int) : Nat → Int
  | 0 => 0
  | k + 1 => s0 b z k + b k * x0 k z
def s1 (b : Nat → Int) (z : Int) : Nat → Int
  | 0 => 0
  | k + 1 => s1 b z k + b k * x1 k z
theorem cg_c (a b : Int) : cg (a % 3329 * (b % 3329) % 3329) (a * b) := (cg.mod _).trans ((cg.mod _).mul (cg.mod _))
theorem pstep_e (a b : Nat → Int) (i : Nat) (o : Nat → Int) (k c : Nat) (hi : i < 256) (hk : k < 256) (hc : c < 128) :
    cg (e0 (pstep a b i o k) (rt c)) (e0 o (rt c) + a i * b k * x0 (i + k) (rt c)) ∧ cg (e1 (pstep a b i o k) (rt c)) (e1 o (rt c) + a i * b k * x1 (i + k) (rt c)) := by
  unfold pstep
  have hcc := cg_c (a i) (b k)
  by_cases h : i + k < 256
  · rw [if_pos h]
    rw [e0_set _ _ _ _ h, e1_set _ _ _ _ h]
    have hd : cg ((o (i + k) + a i % 3329 * (b k % 3329) % 3329) % 3329 - o (i + k)) (a i * b k) := by
      refine ((cg.mod _).sub (cg.refl _)).trans ((cg.of_eq ?_).trans hcc)
      omega
    exact ⟨(cg.refl _).add (hd.mul (cg.refl _)), (cg.refl _).add (hd.mul (cg.refl _))⟩
  · rw [if_neg h]
    rw [e0_set _ _ _ _ (by omega), e1_set _ _ _ _ (by omega)]
    have hd : cg ((o (i + k - 256) + 3329 - a i % 3329 * (b k % 3329) % 3329) % 3329 - o (i + k - 256)) (-(a i * b k)) := by
      refine ((cg.mod _).sub (cg.refl _)).trans (cg.trans ?_ hcc.neg)
      exact ⟨1, by omega⟩
    obtain ⟨h1, h2⟩ := x_wrap c hc (i + k) (by omega)
    refine ⟨(cg.refl _).add ((hd.mul (cg.refl _)).trans ?_), (cg.refl _).add ((hd.mul (cg.refl _)).trans ?_)⟩
    · exact (cg.of_eq (by grind)).trans ((cg.refl (a i * b k)).mul h1.symm)
    · exact (cg.of_eq (by grind)).trans ((cg.refl (a i * b k)).mul h2.symm)
theorem prow_e (a b : Nat → Int) (i : Nat) (o : Nat → Int) (c : Nat) (hi : i < 256) (hc : c < 128) (k : Nat) (hk : k ≤ 256) :
    cg (e0 (prow a b i o k) (rt c)) (e0 o (rt c) + a i * (x0 i (rt c) * s0 b (rt c) k + rt c * (x1 i (rt c) * s1 b (rt c) k)))
    ∧ cg (e1 (prow a b i o k) (rt c)) (e1 o (rt c) + a i * (x0 i (rt c) * s1 b (rt c) k + x1 i (rt c) * s0 b (rt c) k)) := by
  induction k with
  | zero => exact ⟨cg.of_eq (by simp [prow, s0, s1]), cg.of_eq (by simp [prow, s0, s1])⟩
  | succ k ih =>
    obtain ⟨h1, h2⟩ := ih (by omega)
    obtain ⟨g1, g2⟩ := pstep_e a b i (prow a b i o k) k c hi (by omega) hc
    obtain ⟨m1, m2⟩ := x_mul i k (rt c)
    unfold prow s0 s1
    rw [m1] at g1
    rw [m2] at g2
    exact ⟨g1.trans ((h1.add (cg.refl _)).trans (cg.of_eq (by grind))), g2.trans ((h2.add (cg.refl _)).trans (cg.of_eq (by grind)))⟩
theorem prod_e (a b : Nat → Int) (c : Nat) (hc : c < 128) (i : Nat) (hi : i ≤ 256) :
    cg (e0 (prod a b i) (rt c)) (s0 a (rt c) i * s0 b (rt c) 256 + rt c * (s1 a (rt c) i * s1 b (rt c) 256))
    ∧ cg (e1 (prod a b i) (rt c)) (s0 a (rt c) i * s1 b (rt c) 256 + s1 a (rt c) i * s0 b (rt c) 256) := by
  obtain ⟨p, hp⟩ : ∃ p, s0 b (rt c) 256 = p := ⟨_, rfl⟩
  obtain ⟨q, hq⟩ : ∃ q, s1 b (rt c) 256 = q := ⟨_, rfl⟩
  rw [hp, hq]
  induction i with
  | zero =>
    have hz : ∀ n z, ev (fun _ => 0) n z = 0 := fun n z => by
      induction n with
      | zero => rfl
      | succ n ih => rw [ev, ih, Int.mul_zero, Int.add_zero]
    have z0 : e0 (prod a b 0) (rt c) = 0 := hz 128 _
    have z1 : e1 (prod a b 0) (rt c) = 0 := hz 128 _
    rw [z0, z1]
    exact ⟨cg.of_eq (by rw [s0, s1, Int.zero_mul, Int.zero_mul, Int.mul_zero, Int.add_zero]), cg.of_eq (by rw [s0, s1, Int.zero_mul, Int.zero_mul, Int.add_zero])⟩
  | succ i ih =>
    obtain ⟨h1, h2⟩ := ih (by omega)
    obtain ⟨g1, g2⟩ := prow_e a b i (prod a b i) c (by omega) hc 256 (Nat.le_refl _)
    rw [hp, hq] at g1 g2
    clear hp hq ih
    have f0 : prod a b (i + 1) = prow a b i (prod a b i) 256 := rfl
    rw [f0, s0, s1]
    exact ⟨g1.trans ((h1.add (cg.refl _)).trans (cg.of_eq (by grind))), g2.trans ((h2.add (cg.refl _)).trans (cg.of_eq (by grind)))⟩
/-- The sums are the remainders. -/
theorem s_even (f : Nat → Int) (z : Int) (n : Nat) : s0 f z (2 * n) = ev (fun t => f (2 * t)) n z ∧ s1 f z (2 * n) = ev (fun t => f (2 * t + 1)) n z := by
  induction n with
  | zero => exact ⟨rfl, rfl⟩
  | succ n ih =>
    rw [show 2 * (n + 1) = 2 * n + 1 + 1 by omega, ev_snoc, ev_snoc]
    simp only [s0, s1, ih.1, ih.2]
    unfold x0 x1
    rw [if_pos (by omega), if_neg (by omega), if_pos (by omega), if_neg (by omega), show 2 * n / 2 = n by omega, show (2 * n + 1) / 2 = n by omega]
    constructor <;> omega
/-- The transform of the product is the product in the transform. -/
theorem ntt_prod (a b : Nat → Int) (c : Nat) (hc : c < 128) :
    ntt (prod a b 256) (2 * c) = (ntt a (2 * c) * ntt b (2 * c) + rt c * ntt a (2 * c + 1) * ntt b (2 * c + 1)) % 3329
    ∧ ntt (prod a b 256) (2 * c + 1) = (ntt a (2 * c) * ntt b (2 * c + 1) + ntt a (2 * c + 1) * ntt b (2 * c)) % 3329 := by
  obtain ⟨h1, h2⟩ := prod_e a b c hc 256 (Nat.le_refl _)
  obtain ⟨p0, p1⟩ := ntt_at (prod a b 256) c hc
  obtain ⟨a0, a1⟩ := ntt_at a c hc
  obtain ⟨b0, b1⟩ := ntt_at b c hc
  obtain ⟨sa0, sa1⟩ := s_even a (rt c) 128
  obtain ⟨sb0, sb1⟩ := s_even b (rt c) 128
  simp only [Nat.reduceMul] at sa0 sa1 sb0 sb1
  rw [sa0, sa1, sb0, sb1] at h1 h2
  rw [p0, p1, a0, a1, b0, b1]
  constructor
  · refine (h1.trans ?_).eq
    exact (((cg.mod _).symm.mul (cg.mod _).symm).add (((cg.refl (rt c)).mul ((cg.mod _).symm.mul (cg.mod _).symm)).trans (cg.of_eq (by grind))))
  · refine (h2.trans ?_).eq
    exact (((cg.mod _).symm.mul (cg.mod _).symm).add ((cg.mod _).symm.mul (cg.mod _).symm))
/-- The product in the transform. -/
def mulF (a b : Nat → Int) (j : Nat) : Int :=
  if j % 2 = 0 then (a j * b j + rt (j / 2) * a (j + 1) * b (j + 1)) % 3329 else (a (j - 1) * b j + a j * b (j - 1)) % 3329
theorem ntt_prod_at (a b : Nat → Int) (j : Nat) (hj : j < 256) : ntt (prod a b 256) j = mulF (ntt a) (ntt b) j := by
  obtain ⟨h0, h1⟩ := ntt_prod a b (j / 2) (by omega)
  unfold mulF
  split
  · rw [show 2 * (j / 2) = j by omega] at h0
    exact h0
  · rw [show 2 * (j / 2) + 1 = j by omega, show 2 * (j / 2) = j - 1 by omega] at h1
    exact h1
end Go.Proofs.Ytmhhkhbdjkbklaa
