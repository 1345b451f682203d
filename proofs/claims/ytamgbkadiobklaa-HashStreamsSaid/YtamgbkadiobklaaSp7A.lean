/- Plain facts of a sponge: the bytes of a state that is combined with bytes, one block after another. -/
import Derived.Test.YtamgbkadiobklaaRef7D
import Derived.Test.YtamgbkadiobklaaT6
namespace Go.Proofs.Ytamgbkadiobklaa
open Go.RowKit

theorem rperm_ppm (A : Nat → Lane) : ppm A = rperm A := by
  funext i
  show kperm (tr A) (i / 5 + 5 * (i % 5)) = kperm (tr A) (i % 5 * 5 + i / 5)
  rw [show i / 5 + 5 * (i % 5) = i % 5 * 5 + i / 5 by omega]

theorem kbyte_nat (A : Nat → Lane) (j : Nat) : kbyte A j = (((A (j / 8)).toNat / 256 ^ (j % 8) % 256 : Nat) : Int) := by
  unfold kbyte ln
  rw [Int.natCast_emod, Int.natCast_ediv, Int.natCast_pow]
  rfl
theorem byte_xor (L : Lane) (y k m : Nat) (hy : y < 256) (hk : k < 8) (hm : m < 8) :
    (L ^^^ (BitVec.ofNat 64 y <<< (8 * m))).toNat / 256 ^ k % 256 = if k = m then (L.toNat / 256 ^ k % 256) ^^^ y else L.toNat / 256 ^ k % 256 := by
  have e : (256 : Nat) ^ k = 2 ^ (8 * k) := by rw [Nat.pow_mul]
  rw [e, show (256 : Nat) = 2 ^ 8 from rfl]
  have hb : ∀ i, 8 ≤ i → y.testBit i = false := fun i hi => Nat.testBit_lt_two_pow (Nat.lt_of_lt_of_le hy (Nat.pow_le_pow_right (show 0 < 2 by omega) hi))
  have ht : ∀ i, (BitVec.ofNat 64 y <<< (8 * m)).toNat.testBit i = (decide (i < 64) && (decide (8 * m ≤ i) && y.testBit (i - 8 * m))) := fun i => by
    rw [BitVec.toNat_shiftLeft, BitVec.toNat_ofNat, Nat.testBit_mod_two_pow, Nat.mod_eq_of_lt (show y < 2 ^ 64 by omega), Nat.testBit_shiftLeft]
  apply Nat.eq_of_testBit_eq
  intro i
  by_cases hi : i < 8
  · split
    · rename_i h
      subst h
      rw [Nat.testBit_xor, Nat.testBit_mod_two_pow, Nat.testBit_div_two_pow, BitVec.toNat_xor, Nat.testBit_xor, Nat.testBit_mod_two_pow, Nat.testBit_div_two_pow, ht]
      simp [hi, show i + 8 * k < 64 by omega]
    · rename_i h
      rw [Nat.testBit_mod_two_pow, Nat.testBit_div_two_pow, BitVec.toNat_xor, Nat.testBit_xor, Nat.testBit_mod_two_pow, Nat.testBit_div_two_pow, ht]
      rcases Nat.lt_or_ge k m with h1 | h1
      · simp [hi, show ¬ 8 * m ≤ i + 8 * k by omega]
      · simp [hi, hb (i + 8 * k - 8 * m) (by omega)]
  · split
    · rw [Nat.testBit_xor, Nat.testBit_mod_two_pow, Nat.testBit_mod_two_pow, hb i (by omega)]
      simp [hi]
    · rw [Nat.testBit_mod_two_pow, Nat.testBit_mod_two_pow]
      simp [hi]

/-- xor of two bytes. -/
def bx (x y : Int) : Int := bits .xor .u8 x y
theorem bx_nat (x y : Nat) (hx : x < 256) (hy : y < 256) : bx (x : Int) (y : Int) = ((x ^^^ y : Nat) : Int) := u8_xor_nat x y hx hy
theorem nat_of {x : Int} (h : 0 ≤ x ∧ x < 256) : ∃ n : Nat, x = (n : Int) ∧ n < 256 := ⟨x.toNat, by omega, by omega⟩
theorem bx_assoc {x y z : Int} (hx : 0 ≤ x ∧ x < 256) (hy : 0 ≤ y ∧ y < 256) (hz : 0 ≤ z ∧ z < 256) : bx (bx x y) z = bx x (bx y z) := by
  obtain ⟨a, rfl, ha⟩ := nat_of hx
  obtain ⟨b, rfl, hb⟩ := nat_of hy
  obtain ⟨c, rfl, hc⟩ := nat_of hz
  have h1 : a ^^^ b < 256 := Nat.xor_lt_two_pow (n := 8) ha hb
  have h2 : b ^^^ c < 256 := Nat.xor_lt_two_pow (n := 8) hb hc
  rw [bx_nat a b ha hb, bx_nat b c hb hc, bx_nat _ c h1 hc, bx_nat a _ ha h2, Nat.xor_assoc]
theorem bx_rng {x y : Int} (hx : 0 ≤ x ∧ x < 256) (hy : 0 ≤ y ∧ y < 256) : 0 ≤ bx x y ∧ bx x y < 256 := by
  obtain ⟨a, rfl, ha⟩ := nat_of hx
  obtain ⟨b, rfl, hb⟩ := nat_of hy
  have h1 : a ^^^ b < 256 := Nat.xor_lt_two_pow (n := 8) ha hb
  rw [bx_nat a b ha hb]
  omega
theorem bx_zero {x : Int} (hx : 0 ≤ x ∧ x < 256) : bx x 0 = x := by
  obtain ⟨a, rfl, ha⟩ := nat_of hx
  have := bx_nat a 0 ha (by omega)
  rw [Nat.xor_zero] at this
  exact this

/-- A state combined with the first i bytes of a row. -/
def gmix (A : Nat → Lane) (F : Nat → Int) : Nat → Nat → Lane
  | 0 => A
  | i + 1 => fun j => if j = i / 8 then gmix A F i j ^^^ lby (F i) i else gmix A F i j
theorem gmix_at (A : Nat → Lane) (F : Nat → Int) (i j : Nat) : gmix A F (i + 1) j = if j = i / 8 then gmix A F i j ^^^ lby (F i) i else gmix A F i j := rfl
theorem gmix_ext (A : Nat → Lane) {F G : Nat → Int} : ∀ m, (∀ i, i < m → F i = G i) → gmix A F m = gmix A G m
  | 0, _ => rfl
  | m + 1, h => by
    funext j
    rw [gmix_at, gmix_at, gmix_ext A m fun i hi => h i (by omega), h m (by omega)]
theorem gmix_mixN (A : Nat → Lane) (ys : List Int) : ∀ i, mixN A ys i = gmix A (fun k => ys.getD k 0) i
  | 0 => rfl
  | i + 1 => by
    funext j
    rw [mixN_at, gmix_at, gmix_mixN A ys i]
/-- One byte more. -/
theorem kbyte_put (A : Nat → Lane) (F : Nat → Int) (i : Nat) (hF : 0 ≤ F i ∧ F i < 256) : kbyte (gmix A F (i + 1)) = upd (kbyte (gmix A F i)) i (bx (kbyte (gmix A F i) i) (F i)) := by
  funext j
  obtain ⟨y, hy, hy2⟩ := nat_of hF
  have hl : lby (F i) i = BitVec.ofNat 64 y <<< (8 * (i % 8)) := by rw [hy]; rfl
  by_cases e : j = i
  · subst e
    rw [upd_at, kbyte_nat, gmix_at, if_pos rfl, hl, byte_xor _ y _ _ hy2 (Nat.mod_lt _ (by omega)) (Nat.mod_lt _ (by omega)), if_pos rfl, hy, kbyte_nat, bx_nat _ y (Nat.mod_lt _ (by omega)) hy2]
  · rw [upd_ne _ _ e, kbyte_nat, kbyte_nat, gmix_at]
    by_cases h : j / 8 = i / 8
    · rw [if_pos h, hl, byte_xor _ y _ _ hy2 (Nat.mod_lt _ (by omega)) (Nat.mod_lt _ (by omega)), if_neg (by omega)]
    · rw [if_neg h]
/-- The bytes of a state that is combined with m bytes. -/
theorem kbyte_gmix (A : Nat → Lane) (F : Nat → Int) (hF : ∀ i, 0 ≤ F i ∧ F i < 256) : ∀ m j, kbyte (gmix A F m) j = if j < m then bx (kbyte A j) (F j) else kbyte A j
  | 0, j => by rw [if_neg (by omega)]; rfl
  | m + 1, j => by
    rw [kbyte_put A F m (hF m)]
    by_cases e : j = m
    · subst e
      rw [upd_at, kbyte_gmix A F hF j j, if_neg (by omega), if_pos (by omega)]
    · rw [upd_ne _ _ e, kbyte_gmix A F hF m j]
      by_cases h : j < m
      · rw [if_pos h, if_pos (by omega)]
      · rw [if_neg h, if_neg (by omega)]

/-- The state behind k blocks of R bytes. -/
def gabs (F : Nat → Int) (R : Nat) : Nat → Nat → Lane
  | 0 => fun _ => 0
  | k + 1 => rperm (gmix (gabs F R k) (fun i => F (k * R + i)) R)
theorem gabs_succ (F : Nat → Int) (R k : Nat) : gabs F R (k + 1) = rperm (gmix (gabs F R k) (fun i => F (k * R + i)) R) := rfl
theorem gabs_ext {F G : Nat → Int} {R : Nat} : ∀ k, (∀ i, i < k * R → F i = G i) → gabs F R k = gabs G R k
  | 0, _ => rfl
  | k + 1, h => by
    have hk : (k + 1) * R = k * R + R := Nat.succ_mul k R
    rw [gabs_succ, gabs_succ, gabs_ext k fun i hi => h i (by omega), gmix_ext _ R fun i hi => h (k * R + i) (by omega)]
theorem gabs_rabs (p : List Int) (R : Nat) : ∀ k, k * R ≤ p.length → rabs p R k = gabs (fun i => p.getD i 0) R k
  | 0, _ => rfl
  | k + 1, h => by
    have hk : (k + 1) * R = k * R + R := Nat.succ_mul k R
    have hl : ((p.drop (k * R)).take R).length = R := by rw [List.length_take, List.length_drop]; omega
    rw [gabs_succ, ← gabs_rabs p R k (by omega)]
    show rperm (mixF (rabs p R k) ((p.drop (k * R)).take R)) = _
    unfold mixF
    rw [gmix_mixN, hl]
    congr 1
    refine gmix_ext _ R fun i hi => ?_
    rw [List.getD_eq_getElem?_getD, List.getD_eq_getElem?_getD, List.getElem?_take_of_lt hi, List.getElem?_drop]

/-- Behind n bytes: the lanes, and how many bytes of the block are used; and the lanes once there is room for another byte. -/
def AbS (F : Nat → Int) (R n : Nat) : Nat → Lane := gmix (gabs F R ((n - 1) / R)) (fun i => F ((n - 1) / R * R + i)) (n - (n - 1) / R * R)
def AU (R n : Nat) : Nat := n - (n - 1) / R * R
def Opn (F : Nat → Int) (R n : Nat) : Nat → Lane := gmix (gabs F R (n / R)) (fun i => F (n / R * R + i)) (n % R)
theorem mod_of (R n : Nat) : n % R = n - n / R * R := by
  have := Nat.div_add_mod n R
  rw [Nat.mul_comm] at this
  omega
/-- Whether the block is full. -/
theorem AU_full {R n : Nat} (hR : 0 < R) (h : R ≤ AU R n) : AU R n = R ∧ n % R = 0 ∧ n / R = (n - 1) / R + 1 := by
  unfold AU at h ⊢
  have h1 := Nat.div_add_mod (n - 1) R
  have h2 := Nat.mod_lt (n - 1) hR
  rw [Nat.mul_comm] at h1
  have h3 : n = ((n - 1) / R + 1) * R := by rw [Nat.succ_mul]; omega
  generalize (n - 1) / R = q at *
  subst h3
  refine ⟨by rw [Nat.succ_mul]; omega, Nat.mul_mod_left _ _, Nat.mul_div_cancel _ hR⟩
theorem AU_room {R n : Nat} (hR : 0 < R) (h : ¬ R ≤ AU R n) : AU R n = n % R ∧ n / R = (n - 1) / R := by
  unfold AU at h ⊢
  have h1 := Nat.div_add_mod (n - 1) R
  have h2 := Nat.mod_lt (n - 1) hR
  rw [Nat.mul_comm] at h1
  have h4 : n / R = (n - 1) / R := by
    generalize (n - 1) / R = q at *
    rw [Nat.div_eq_iff hR]
    rcases Nat.eq_zero_or_pos n with h0 | h0
    · subst h0
      omega
    · omega
  exact ⟨by rw [mod_of, h4], h4⟩
theorem AU_le (R n : Nat) (hR : 0 < R) : AU R n ≤ R := by
  by_cases h : R ≤ AU R n
  · exact Nat.le_of_eq (AU_full hR h).1
  · omega
theorem AU_succ (R n : Nat) : AU R (n + 1) = n % R + 1 := by
  have h1 := Nat.div_mul_le_self n R
  unfold AU
  rw [mod_of, Nat.add_sub_cancel]
  omega
theorem Abs_full (F : Nat → Int) {R n : Nat} (hR : 0 < R) (h : R ≤ AU R n) : rperm (AbS F R n) = Opn F R n := by
  obtain ⟨h1, h2, h3⟩ := AU_full hR h
  have h1' : n - (n - 1) / R * R = R := h1
  unfold AbS Opn
  rw [h2, h3, h1']
  rfl
theorem Abs_room (F : Nat → Int) {R n : Nat} (hR : 0 < R) (h : ¬ R ≤ AU R n) : AbS F R n = Opn F R n := by
  obtain ⟨h1, h2⟩ := AU_room hR h
  have h1' : n - (n - 1) / R * R = n % R := h1
  unfold AbS Opn
  rw [h2, h1']
theorem Abs_put (F : Nat → Int) (R n : Nat) (hF : 0 ≤ F n ∧ F n < 256) : kbyte (AbS F R (n + 1)) = upd (kbyte (Opn F R n)) (n % R) (bx (kbyte (Opn F R n) (n % R)) (F n)) := by
  have hn : n / R * R + n % R = n := by have := Nat.div_add_mod n R; rw [Nat.mul_comm] at this; exact this
  have h1 : n + 1 - n / R * R = n % R + 1 := by omega
  unfold AbS Opn
  rw [Nat.add_sub_cancel, h1, kbyte_put _ _ _ (by rw [hn]; exact hF), hn]

/-- The last block: what the padding makes of it. -/
theorem plen_eq (L R : Nat) (hR : 0 < R) : plen L R = (L / R + 1) * R := by
  have h1 := Nat.div_add_mod L R
  have h2 := Nat.mod_lt L hR
  rw [Nat.mul_comm] at h1
  rw [Nat.succ_mul]
  unfold plen
  generalize hq : L / R = q at *
  generalize hr : L % R = r at *
  by_cases h : r + 1 = R
  · have e : L + 1 = (q + 1) * R := by rw [Nat.succ_mul]; omega
    rw [e, Nat.mul_mod_left, Nat.sub_zero, Nat.mod_self, Nat.succ_mul]
    omega
  · have e : (L + 1) % R = r + 1 := by
      rw [← h1, Nat.add_assoc, Nat.mul_add_mod_self_right, Nat.mod_eq_of_lt (by omega)]
    rw [e, Nat.mod_eq_of_lt (show R - (r + 1) < R by omega)]
    omega
theorem padF_rng (xs : List Int) (R : Nat) (s : Int) (hx : ∀ x ∈ xs, 0 ≤ x ∧ x < 256) (hs : 0 ≤ s ∧ s < 256) (i : Nat) : 0 ≤ padF xs R s i ∧ padF xs R s i < 256 := by
  have hp := pd_rng xs s hx hs i
  unfold padF
  split
  · exact bx_rng hp (by omega)
  · exact hp
/-- The state that is to be permuted last. -/
def lastS (xs : List Int) (R : Nat) (s : Int) : Nat → Lane := gmix (gabs (padF xs R s) R (xs.length / R)) (fun i => padF xs R s (xs.length / R * R + i)) R
theorem rstate_last (xs : List Int) (R : Nat) (s : Int) (hR : 0 < R) : rstate xs R s = rperm (lastS xs R s) := by
  unfold rstate
  have hp := plen_eq xs.length R hR
  have hl : (padL xs R s).length = plen xs.length R := bl_len _ _
  rw [gabs_rabs _ _ _ (by rw [hl, hp, Nat.mul_div_cancel _ hR]; exact Nat.le_refl _), hp, Nat.mul_div_cancel _ hR]
  rw [gabs_ext (G := padF xs R s) _ fun i hi => by
    unfold padL
    rw [hp]
    exact bl_getD _ _ _ hi]
  rfl
theorem lastS_bytes (xs : List Int) (R : Nat) (s : Int) (hR : 0 < R) (hx : ∀ x ∈ xs, 0 ≤ x ∧ x < 256) (hs : 0 ≤ s ∧ s < 256) :
    upd (kbyte (AbS (pd xs s) R (xs.length + 1))) (R - 1) (bx (kbyte (AbS (pd xs s) R (xs.length + 1)) (R - 1)) 128) = fun j => if j < R then kbyte (lastS xs R s) j else kbyte (AbS (pd xs s) R (xs.length + 1)) j := by
  have hp := plen_eq xs.length R hR
  have hpd := pd_rng xs s hx hs
  have h1 := Nat.div_add_mod xs.length R
  have h2 := Nat.mod_lt xs.length hR
  rw [Nat.mul_comm] at h1
  rw [Nat.succ_mul] at hp
  have hA : gabs (padF xs R s) R (xs.length / R) = gabs (pd xs s) R (xs.length / R) := gabs_ext _ fun i hi => by
    unfold padF
    rw [if_neg (by omega)]
  have hb : ∀ j, kbyte (AbS (pd xs s) R (xs.length + 1)) j = if j < R then bx (kbyte (gabs (pd xs s) R (xs.length / R)) j) (pd xs s (xs.length / R * R + j)) else kbyte (gabs (pd xs s) R (xs.length / R)) j := fun j => by
    unfold AbS
    rw [Nat.add_sub_cancel, kbyte_gmix _ _ fun i => hpd _]
    by_cases c1 : j < xs.length + 1 - xs.length / R * R
    · rw [if_pos c1, if_pos (by omega)]
    · rw [if_neg c1]
      by_cases c2 : j < R
      · rw [if_pos c2]
        have e : pd xs s (xs.length / R * R + j) = 0 := by
          unfold pd
          rw [if_neg (by omega), if_neg (by omega)]
        rw [e, bx_zero (kbyte_rng _ _)]
      · rw [if_neg c2]
  funext j
  by_cases e : j = R - 1
  · subst e
    rw [upd_at, if_pos (by omega), hb, if_pos (by omega)]
    unfold lastS
    rw [kbyte_gmix _ _ fun i => padF_rng xs R s hx hs _, if_pos (by omega), hA, bx_assoc (kbyte_rng _ _) (hpd _) (by omega)]
    unfold padF
    rw [if_pos (by omega)]
    rfl
  · rw [upd_ne _ _ e]
    by_cases c : j < R
    · rw [if_pos c, hb, if_pos c]
      unfold lastS
      rw [kbyte_gmix _ _ fun i => padF_rng xs R s hx hs _, if_pos c, hA]
      unfold padF
      rw [if_neg (by omega)]
    · rw [if_neg c]
/-- In bytes of a state, whole. -/
theorem lastS_all (xs : List Int) (R : Nat) (s : Int) (hR : 0 < R) (hx : ∀ x ∈ xs, 0 ≤ x ∧ x < 256) (hs : 0 ≤ s ∧ s < 256) :
    upd (kbyte (AbS (pd xs s) R (xs.length + 1))) (R - 1) (bx (kbyte (AbS (pd xs s) R (xs.length + 1)) (R - 1)) 128) = kbyte (lastS xs R s) := by
  rw [lastS_bytes xs R s hR hx hs]
  funext j
  by_cases c : j < R
  · rw [if_pos c]
  · rw [if_neg c]
    have h1 := Nat.div_add_mod xs.length R
    have h2 := Nat.mod_lt xs.length hR
    rw [Nat.mul_comm] at h1
    have hp := plen_eq xs.length R hR
    rw [Nat.succ_mul] at hp
    have hA : gabs (padF xs R s) R (xs.length / R) = gabs (pd xs s) R (xs.length / R) := gabs_ext _ fun i hi => by
      unfold padF
      rw [if_neg (by omega)]
    unfold AbS lastS
    rw [Nat.add_sub_cancel, kbyte_gmix _ _ fun i => pd_rng xs s hx hs _, kbyte_gmix _ _ fun i => padF_rng xs R s hx hs _, if_neg (by omega), if_neg c, hA]

/-- The state behind k bytes of the output. -/
theorem rsq_full (A : Nat → Lane) {R k : Nat} (hR : 0 < R) (h : R ≤ AU R k) : rperm (rsq A ((k - 1) / R)) = rsq A (k / R) := by
  rw [(AU_full hR h).2.2]
  rfl
theorem rsq_room (A : Nat → Lane) {R k : Nat} (hR : 0 < R) (h : ¬ R ≤ AU R k) : rsq A ((k - 1) / R) = rsq A (k / R) := by
  rw [(AU_room hR h).2]

end Go.Proofs.Ytamgbkadiobklaa
