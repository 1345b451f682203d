/- Contract of Join of package pyxref01. Plain facts of a sponge: the bytes of a state that is combined with bytes, one block after another. The sponge of package hash in memory: 200 bytes, its rate, how many bytes of the block are used, and how many permutations its output has had. The sponge of package hash: it is permuted where its block is full, absorbs a byte, and yields bytes. The sponge of package hash yields bytes. The sponge of package hash that has absorbed the bytes of all parts. What the program's package hash hands back, in the words of the reference; a list of parts that is told of few or of too many; the fixed results. The program's package hash as a whole: every contract that the laws ask for. -/
import Derived.Test.YtalhdalmafhofaaGreatDoorB5
import Derived.Test.YtalhdalmafhofaaGreatDoorRef7A
import Derived.Test.YtalhdalmafhofaaGreatDoorRef6F
import Derived.Test.YtalhdalmafhofaaGreatDoorImp6B
import Derived.Deep.MidRow
import Derived.Laws.MakeOwn
import Derived.Test.YtalhdalmafhofaaGreatDoorArr
import Derived.Laws.Cover3
namespace Go.Proofs.YtalhdalmafhofaaGreatDoor
set_option maxRecDepth 100000
open Go.RowKit

/-- A slice of n slices of bytes: part i lies at V i, with the capacity C i, and has the bytes X i. -/
structure Sls (w : World) (P : Option Addr) (n c : Nat) (V : Nat → Option Addr) (C : Nat → Nat) (X : Nat → List Int) : Prop where
  cap : n ≤ c
  big : c ≤ maxLen
  nil0 : P = none → c = 0
  cells : 0 < n → ∃ b o, P = some ⟨b, o, none⟩ ∧ ∀ i, i < n → w.cell? ⟨b, o + i, none⟩ = some (.slice (V i) (X i).length (C i)) ∧ Sl w (V i) (X i).length (C i) (X i)

theorem Sls.past {w w' : World} {P : Option Addr} {n c : Nat} {V : Nat → Option Addr} {C : Nat → Nat} {X : Nat → List Int} (h : Sls w P n c V C X) (hp : Past w w') : Sls w' P n c V C X :=
  ⟨h.cap, h.big, h.nil0, fun hn => by
    obtain ⟨b, o, rfl, hc⟩ := h.cells hn
    exact ⟨b, o, rfl, fun i hi => ⟨by rw [Below.cell hp (cell_lt (hc i hi).1)]; exact (hc i hi).1, (hc i hi).2.past hp⟩⟩⟩
theorem Past.ofDrewN (w : World) (m : Nat) : Past w (w.drewN m) := Past.drewN (Below.refl _ w) m

/-- The bytes of the first n parts, in order. -/
def cat (X : Nat → List Int) (n : Nat) : List Int := ((List.range n).map X).flatten
theorem cat_zero (X : Nat → List Int) : cat X 0 = [] := rfl
theorem cat_succ (X : Nat → List Int) (n : Nat) : cat X (n + 1) = cat X n ++ X n := by simp [cat, List.range_succ]
theorem cat_rng (X : Nat → List Int) (n : Nat) (h : ∀ i, i < n → ∀ x ∈ X i, 0 ≤ x ∧ x < 256) : ∀ x ∈ cat X n, 0 ≤ x ∧ x < 256 := by
  intro x hx
  simp only [cat, List.mem_flatten, List.mem_map, List.mem_range] at hx
  obtain ⟨l, ⟨i, hi, rfl⟩, hl⟩ := hx
  exact h i hi x hl
theorem cat_len_mono (X : Nat → List Int) {i n : Nat} (h : i ≤ n) : (cat X i).length ≤ (cat X n).length := by
  induction n with
  | zero => obtain rfl : i = 0 := by omega
            exact Nat.le_refl _
  | succ n ih =>
    rcases Nat.lt_or_ge n i with h1 | h1
    · obtain rfl : i = n + 1 := by omega
      exact Nat.le_refl _
    · rw [cat_succ, List.length_append]
      have := ih h1
      omega
theorem Sls.rng {w : World} {P : Option Addr} {n c : Nat} {V : Nat → Option Addr} {C : Nat → Nat} {X : Nat → List Int} (h : Sls w P n c V C X) : ∀ i, i < n → ∀ x ∈ X i, 0 ≤ x ∧ x < 256 := by
  intro i hi
  obtain ⟨b, o, rfl, hc⟩ := h.cells (by omega)
  exact (hc i hi).2.rng

end Go.Proofs.YtalhdalmafhofaaGreatDoor

namespace Go.Proofs.YtalhdalmafhofaaGreatDoor
open Go.RowKit
set_option maxRecDepth 100000

theorem rperm_ppm (A : Nat → Lane) : ppm A = rperm A := by
  funext i
  show kperm (tr A) (i / 5 + 5 * (i % 5)) = kperm (tr A) (i % 5 * 5 + i / 5)
  rw [show i / 5 + 5 * (i % 5) = i % 5 * 5 + i / 5 by omega]

theorem kbyte_nat (A : Nat → Lane) (j : Nat) : kbyte A j = (((A (j / 8)).toNat / 256 ^ (j % 8) % 256 : Nat) : Int) := by
  unfold kbyte ln
  rw [Int.natCast_emod, Int.natCast_ediv, Int.natCast_pow]
  rfl
theorem byte_xor (L : Lane) (y k m : Nat) (hy : y < 256) (hk : k < 8) (hm : m < 8) :
    (L ^^^ (BitVec.ofNat 64 y <<< (8 * m))).toNat / 256 ^ k % 256 = if k = m then (L.toNat / 256 ^ k % 256) ^^^ y else L.toNat / 256 ^ k % 256 := by
  have e : (256 : Nat) ^ k = 2 ^ (8 * k) := by rw [Nat.pow_mul]
  rw [e, show (256 : Nat) = 2 ^ 8 from rfl]
  have hb : ∀ i, 8 ≤ i → y.testBit i = false := fun i hi => Nat.testBit_lt_two_pow (Nat.lt_of_lt_of_le hy (Nat.pow_le_pow_right (show 0 < 2 by omega) hi))
  have ht : ∀ i, (BitVec.ofNat 64 y <<< (8 * m)).toNat.testBit i = (decide (i < 64) && (decide (8 * m ≤ i) && y.testBit (i - 8 * m))) := fun i => by
    rw [BitVec.toNat_shiftLeft, BitVec.toNat_ofNat, Nat.testBit_mod_two_pow, Nat.mod_eq_of_lt (show y < 2 ^ 64 by omega), Nat.testBit_shiftLeft]
  apply Nat.eq_of_testBit_eq
  intro i
  by_cases hi : i < 8
  · split
    · rename_i h
      subst h
      rw [Nat.testBit_xor, Nat.testBit_mod_two_pow, Nat.testBit_div_two_pow, BitVec.toNat_xor, Nat.testBit_xor, Nat.testBit_mod_two_pow, Nat.testBit_div_two_pow, ht]
      simp [hi, show i + 8 * k < 64 by omega]
    · rename_i h
      rw [Nat.testBit_mod_two_pow, Nat.testBit_div_two_pow, BitVec.toNat_xor, Nat.testBit_xor, Nat.testBit_mod_two_pow, Nat.testBit_div_two_pow, ht]
      rcases Nat.lt_or_ge k m with h1 | h1
      · simp [hi, show ¬ 8 * m ≤ i + 8 * k by omega]
      · simp [hi, hb (i + 8 * k - 8 * m) (by omega)]
  · split
    · rw [Nat.testBit_xor, Nat.testBit_mod_two_pow, Nat.testBit_mod_two_pow, hb i (by omega)]
      simp [hi]
    · rw [Nat.testBit_mod_two_pow, Nat.testBit_mod_two_pow]
      simp [hi]

/-- xor of two bytes. -/
def bx (x y : Int) : Int := bits .xor .u8 x y
theorem bx_nat (x y : Nat) (hx : x < 256) (hy : y < 256) : bx (x : Int) (y : Int) = ((x ^^^ y : Nat) : Int) := u8_xor_nat x y hx hy
theorem nat_of {x : Int} (h : 0 ≤ x ∧ x < 256) : ∃ n : Nat, x = (n : Int) ∧ n < 256 := ⟨x.toNat, by omega, by omega⟩
theorem bx_assoc {x y z : Int} (hx : 0 ≤ x ∧ x < 256) (hy : 0 ≤ y ∧ y < 256) (hz : 0 ≤ z ∧ z < 256) : bx (bx x y) z = bx x (bx y z) := by
  obtain ⟨a, rfl, ha⟩ := nat_of hx
  obtain ⟨b, rfl, hb⟩ := nat_of hy
  obtain ⟨c, rfl, hc⟩ := nat_of hz
  have h1 : a ^^^ b < 256 := Nat.xor_lt_two_pow (n := 8) ha hb
  have h2 : b ^^^ c < 256 := Nat.xor_lt_two_pow (n := 8) hb hc
  rw [bx_nat a b ha hb, bx_nat b c hb hc, bx_nat _ c h1 hc, bx_nat a _ ha h2, Nat.xor_assoc]
theorem bx_rng {x y : Int} (hx : 0 ≤ x ∧ x < 256) (hy : 0 ≤ y ∧ y < 256) : 0 ≤ bx x y ∧ bx x y < 256 := by
  obtain ⟨a, rfl, ha⟩ := nat_of hx
  obtain ⟨b, rfl, hb⟩ := nat_of hy
  have h1 : a ^^^ b < 256 := Nat.xor_lt_two_pow (n := 8) ha hb
  rw [bx_nat a b ha hb]
  omega
theorem bx_zero {x : Int} (hx : 0 ≤ x ∧ x < 256) : bx x 0 = x := by
  obtain ⟨a, rfl, ha⟩ := nat_of hx
  have := bx_nat a 0 ha (by omega)
  rw [Nat.xor_zero] at this
  exact this

/-- A state combined with the first i bytes of a row. -/
def gmix (A : Nat → Lane) (F : Nat → Int) : Nat → Nat → Lane
  | 0 => A
  | i + 1 => fun j => if j = i / 8 then gmix A F i j ^^^ lby (F i) i else gmix A F i j
theorem gmix_at (A : Nat → Lane) (F : Nat → Int) (i j : Nat) : gmix A F (i + 1) j = if j = i / 8 then gmix A F i j ^^^ lby (F i) i else gmix A F i j := rfl
theorem gmix_ext (A : Nat → Lane) {F G : Nat → Int} : ∀ m, (∀ i, i < m → F i = G i) → gmix A F m = gmix A G m
  | 0, _ => rfl
  | m + 1, h => by
    funext j
    rw [gmix_at, gmix_at, gmix_ext A m fun i hi => h i (by omega), h m (by omega)]
theorem gmix_mixN (A : Nat → Lane) (ys : List Int) : ∀ i, mixN A ys i = gmix A (fun k => ys.getD k 0) i
  | 0 => rfl
  | i + 1 => by
    funext j
    rw [mixN_at, gmix_at, gmix_mixN A ys i]
/-- One byte more. -/
theorem kbyte_put (A : Nat → Lane) (F : Nat → Int) (i : Nat) (hF : 0 ≤ F i ∧ F i < 256) : kbyte (gmix A F (i + 1)) = upd (kbyte (gmix A F i)) i (bx (kbyte (gmix A F i) i) (F i)) := by
  funext j
  obtain ⟨y, hy, hy2⟩ := nat_of hF
  have hl : lby (F i) i = BitVec.ofNat 64 y <<< (8 * (i % 8)) := by rw [hy]; rfl
  by_cases e : j = i
  · subst e
    rw [upd_at, kbyte_nat, gmix_at, if_pos rfl, hl, byte_xor _ y _ _ hy2 (Nat.mod_lt _ (by omega)) (Nat.mod_lt _ (by omega)), if_pos rfl, hy, kbyte_nat, bx_nat _ y (Nat.mod_lt _ (by omega)) hy2]
  · rw [upd_ne _ _ e, kbyte_nat, kbyte_nat, gmix_at]
    by_cases h : j / 8 = i / 8
    · rw [if_pos h, hl, byte_xor _ y _ _ hy2 (Nat.mod_lt _ (by omega)) (Nat.mod_lt _ (by omega)), if_neg (by omega)]
    · rw [if_neg h]
/-- The bytes of a state that is combined with m bytes. -/
theorem kbyte_gmix (A : Nat → Lane) (F : Nat → Int) (hF : ∀ i, 0 ≤ F i ∧ F i < 256) : ∀ m j, kbyte (gmix A F m) j = if j < m then bx (kbyte A j) (F j) else kbyte A j
  | 0, j => by rw [if_neg (by omega)]; rfl
  | m + 1, j => by
    rw [kbyte_put A F m (hF m)]
    by_cases e : j = m
    · subst e
      rw [upd_at, kbyte_gmix A F hF j j, if_neg (by omega), if_pos (by omega)]
    · rw [upd_ne _ _ e, kbyte_gmix A F hF m j]
      by_cases h : j < m
      · rw [if_pos h, if_pos (by omega)]
      · rw [if_neg h, if_neg (by omega)]

/-- The state behind k blocks of R bytes. -/
def gabs (F : Nat → Int) (R : Nat) : Nat → Nat → Lane
  | 0 => fun _ => 0
  | k + 1 => rperm (gmix (gabs F R k) (fun i => F (k * R + i)) R)
theorem gabs_succ (F : Nat → Int) (R k : Nat) : gabs F R (k + 1) = rperm (gmix (gabs F R k) (fun i => F (k * R + i)) R) := rfl
theorem gabs_ext {F G : Nat → Int} {R : Nat} : ∀ k, (∀ i, i < k * R → F i = G i) → gabs F R k = gabs G R k
  | 0, _ => rfl
  | k + 1, h => by
    have hk : (k + 1) * R = k * R + R := Nat.succ_mul k R
    rw [gabs_succ, gabs_succ, gabs_ext k fun i hi => h i (by omega), gmix_ext _ R fun i hi => h (k * R + i) (by omega)]
theorem gabs_rabs (p : List Int) (R : Nat) : ∀ k, k * R ≤ p.length → rabs p R k = gabs (fun i => p.getD i 0) R k
  | 0, _ => rfl
  | k + 1, h => by
    have hk : (k + 1) * R = k * R + R := Nat.succ_mul k R
    have hl : ((p.drop (k * R)).take R).length = R := by rw [List.length_take, List.length_drop]; omega
    rw [gabs_succ, ← gabs_rabs p R k (by omega)]
    show rperm (mixF (rabs p R k) ((p.drop (k * R)).take R)) = _
    unfold mixF
    rw [gmix_mixN, hl]
    congr 1
    refine gmix_ext _ R fun i hi => ?_
    rw [List.getD_eq_getElem?_getD, List.getD_eq_getElem?_getD, List.getElem?_take_of_lt hi, List.getElem?_drop]

/-- Behind n bytes: the lanes, and how many bytes of the block are used; and the lanes once there is room for another byte. -/
def AbS (F : Nat → Int) (R n : Nat) : Nat → Lane := gmix (gabs F R ((n - 1) / R)) (fun i => F ((n - 1) / R * R + i)) (n - (n - 1) / R * R)
def AU (R n : Nat) : Nat := n - (n - 1) / R * R
def Opn (F : Nat → Int) (R n : Nat) : Nat → Lane := gmix (gabs F R (n / R)) (fun i => F (n / R * R + i)) (n % R)
theorem mod_of (R n : Nat) : n % R = n - n / R * R := by
  have := Nat.div_add_mod n R
  rw [Nat.mul_comm] at this
  omega
/-- Whether the block is full. -/
theorem AU_full {R n : Nat} (hR : 0 < R) (h : R ≤ AU R n) : AU R n = R ∧ n % R = 0 ∧ n / R = (n - 1) / R + 1 := by
  unfold AU at h ⊢
  have h1 := Nat.div_add_mod (n - 1) R
  have h2 := Nat.mod_lt (n - 1) hR
  rw [Nat.mul_comm] at h1
  have h3 : n = ((n - 1) / R + 1) * R := by rw [Nat.succ_mul]; omega
  generalize (n - 1) / R = q at *
  subst h3
  refine ⟨by rw [Nat.succ_mul]; omega, Nat.mul_mod_left _ _, Nat.mul_div_cancel _ hR⟩
theorem AU_room {R n : Nat} (hR : 0 < R) (h : ¬ R ≤ AU R n) : AU R n = n % R ∧ n / R = (n - 1) / R := by
  unfold AU at h ⊢
  have h1 := Nat.div_add_mod (n - 1) R
  have h2 := Nat.mod_lt (n - 1) hR
  rw [Nat.mul_comm] at h1
  have h4 : n / R = (n - 1) / R := by
    generalize (n - 1) / R = q at *
    rw [Nat.div_eq_iff hR]
    rcases Nat.eq_zero_or_pos n with h0 | h0
    · subst h0
      omega
    · omega
  exact ⟨by rw [mod_of, h4], h4⟩
theorem AU_le (R n : Nat) (hR : 0 < R) : AU R n ≤ R := by
  by_cases h : R ≤ AU R n
  · exact Nat.le_of_eq (AU_full hR h).1
  · omega
theorem AU_succ (R n : Nat) : AU R (n + 1) = n % R + 1 := by
  have h1 := Nat.div_mul_le_self n R
  unfold AU
  rw [mod_of, Nat.add_sub_cancel]
  omega
theorem Abs_full (F : Nat → Int) {R n : Nat} (hR : 0 < R) (h : R ≤ AU R n) : rperm (AbS F R n) = Opn F R n := by
  obtain ⟨h1, h2, h3⟩ := AU_full hR h
  have h1' : n - (n - 1) / R * R = R := h1
  unfold AbS Opn
  rw [h2, h3, h1']
  rfl
theorem Abs_room (F : Nat → Int) {R n : Nat} (hR : 0 < R) (h : ¬ R ≤ AU R n) : AbS F R n = Opn F R n := by
  obtain ⟨h1, h2⟩ := AU_room hR h
  have h1' : n - (n - 1) / R * R = n % R := h1
  unfold AbS Opn
  rw [h2, h1']
theorem Abs_put (F : Nat → Int) (R n : Nat) (hF : 0 ≤ F n ∧ F n < 256) : kbyte (AbS F R (n + 1)) = upd (kbyte (Opn F R n)) (n % R) (bx (kbyte (Opn F R n) (n % R)) (F n)) := by
  have hn : n / R * R + n % R = n := by have := Nat.div_add_mod n R; rw [Nat.mul_comm] at this; exact this
  have h1 : n + 1 - n / R * R = n % R + 1 := by omega
  unfold AbS Opn
  rw [Nat.add_sub_cancel, h1, kbyte_put _ _ _ (by rw [hn]; exact hF), hn]

/-- The last block: what the padding makes of it. -/
theorem plen_eq (L R : Nat) (hR : 0 < R) : plen L R = (L / R + 1) * R := by
  have h1 := Nat.div_add_mod L R
  have h2 := Nat.mod_lt L hR
  rw [Nat.mul_comm] at h1
  rw [Nat.succ_mul]
  unfold plen
  generalize hq : L / R = q at *
  generalize hr : L % R = r at *
  by_cases h : r + 1 = R
  · have e : L + 1 = (q + 1) * R := by rw [Nat.succ_mul]; omega
    rw [e, Nat.mul_mod_left, Nat.sub_zero, Nat.mod_self, Nat.succ_mul]
    omega
  · have e : (L + 1) % R = r + 1 := by
      rw [← h1, Nat.add_assoc, Nat.mul_add_mod_self_right, Nat.mod_eq_of_lt (by omega)]
    rw [e, Nat.mod_eq_of_lt (show R - (r + 1) < R by omega)]
    omega
theorem padF_rng (xs : List Int) (R : Nat) (s : Int) (hx : ∀ x ∈ xs, 0 ≤ x ∧ x < 256) (hs : 0 ≤ s ∧ s < 256) (i : Nat) : 0 ≤ padF xs R s i ∧ padF xs R s i < 256 := by
  have hp := pd_rng xs s hx hs i
  unfold padF
  split
  · exact bx_rng hp (by omega)
  · exact hp
/-- The state that is to be permuted last. -/
def lastS (xs : List Int) (R : Nat) (s : Int) : Nat → Lane := gmix (gabs (padF xs R s) R (xs.length / R)) (fun i => padF xs R s (xs.length / R * R + i)) R
theorem rstate_last (xs : List Int) (R : Nat) (s : Int) (hR : 0 < R) : rstate xs R s = rperm (lastS xs R s) := by
  unfold rstate
  have hp := plen_eq xs.length R hR
  have hl : (padL xs R s).length = plen xs.length R := bl_len _ _
  rw [gabs_rabs _ _ _ (by rw [hl, hp, Nat.mul_div_cancel _ hR]; exact Nat.le_refl _), hp, Nat.mul_div_cancel _ hR]
  rw [gabs_ext (G := padF xs R s) _ fun i hi => by
    unfold padL
    rw [hp]
    exact bl_getD _ _ _ hi]
  rfl
theorem lastS_bytes (xs : List Int) (R : Nat) (s : Int) (hR : 0 < R) (hx : ∀ x ∈ xs, 0 ≤ x ∧ x < 256) (hs : 0 ≤ s ∧ s < 256) :
    upd (kbyte (AbS (pd xs s) R (xs.length + 1))) (R - 1) (bx (kbyte (AbS (pd xs s) R (xs.length + 1)) (R - 1)) 128) = fun j => if j < R then kbyte (lastS xs R s) j else kbyte (AbS (pd xs s) R (xs.length + 1)) j := by
  have hp := plen_eq xs.length R hR
  have hpd := pd_rng xs s hx hs
  have h1 := Nat.div_add_mod xs.length R
  have h2 := Nat.mod_lt xs.length hR
  rw [Nat.mul_comm] at h1
  rw [Nat.succ_mul] at hp
  have hA : gabs (padF xs R s) R (xs.length / R) = gabs (pd xs s) R (xs.length / R) := gabs_ext _ fun i hi => by
    unfold padF
    rw [if_neg (by omega)]
  have hb : ∀ j, kbyte (AbS (pd xs s) R (xs.length + 1)) j = if j < R then bx (kbyte (gabs (pd xs s) R (xs.length / R)) j) (pd xs s (xs.length / R * R + j)) else kbyte (gabs (pd xs s) R (xs.length / R)) j := fun j => by
    unfold AbS
    rw [Nat.add_sub_cancel, kbyte_gmix _ _ fun i => hpd _]
    by_cases c1 : j < xs.length + 1 - xs.length / R * R
    · rw [if_pos c1, if_pos (by omega)]
    · rw [if_neg c1]
      by_cases c2 : j < R
      · rw [if_pos c2]
        have e : pd xs s (xs.length / R * R + j) = 0 := by
          unfold pd
          rw [if_neg (by omega), if_neg (by omega)]
        rw [e, bx_zero (kbyte_rng _ _)]
      · rw [if_neg c2]
  funext j
  by_cases e : j = R - 1
  · subst e
    rw [upd_at, if_pos (by omega), hb, if_pos (by omega)]
    unfold lastS
    rw [kbyte_gmix _ _ fun i => padF_rng xs R s hx hs _, if_pos (by omega), hA, bx_assoc (kbyte_rng _ _) (hpd _) (by omega)]
    unfold padF
    rw [if_pos (by omega)]
    rfl
  · rw [upd_ne _ _ e]
    by_cases c : j < R
    · rw [if_pos c, hb, if_pos c]
      unfold lastS
      rw [kbyte_gmix _ _ fun i => padF_rng xs R s hx hs _, if_pos c, hA]
      unfold padF
      rw [if_neg (by omega)]
    · rw [if_neg c]
/-- In bytes of a state, whole. -/
theorem lastS_all (xs : List Int) (R : Nat) (s : Int) (hR : 0 < R) (hx : ∀ x ∈ xs, 0 ≤ x ∧ x < 256) (hs : 0 ≤ s ∧ s < 256) :
    upd (kbyte (AbS (pd xs s) R (xs.length + 1))) (R - 1) (bx (kbyte (AbS (pd xs s) R (xs.length + 1)) (R - 1)) 128) = kbyte (lastS xs R s) := by
  rw [lastS_bytes xs R s hR hx hs]
  funext j
  by_cases c : j < R
  · rw [if_pos c]
  · rw [if_neg c]
    have h1 := Nat.div_add_mod xs.length R
    have h2 := Nat.mod_lt xs.length hR
    rw [Nat.mul_comm] at h1
    have hp := plen_eq xs.length R hR
    rw [Nat.succ_mul] at hp
    have hA : gabs (padF xs R s) R (xs.length / R) = gabs (pd xs s) R (xs.length / R) := gabs_ext _ fun i hi => by
      unfold padF
      rw [if_neg (by omega)]
    unfold AbS lastS
    rw [Nat.add_sub_cancel, kbyte_gmix _ _ fun i => pd_rng xs s hx hs _, kbyte_gmix _ _ fun i => padF_rng xs R s hx hs _, if_neg (by omega), if_neg c, hA]

/-- The state behind k bytes of the output. -/
theorem rsq_full (A : Nat → Lane) {R k : Nat} (hR : 0 < R) (h : R ≤ AU R k) : rperm (rsq A ((k - 1) / R)) = rsq A (k / R) := by
  rw [(AU_full hR h).2.2]
  rfl
theorem rsq_room (A : Nat → Lane) {R k : Nat} (hR : 0 < R) (h : ¬ R ≤ AU R k) : rsq A ((k - 1) / R) = rsq A (k / R) := by
  rw [(AU_room hR h).2]

end Go.Proofs.YtalhdalmafhofaaGreatDoor

namespace Go.Proofs.YtalhdalmafhofaaGreatDoor
open Go.RowKit
set_option maxRecDepth 100000

/-- The cells of a sponge. -/
def spg (f : Nat → Int) (R U T : Nat) : Array Value := arr .u8 200 f ++ #[.int .i64 (R : Int), .int .i64 (U : Int), .int .i64 (T : Int)]
section
variable (f : Nat → Int) (R U T : Nat)
theorem spg_size : (spg f R U T).size = 203 := by simp [spg, arr_size]
theorem spg_byte (i : Nat) (h : i < 200) : (spg f R U T)[i]? = some (.int .u8 (f i)) := by
  unfold spg
  rw [Array.getElem?_append_left (by rw [arr_size]; exact h), arr_get _ _ _ _ h]
theorem spg_num (i : Nat) : (spg f R U T)[200 + i]? = (#[Value.int .i64 (R : Int), .int .i64 (U : Int), .int .i64 (T : Int)] : Array Value)[i]? := by
  unfold spg
  rw [Array.getElem?_append_right (by rw [arr_size]; omega), arr_size, Nat.add_sub_cancel_left]
theorem spg_rate : (spg f R U T)[200]? = some (.int .i64 (R : Int)) := spg_num f R U T 0
theorem spg_used : (spg f R U T)[201]? = some (.int .i64 (U : Int)) := spg_num f R U T 1
theorem spg_turns : (spg f R U T)[202]? = some (.int .i64 (T : Int)) := spg_num f R U T 2
theorem spg_one : (spg f R U T).all (·.oneCell') = true := by
  unfold spg
  rw [Array.all_append, arr_one]
  simp [Value.oneCell']
theorem spg_of {cs : Array Value} (hs : cs.size = 203) (hb : ∀ i, i < 200 → cs[i]? = some (.int .u8 (f i))) (hr : cs[200]? = some (.int .i64 (R : Int))) (hu : cs[201]? = some (.int .i64 (U : Int))) (ht : cs[202]? = some (.int .i64 (T : Int))) : cs = spg f R U T := by
  refine Array.ext (by rw [spg_size, hs]) fun i h1 h2 => ?_
  have e : cs[i]? = (spg f R U T)[i]? := by
    by_cases h : i < 200
    · rw [hb i h, spg_byte _ _ _ _ i h]
    · by_cases e0 : i = 200
      · subst e0; rw [hr, spg_rate]
      · by_cases e1 : i = 201
        · subst e1; rw [hu, spg_used]
        · obtain rfl : i = 202 := by omega
          rw [ht, spg_turns]
  rw [Array.getElem?_eq_getElem h1, Array.getElem?_eq_getElem h2] at e
  exact Option.some.inj e
theorem spg_set (i : Nat) (v : Int) (h : i < 200) : (spg f R U T).setIfInBounds i (.int .u8 v) = spg (upd f i v) R U T := by
  refine spg_of _ _ _ _ (by simp [spg_size]) (fun j hj => ?_) ?_ ?_ ?_
  · by_cases e : j = i
    · subst e
      rw [Array.getElem?_setIfInBounds_self_of_lt (by rw [spg_size]; omega), upd_at]
    · rw [Array.getElem?_setIfInBounds_ne (by omega), spg_byte _ _ _ _ j hj, upd_ne f v e]
  · rw [Array.getElem?_setIfInBounds_ne (by omega), spg_rate]
  · rw [Array.getElem?_setIfInBounds_ne (by omega), spg_used]
  · rw [Array.getElem?_setIfInBounds_ne (by omega), spg_turns]
theorem spg_setU (V : Nat) : (spg f R U T).setIfInBounds 201 (.int .i64 (V : Int)) = spg f R V T := by
  refine spg_of _ _ _ _ (by simp [spg_size]) (fun j hj => ?_) ?_ ?_ ?_
  · rw [Array.getElem?_setIfInBounds_ne (by omega), spg_byte _ _ _ _ j hj]
  · rw [Array.getElem?_setIfInBounds_ne (by omega), spg_rate]
  · rw [Array.getElem?_setIfInBounds_self_of_lt (by rw [spg_size]; omega)]
  · rw [Array.getElem?_setIfInBounds_ne (by omega), spg_turns]
theorem spg_setT (V : Nat) : (spg f R U T).setIfInBounds 202 (.int .i64 (V : Int)) = spg f R U V := by
  refine spg_of _ _ _ _ (by simp [spg_size]) (fun j hj => ?_) ?_ ?_ ?_
  · rw [Array.getElem?_setIfInBounds_ne (by omega), spg_byte _ _ _ _ j hj]
  · rw [Array.getElem?_setIfInBounds_ne (by omega), spg_rate]
  · rw [Array.getElem?_setIfInBounds_ne (by omega), spg_used]
  · rw [Array.getElem?_setIfInBounds_self_of_lt (by rw [spg_size]; omega)]
end

/-- Block g is a sponge. -/
abbrev SP (w : World) (g : Nat) (t : TypeId) (f : Nat → Int) (R U T : Nat) : Prop := Row w g t (spg f R U T)
section
variable {w w' : World} {g : Nat} {t : TypeId} {f : Nat → Int} {R U T : Nat}
theorem SP.byte (h : SP w g t f R U T) (i : Nat) (hi : i < 200) : w.cell? ⟨g, i, none⟩ = some (.int .u8 (f i)) := by rw [Row.cell h, spg_byte _ _ _ _ i hi]
theorem SP.rate (h : SP w g t f R U T) : w.cell? ⟨g, 200, none⟩ = some (.int .i64 (R : Int)) := by rw [Row.cell h, spg_rate]
theorem SP.used (h : SP w g t f R U T) : w.cell? ⟨g, 201, none⟩ = some (.int .i64 (U : Int)) := by rw [Row.cell h, spg_used]
theorem SP.turns (h : SP w g t f R U T) : w.cell? ⟨g, 202, none⟩ = some (.int .i64 (T : Int)) := by rw [Row.cell h, spg_turns]
theorem SP.put (h : SP w g t f R U T) (i : Nat) (hi : i < 200) (v : Int) : SP (w.setCell ⟨g, i, none⟩ (.int .u8 v)) g t (upd f i v) R U T := by
  have := Row.set h i (.int .u8 v)
  rwa [spg_set _ _ _ _ i v hi] at this
theorem SP.putU (h : SP w g t f R U T) (V : Nat) : SP (w.setCell ⟨g, 201, none⟩ (.int .i64 (V : Int))) g t f R V T := by
  have := Row.set h 201 (.int .i64 (V : Int))
  rwa [spg_setU] at this
theorem SP.putT (h : SP w g t f R U T) (V : Nat) : SP (w.setCell ⟨g, 202, none⟩ (.int .i64 (V : Int))) g t f R U V := by
  have := Row.set h 202 (.int .i64 (V : Int))
  rwa [spg_setT] at this
theorem row_setCells (t : TypeId) : ∀ (vs : List Value) (o : Nat) (w : World) (cs : Array Value), Row w g t cs →
    ∃ cs', Row (w.setCells g o vs) g t cs' ∧ cs'.size = cs.size ∧ (∀ j, j < o → cs'[j]? = cs[j]?) ∧ (∀ j, o + vs.length ≤ j → cs'[j]? = cs[j]?) ∧ ∀ j v, vs[j]? = some v → o + j < cs.size → cs'[o + j]? = some v
  | [], o, w, cs, h => ⟨cs, h, rfl, fun _ _ => rfl, fun _ _ => rfl, fun j v hv => by simp at hv⟩
  | u :: vs, o, w, cs, h => by
    obtain ⟨cs', h1, h2, h3, h4, h5⟩ := row_setCells t vs (o + 1) (w.setCell ⟨g, o, none⟩ u) _ (Row.set h o u)
    have hs : (cs.setIfInBounds o u).size = cs.size := by simp
    refine ⟨cs', h1, by rw [h2, hs], fun j hj => ?_, fun j hj => ?_, fun j v hv hj => ?_⟩
    · rw [h3 j (by omega), Array.getElem?_setIfInBounds_ne (by omega)]
    · rw [List.length_cons] at hj
      rw [h4 j (by omega), Array.getElem?_setIfInBounds_ne (by omega)]
    · cases j with
      | zero =>
        simp only [List.getElem?_cons_zero, Option.some.injEq] at hv
        subst hv
        rw [Nat.add_zero] at hj ⊢
        rw [h3 o (by omega), Array.getElem?_setIfInBounds_self_of_lt hj]
      | succ j =>
        have := h5 j v (by simpa using hv) (by rw [hs]; omega)
        rw [← this]
        congr 1
        omega
theorem SP.putAll (h : SP w g t f R U T) (f' : Nat → Int) (l : List Value) (hl : arr .u8 200 f' = ⟨l⟩) : SP (w.setCells g 0 l) g t f' R U T := by
  obtain ⟨cs', h1, h2, h3, h4, h5⟩ := row_setCells t l 0 w _ h
  have hz := arr_size .u8 200 f'
  have hg := fun i hi => arr_get .u8 200 f' i hi
  rw [hl] at hz hg
  have hll : l.length = 200 := hz
  have e : cs' = spg f' R U T := spg_of _ _ _ _ (by rw [h2, spg_size]) (fun i hi => by
      have := h5 i (.int .u8 (f' i)) (by have := hg i hi; simpa using this) (by rw [spg_size]; omega)
      rwa [Nat.zero_add] at this)
    (by rw [h4 200 (by omega), spg_rate]) (by rw [h4 201 (by omega), spg_used]) (by rw [h4 202 (by omega), spg_turns])
  rwa [e] at h1
theorem SP.range (h : SP w g t f R U T) (l : List Value) (hl : arr .u8 200 f = ⟨l⟩) : w.rangeAt g 0 l := fun j v hj => by
  have hz := arr_size .u8 200 f
  rw [hl] at hz
  have hll : l.length = 200 := hz
  have hjl : j < 200 := by
    rw [← hll]
    exact (List.getElem?_eq_some_iff.1 hj).1
  have hg := arr_get .u8 200 f j hjl
  rw [hl] at hg
  have hg' : l[j]? = some (.int .u8 (f j)) := by simpa using hg
  rw [Nat.zero_add, SP.byte h j hjl, ← hg', hj]
theorem SP.there (h : SP w g t f R U T) : w.there g 0 200 := fun j hj => by
  rw [Nat.zero_add]
  exact ⟨by rw [SP.byte h j hj]; rfl, Row.fr h j⟩
end
theorem only_setCells {a : World} {g : Nat} : ∀ (vs : List Value) (o : Nat) (w : World), a.grownBy w (some g) → a.grownBy (w.setCells g o vs) (some g)
  | [], _, _, h => h
  | u :: vs, o, _, h => only_setCells vs (o + 1) _ (only_setCell h (.inl rfl) u)

/-- What a call does to a sponge. -/
def SPs (w w' : World) (g : Nat) (t : TypeId) (f : Nat → Int) (R U T : Nat) : Prop := SP w' g t f R U T ∧ w.grownBy w' (some g)

set_option maxHeartbeats 2000000 in
theorem hperm_any (S : Nat → Lane) (g : Nat) (t : TypeId) (R U T : Nat) (w : World) (h : SP w g t (kbyte S) R U T) (hT : T ≤ 1000000000) :
    Calls Tryz.prog 46 #[.pointer (some ⟨g, 0, none⟩)] w fun e w' => e = .returned (.tuple #[]) ∧ SPs w w' g t (kbyte (rperm S)) R 0 (T + 1) := by
  have HF := Lib.hid (fun w => pfrom_any S w)
  have HM := Lib.hid (fun w => pperm_any S w)
  have HB := Lib.hid (fun w => pbytes_any (ppm S) w)
  rw [rperm_ppm S] at HM HB
  obtain ⟨l0, hl0⟩ : ∃ l, arr .u8 200 (kbyte S) = ⟨l⟩ := ⟨_, rfl⟩
  obtain ⟨l1, hl1⟩ : ∃ l, arr .u8 200 (kbyte (rperm S)) = ⟨l⟩ := ⟨_, rfl⟩
  have hz1 := arr_size .u8 200 (kbyte (rperm S))
  have ho1 := arr_one .u8 200 (kbyte (rperm S))
  have hz0 := arr_size .u8 200 (kbyte S)
  have HL1 := Lib.hid hl1
  try unfold fl at HF
  try unfold fl at HM
  try unfold fl at HB
  rw [hl1] at HB hz1 ho1
  rw [hl0] at HF hz0
  have hr0 := SP.range h l0 hl0
  have hi0 : (Tryz.prog.info? 67).map (·.size) = some l0.length := by
    rw [show l0.length = 200 from hz0]
    kernel_rfl
  have hi1 : (Tryz.prog.info? 67).map (·.size) = some (⟨l1⟩ : Array Value).size := by
    rw [hz1]
    kernel_rfl
  have H := Lib.hid h
  clear h hl0 hl1
  generalize arr .u64 25 (fun i => ln (S i)) = c0 at *
  generalize arr .u64 25 (fun i => ln (rperm S i)) = c1 at *
  go_enter Tryz.func46, Tryz.ntmps46
  go_wp2_with (refine wpList_load_mid rfl 67 _ rfl g 0 rfl l0 _ hr0 Tryz.underlying67 rfl hi0 ?_)
  refine (HF.out _).mono ?_
  rintro e w1 ⟨rfl, hp1⟩
  have HP1 := Lib.hid hp1
  clear hp1 hr0
  go_wp2_with fail
  refine (HM.out _).mono ?_
  rintro e w2 ⟨rfl, hp2⟩
  have HP2 := Lib.hid (HP1.out.trans' hp2)
  clear hp2 HP1
  go_wp2_with fail
  refine (HB.out _).mono ?_
  rintro e w3 ⟨rfl, hp3⟩
  have H3 : Hid (SPs w w3 g t (kbyte S) R U T) := Lib.hid ⟨Row.past H.out (HP2.out.trans' hp3), only_of_past (HP2.out.trans' hp3) _⟩
  clear hp3 HP2 H HF HM HB
  have ht3 : w3.there g 0 (⟨l1⟩ : Array Value).size := by
    rw [hz1]
    exact SP.there H3.out.1
  have H4 : Hid (SPs w (w3.setCells g 0 l1) g t (kbyte (rperm S)) R U T) := Lib.hid ⟨SP.putAll H3.out.1 _ l1 HL1.out, only_setCells l1 0 _ H3.out.2⟩
  obtain ⟨w4, hw4⟩ : ∃ w4, w3.setCells g 0 l1 = w4 := ⟨_, rfl⟩
  have HW4 := Lib.hid hw4
  rw [hw4] at H4
  clear hw4 H3
  have k1 : w4.cell? ⟨g, 201, none⟩ = some (.int .i64 (U : Int)) := SP.used H4.out.1
  have f1 : w4.frozen? ⟨g, 201, none⟩ = false := Row.fr H4.out.1 201
  have k2 : w4.cell? ⟨g, 202, none⟩ = some (.int .i64 (T : Int)) := SP.turns H4.out.1
  have f2 : w4.frozen? ⟨g, 202, none⟩ = false := Row.fr H4.out.1 202
  have H6 : Hid (SPs w ((w4.setCell ⟨g, 201, none⟩ (.int .i64 0)).setCell ⟨g, 202, none⟩ (.int .i64 ((T : Int) + 1))) g t (kbyte (rperm S)) R 0 (T + 1)) :=
    Lib.hid ⟨SP.putT (SP.putU H4.out.1 0) (T + 1), only_setCell (only_setCell H4.out.2 (.inl rfl) _) (.inl rfl) _⟩
  clear H4
  go_wp2_with (first | (refine wpList_store_mid rfl 67 _ _ rfl g 0 _ rfl rfl ht3 hi1 ho1 ?_; rw [show (⟨l1⟩ : Array Value).toList = l1 from rfl, HW4.out]))
  go_end0
  exact ⟨rfl, H6.out⟩

end Go.Proofs.YtalhdalmafhofaaGreatDoor

namespace Go.Proofs.YtalhdalmafhofaaGreatDoor
open Go.RowKit

set_option maxHeartbeats 1000000 in
theorem hopen_room (S : Nat → Lane) (g : Nat) (t : TypeId) (R U T : Nat) (w : World) (h : SP w g t (kbyte S) R U T) (hU : ¬ R ≤ U) :
    Calls Tryz.prog 47 #[.pointer (some ⟨g, 0, none⟩)] w fun e w' => e = .returned (.tuple #[]) ∧ SPs w w' g t (kbyte S) R U T := by
  have k0 := SP.rate h
  have k1 := SP.used h
  have H := Lib.hid h
  clear h
  have hlt : decide ((R : Int) ≤ (U : Int)) = false := by simp; omega
  have hlt2 : ¬ (R : Int) ≤ (U : Int) := by omega
  go_enter Tryz.func47, Tryz.ntmps47
  go_wp2_with fail
  go_quiet (fail)
  go_wp2_with fail
  go_end0
  exact ⟨rfl, Row.drewN H.out _, only_drewN (World.grownBy.refl _ _) _⟩

set_option maxHeartbeats 1000000 in
theorem hopen_full (S : Nat → Lane) (g : Nat) (t : TypeId) (R U T : Nat) (w : World) (h : SP w g t (kbyte S) R U T) (hU : R ≤ U) (hT : T ≤ 1000000000) :
    Calls Tryz.prog 47 #[.pointer (some ⟨g, 0, none⟩)] w fun e w' => e = .returned (.tuple #[]) ∧ SPs w w' g t (kbyte (rperm S)) R 0 (T + 1) := by
  have k0 := SP.rate h
  have k1 := SP.used h
  have HP := Lib.hid (fun w h => hperm_any S g t R U T w h hT)
  have H := Lib.hid h
  clear h
  have hlt : decide ((R : Int) ≤ (U : Int)) = true := by simp; omega
  have hlt2 : (R : Int) ≤ (U : Int) := by omega
  go_enter Tryz.func47, Tryz.ntmps47
  go_wp2_with fail
  go_quiet (fail)
  go_wp2_with fail
  refine (HP.out _ (Row.drewN H.out _)).mono ?_
  rintro e w1 ⟨rfl, hs, hg⟩
  have HG := Lib.hid hs
  have HW : Hid (w.grownBy w1 (some g)) := Lib.hid (only_trans (only_drewN (World.grownBy.refl _ _) _) hg)
  clear hs hg
  go_wp2_with fail
  go_end0
  exact ⟨rfl, HG.out, HW.out⟩

/-- A sponge with room for a byte, once n bytes have gone through it. -/
theorem hopen_abs (F : Nat → Int) (g : Nat) (t : TypeId) (R n T : Nat) (w : World) (hR : 0 < R) (hT : T ≤ 1000000000) (h : SP w g t (kbyte (AbS F R n)) R (AU R n) T) :
    Calls Tryz.prog 47 #[.pointer (some ⟨g, 0, none⟩)] w fun e w' => e = .returned (.tuple #[]) ∧ ∃ T', T' ≤ T + 1 ∧ SPs w w' g t (kbyte (Opn F R n)) R (n % R) T' := by
  by_cases hU : R ≤ AU R n
  · refine (hopen_full _ g t R _ T w h hU hT).mono ?_
    rintro e w1 ⟨rfl, hs⟩
    rw [Abs_full F hR hU, ← (AU_full hR hU).2.1] at hs
    exact ⟨rfl, T + 1, Nat.le_refl _, hs⟩
  · refine (hopen_room _ g t R _ T w h hU).mono ?_
    rintro e w1 ⟨rfl, hs⟩
    rw [Abs_room F hR hU, (AU_room hR hU).1] at hs
    exact ⟨rfl, T, Nat.le_succ _, hs⟩
theorem hopen_out (A : Nat → Lane) (g : Nat) (t : TypeId) (R k : Nat) (w : World) (hR : 0 < R) (hk : k ≤ 1000000000) (h : SP w g t (kbyte (rsq A ((k - 1) / R))) R (AU R k) ((k - 1) / R)) :
    Calls Tryz.prog 47 #[.pointer (some ⟨g, 0, none⟩)] w fun e w' => e = .returned (.tuple #[]) ∧ SPs w w' g t (kbyte (rsq A (k / R))) R (k % R) (k / R) := by
  have hd : (k - 1) / R ≤ 1000000000 := Nat.le_trans (Nat.div_le_self _ _) (by omega)
  by_cases hU : R ≤ AU R k
  · refine (hopen_full _ g t R _ _ w h hU hd).mono ?_
    rintro e w1 ⟨rfl, hs⟩
    rw [rsq_full A hR hU, ← (AU_full hR hU).2.2] at hs
    rw [(AU_full hR hU).2.1]
    exact ⟨rfl, hs⟩
  · refine (hopen_room _ g t R _ _ w h hU).mono ?_
    rintro e w1 ⟨rfl, hs⟩
    rw [rsq_room A hR hU, ← (AU_room hR hU).2, (AU_room hR hU).1] at hs
    exact ⟨rfl, hs⟩

set_option maxHeartbeats 2000000 in
set_option maxRecDepth 100000 in
theorem habsorb_any (F : Nat → Int) (g : Nat) (t : TypeId) (R n T : Nat) (w : World) (hR : 0 < R) (hR2 : R ≤ 200) (hF : 0 ≤ F n ∧ F n < 256) (hT : T ≤ 1000000000) (h : SP w g t (kbyte (AbS F R n)) R (AU R n) T) :
    Calls Tryz.prog 45 #[.pointer (some ⟨g, 0, none⟩), .int .u8 (F n)] w fun e w' => e = .returned (.tuple #[]) ∧ ∃ T', T' ≤ T + 1 ∧ SPs w w' g t (kbyte (AbS F R (n + 1))) R (AU R (n + 1)) T' := by
  have HO := Lib.hid (hopen_abs F g t R n T w hR hT h)
  have HE := Lib.hid (Abs_put F R n hF)
  have HA := Lib.hid (AU_succ R n)
  have hu := Nat.mod_lt n hR
  obtain ⟨u, hue⟩ : ∃ u, n % R = u := ⟨_, rfl⟩
  rw [hue] at HO HE HA hu
  obtain ⟨c, hc⟩ : ∃ c, F n = c := ⟨_, rfl⟩
  rw [hc] at HE ⊢
  obtain ⟨y, hy⟩ : ∃ y, bx (kbyte (Opn F R n) u) c = y := ⟨_, rfl⟩
  rw [hy] at HE
  obtain ⟨x, hx⟩ : ∃ x, kbyte (Opn F R n) u = x := ⟨_, rfl⟩
  rw [hx] at hy
  have hxy : bits .xor .u8 x c = y := hy
  have HX := Lib.hid hx
  clear h hue hc hy hF hx
  have hu0 : (u : Int) < 200 := by omega
  have hu1 : u < 200 := by omega
  go_enter Tryz.func45, Tryz.ntmps45
  go_wp2_with fail
  refine HO.out.mono ?_
  rintro e w1 ⟨rfl, T', hT', hs, hg⟩
  have H1 : Hid (SP w1 g t (kbyte (Opn F R n)) R u T' ∧ w.grownBy w1 (some g)) := Lib.hid ⟨hs, hg⟩
  have HT := Lib.hid hT'
  clear hs hg hT' HO
  have k0 : w1.drew.cell? ⟨g, 201, none⟩ = some (.int .i64 (u : Int)) := SP.used H1.out.1
  have k1 : w1.drew.cell? ⟨g, u, none⟩ = some (.int .u8 x) := by
    have := SP.byte H1.out.1 u hu1
    rwa [HX.out] at this
  have f1 : w1.drew.frozen? ⟨g, u, none⟩ = false := Row.fr H1.out.1 u
  have H2 : Hid (SP (w1.setCell ⟨g, u, none⟩ (.int .u8 y)).drew g t (kbyte (AbS F R (n + 1))) R u T' ∧ w.grownBy (w1.setCell ⟨g, u, none⟩ (.int .u8 y)).drew (some g)) := by
    have h2 := SP.put H1.out.1 u hu1 y
    rw [← HE.out] at h2
    exact Lib.hid ⟨Row.drewN h2 1, only_drewN (only_setCell H1.out.2 (.inl rfl) _) 1⟩
  clear H1 HE HX
  go_wp2_with fail
  go_region
  all_goals
    generalize (w1.setCell ⟨g, u, none⟩ (.int .u8 y)).drew = w2 at *
    have k2 : w2.cell? ⟨g, 201, none⟩ = some (.int .i64 (u : Int)) := SP.used H2.out.1
    have f2 : w2.frozen? ⟨g, 201, none⟩ = false := Row.fr H2.out.1 201
    have H3 : Hid (SPs w (w2.setCell ⟨g, 201, none⟩ (.int .i64 ((u : Int) + 1))) g t (kbyte (AbS F R (n + 1))) R (AU R (n + 1)) T') := by
      rw [HA.out]
      exact Lib.hid ⟨SP.putU H2.out.1 (u + 1), only_setCell H2.out.2 (.inl rfl) _⟩
    clear H2 k0 k1 f1
    go_wp2_with fail
    go_end0
    exact ⟨rfl, T', HT.out, H3.out⟩

end Go.Proofs.YtalhdalmafhofaaGreatDoor

namespace Go.Proofs.YtalhdalmafhofaaGreatDoor
open Go.RowKit

theorem make8 (N : Nat) (hN : N ≤ 1000000) (w : World) : (Instr.makeSlice 25 (.int .i64 (N : Int)) (.int .i64 (N : Int))).run Tryz.prog w = .ok (.slice (some ⟨w.heap.size, 0, none⟩) N N) (w.alloc (.cells (arr .u8 N fun _ => 0) 5)) := by
  obtain ⟨i0, hi, hz0, hz1, hz2⟩ := info_parts info8
  have h := run_make (P := Tryz.prog) w 25 5 i0 (.int .u8 0) Tryz.underlying25 hi hz0 .i64 .i64 (N : Int) (N : Int) (by omega) (Int.le_refl _) (by rw [hz2]; omega) (by omega)
  rw [hz1, Nat.mul_one, Int.toNat_natCast] at h
  have e : madeCells (Value.cells (.int .u8 0)) N = arr .u8 N fun _ => 0 := by
    refine arr_of _ (size_madeCells _ _) fun i hi => ?_
    simp [madeCells, hi, Value.cells, Nat.mod_one]
  rw [e] at h
  exact h

/-- The blocks while bytes are read: the sponge, the result. -/
def NB (w wx : World) (g h : Nat) (t : TypeId) (A : Nat → Lane) (R k N i : Nat) : Prop :=
  SP wx g t (kbyte (rsq A ((k + i - 1) / R))) R (AU R (k + i)) ((k + i - 1) / R) ∧ LM .u8 wx h 5 N (fun j => if j < i then rout A R (k + j) else 0) ∧ w.grownBy wx (some g) ∧ g < h

/-- What next does. -/
def Nx (w w' : World) (g : Nat) (t : TypeId) (A : Nat → Lane) (R k N : Nat) (e : Ending) : Prop :=
  ∃ P c, e = .returned (.slice P N c) ∧ w'.ownsRow w.heap.size 5 1 (.slice P N c) N ((bl (fun j => rout A R (k + j)) N).map (Value.int .u8)) ∧ w.grownBy w' (some g) ∧
    SP w' g t (kbyte (rsq A ((k + N - 1) / R))) R (AU R (k + N)) ((k + N - 1) / R)

theorem hnext_neg (A : Nat → Lane) (g : Nat) (t : TypeId) (R k : Nat) (N : Int) (w : World) (hN : N < 0) (h : SP w g t (kbyte (rsq A ((k - 1) / R))) R (AU R k) ((k - 1) / R)) :
    Calls Tryz.prog 31 #[.pointer (some ⟨g, 0, none⟩), .int .i64 N] w fun e w' => Nx w w' g t A R k N.toNat e := by
  have H := Lib.hid h
  clear h
  have h0 : N.toNat = 0 := by omega
  rw [h0]
  go_enter Tryz.func31, Tryz.ntmps31
  go_wp2_with fail
  go_ret
  exact ⟨none, 0, rfl, World.ownsRow_nil _ _ _ _, World.grownBy.refl _ _, H.out⟩

set_option maxHeartbeats 4000000 in
set_option maxRecDepth 100000 in
theorem hnext_pos (A : Nat → Lane) (g : Nat) (t : TypeId) (R k N : Nat) (w : World) (hR : 0 < R) (hR2 : R ≤ 200) (hk : k ≤ 100000000) (hN : N ≤ 1000000) (h : SP w g t (kbyte (rsq A ((k - 1) / R))) R (AU R k) ((k - 1) / R)) :
    Calls Tryz.prog 31 #[.pointer (some ⟨g, 0, none⟩), .int .i64 (N : Int)] w fun e w' => Nx w w' g t A R k N e := by
  have hmk := make8 N hN w
  have hN0 : (N : Int) ≤ 1000000 := by omega
  have H0 : Hid (NB w (w.alloc (.cells (arr .u8 N fun _ => 0) 5)) g w.heap.size t A R k N 0) :=
    Lib.hid ⟨Row.alloc h _, by simpa using Row.new w 5 (arr .u8 N fun _ => 0), only_of_past (past_alloc6 _ _) _, Row.lt h⟩
  clear h
  go_enter Tryz.func31, Tryz.ntmps31
  go_wp2_with fail
  generalize w.alloc (.cells (arr .u8 N fun _ => 0) 5) = w2 at *
  obtain ⟨h, hh⟩ : ∃ h, w.heap.size = h := ⟨_, rfl⟩
  rw [hh] at H0 ⊢
  have HH := Lib.hid hh
  clear hh hmk
  go_loopg [17] N (fun q s17 wx => ∃ i : Nat, i ≤ N ∧ q = N - i ∧ s17 = .int .i64 (i : Int) ∧ Hid (NB w wx g h t A R k N i))
  case atStart => exact ⟨0, Nat.zero_le _, rfl, rfl, H0⟩
  case round =>
    clear H0
    obtain ⟨i, hi, hgk, rfl, HQ⟩ := hrel
    have HGK := Lib.hid hgk
    clear hgk
    by_cases hlt : i < N
    · have hi0 : (i : Int) < (N : Int) := by omega
      have hii : (0 : Int) ≤ (i : Int) := by omega
      have HO := Lib.hid (hopen_out A g t R (k + i) wr hR (by omega) HQ.out.1)
      have hu := Nat.mod_lt (k + i) hR
      obtain ⟨u, hue⟩ : ∃ u, (k + i) % R = u := ⟨_, rfl⟩
      obtain ⟨x, hx⟩ : ∃ x, rout A R (k + i) = x := ⟨_, rfl⟩
      have hx' : kbyte (rsq A ((k + i) / R)) u = x := by rw [← hx, ← hue]; rfl
      have HX := Lib.hid hx'
      have HX2 := Lib.hid hx
      have HU : Hid (AU R (k + (i + 1)) = u + 1) := by
        rw [← hue]
        exact AU_succ R (k + i)
      rw [hue] at HO hu
      clear hue hx hx'
      have hu0 : (u : Int) < 200 := by omega
      have hu1 : u < 200 := by omega
      go_wp2_with fail
      refine HO.out.mono ?_
      rintro e w1 ⟨rfl, hs, hg⟩
      have H1 : Hid (SP w1 g t (kbyte (rsq A ((k + i) / R))) R u ((k + i) / R) ∧ LM .u8 w1 h 5 N (fun j => if j < i then rout A R (k + j) else 0) ∧ w.grownBy w1 (some g) ∧ g < h) := by
        obtain ⟨q1, q2, q3, q4⟩ := HQ.out
        exact Lib.hid ⟨hs, Row.grown q2 hg (by simp; omega), only_trans q3 hg, q4⟩
      clear hs hg HO HQ
      have k0 : w1.drew.cell? ⟨g, 201, none⟩ = some (.int .i64 (u : Int)) := SP.used H1.out.1
      have k1 : w1.drew.cell? ⟨g, u, none⟩ = some (.int .u8 x) := by
        have := SP.byte H1.out.1 u hu1
        rwa [HX.out] at this
      have k2 : w1.drew.cell? ⟨h, i, none⟩ = some (.int .u8 (if i < i then rout A R (k + i) else 0)) := LM.at H1.out.2.1 i hlt
      have f2 : w1.drew.frozen? ⟨h, i, none⟩ = false := Row.fr H1.out.2.1 i
      have H2 : Hid (SP (w1.setCell ⟨h, i, none⟩ (.int .u8 x)).drew g t (kbyte (rsq A ((k + i) / R))) R u ((k + i) / R) ∧ LM .u8 (w1.setCell ⟨h, i, none⟩ (.int .u8 x)).drew h 5 N (fun j => if j < i + 1 then rout A R (k + j) else 0) ∧ w.grownBy (w1.setCell ⟨h, i, none⟩ (.int .u8 x)).drew (some g) ∧ g < h) := by
        obtain ⟨q1, q2, q3, q4⟩ := H1.out
        refine Lib.hid ⟨Row.drewN (Row.setOther q1 (by omega) i _) 1, Row.drewN ((LM.put q2 i hlt x).same fun j _ => ?_) 1, only_drewN (only_setCell q3 (.inr (by rw [HH.out]; exact Nat.le_refl _)) _) 1, q4⟩
        by_cases e : j = i
        · subst e
          rw [upd_at, if_pos (by omega), HX2.out]
        · rw [upd_ne _ _ e]
          by_cases c : j < i
          · rw [if_pos c, if_pos (by omega)]
          · rw [if_neg c, if_neg (by omega)]
      clear H1
      go_wp2_with fail
      go_region
      all_goals
        generalize (w1.setCell ⟨h, i, none⟩ (.int .u8 x)).drew = w3 at *
        have k3 : w3.cell? ⟨g, 201, none⟩ = some (.int .i64 (u : Int)) := SP.used H2.out.1
        have f3 : w3.frozen? ⟨g, 201, none⟩ = false := Row.fr H2.out.1 201
        have H3 : Hid (NB w (w3.setCell ⟨g, 201, none⟩ (.int .i64 ((u : Int) + 1))) g h t A R k N (i + 1)) := by
          obtain ⟨q1, q2, q3, q4⟩ := H2.out
          refine Lib.hid ⟨?_, Row.setOther q2 (by omega) _ _, only_setCell q3 (.inl rfl) _, q4⟩
          rw [HU.out]
          exact SP.putU q1 (u + 1)
        clear H2 k0 k1 k2 f2
        go_wp2_with fail
        go_roundg (N - (i + 1))
        case rel => exact ⟨i + 1, by omega, rfl, by go_num, H3⟩
        case measure => have := HGK.out; omega
    · obtain rfl : i = N := by omega
      go_wp2_with fail
      go_ret
      obtain ⟨q1, q2, q3, q4⟩ := HQ.out
      refine ⟨_, _, rfl, ⟨by simp [bl_len], .inr ⟨h, i, _, rfl, by rw [HH.out]; exact Nat.le_refl _, q2, Nat.le_refl _, by unfold maxLen; omega, by rw [arr_size, Nat.mul_one], ?_⟩⟩, q3, q1⟩
      rw [Nat.mul_one, List.take_of_length_le (by rw [Array.length_toList, arr_size]; exact Nat.le_refl _)]
      unfold arr bl
      rw [List.toList_toArray, List.map_map]
      exact List.map_congr_left fun j hj => by
        have := List.mem_range.1 hj
        simp [this]

theorem hnext_any (A : Nat → Lane) (g : Nat) (t : TypeId) (R k : Nat) (N : Int) (w : World) (hR : 0 < R) (hR2 : R ≤ 200) (hk : k ≤ 100000000) (hN : N ≤ 1000000) (h : SP w g t (kbyte (rsq A ((k - 1) / R))) R (AU R k) ((k - 1) / R)) :
    Calls Tryz.prog 31 #[.pointer (some ⟨g, 0, none⟩), .int .i64 N] w fun e w' => Nx w w' g t A R k N.toNat e := by
  by_cases h0 : N < 0
  · exact hnext_neg A g t R k N w h0 h
  · obtain ⟨M, rfl⟩ : ∃ M : Nat, N = (M : Int) := ⟨N.toNat, by omega⟩
    rw [Int.toNat_natCast]
    exact hnext_pos A g t R k M w hR hR2 hk (by omega) h

end Go.Proofs.YtalhdalmafhofaaGreatDoor

namespace Go.Proofs.YtalhdalmafhofaaGreatDoor
open Go.RowKit

theorem zeroSp (w : World) : (zeroValue 69).run Tryz.prog w = .ok (.agg (spg (fun _ => 0) 0 0 0)) w := by kernel_rfl
theorem spg_setR (f : Nat → Int) (R : Nat) : (spg f 0 0 0).setIfInBounds 200 (.int .i64 (R : Int)) = spg f R 0 0 := by
  refine spg_of _ _ _ _ (by simp [spg_size]) (fun j hj => ?_) ?_ ?_ ?_
  · rw [Array.getElem?_setIfInBounds_ne (by omega), spg_byte _ _ _ _ j hj]
  · rw [Array.getElem?_setIfInBounds_self_of_lt (by rw [spg_size]; omega)]
  · rw [Array.getElem?_setIfInBounds_ne (by omega), spg_used]
  · rw [Array.getElem?_setIfInBounds_ne (by omega), spg_turns]
theorem sp_size (f : Nat → Int) (R U T : Nat) : (Tryz.prog.info? 69).map (·.size) = some (spg f R U T).size := by rw [spg_size]; kernel_rfl

theorem cat_pre (X : Nat → List Int) (i : Nat) : ∀ n, i ≤ n → ∃ ys, cat X n = cat X i ++ ys
  | 0, h => ⟨[], by rw [List.append_nil, show i = 0 by omega]⟩
  | n + 1, h => by
    rcases Nat.lt_or_ge i (n + 1) with h1 | h1
    · obtain ⟨ys, hy⟩ := cat_pre X i n (by omega)
      exact ⟨ys ++ X n, by rw [cat_succ, hy, List.append_assoc]⟩
    · obtain rfl : i = n + 1 := by omega
      exact ⟨[], by simp⟩
theorem cat_getD (X : Nat → List Int) (n j i : Nat) (hj : j < n) (hi : i < (X j).length) : (cat X n).getD ((cat X j).length + i) 0 = (X j).getD i 0 ∧ (cat X j).length + i < (cat X n).length := by
  obtain ⟨ys, hy⟩ := cat_pre X (j + 1) n hj
  rw [hy, cat_succ, List.append_assoc]
  refine ⟨?_, by rw [List.length_append, List.length_append]; omega⟩
  rw [List.getD_eq_getElem?_getD, List.getD_eq_getElem?_getD, List.getElem?_append_right (by omega), Nat.add_sub_cancel_left, List.getElem?_append_left hi]

/-- The blocks while bytes are absorbed: the result, the sponge. -/
def GB (w wx : World) (g : Nat) (F : Nat → Int) (R m T : Nat) : Prop :=
  Past w wx ∧ Row wx g 69 (spg (fun _ => 0) 0 0 0) ∧ SP wx (g + 1) 69 (kbyte (AbS F R m)) R (AU R m) T ∧ T ≤ m
theorem GB.step {w wx wy : World} {g : Nat} {F : Nat → Int} {R m T T' : Nat} (h : GB w wx g F R m T) (hge : w.heap.size ≤ g) (hT : T' ≤ T + 1) (hs : SPs wx wy (g + 1) 69 (kbyte (AbS F R (m + 1))) R (AU R (m + 1)) T') : GB w wy g F R (m + 1) T' := by
  obtain ⟨h1, h2, h3, h4⟩ := h
  exact ⟨past_of_only h1 hs.2 h1.size (by omega), Row.grown h2 hs.2 (by simp), hs.1, by omega⟩

set_option maxHeartbeats 8000000 in
set_option maxRecDepth 100000 in
theorem habsorbed_any (P : Option Addr) (n c : Nat) (V : Nat → Option Addr) (C : Nat → Nat) (X : Nat → List Int) (R : Nat) (s : Int) (w : World) (h : Sls w P n c V C X) (hn : n ≤ 1000000) (hlen : (cat X n).length ≤ 1000000) (hR : 0 < R) (hR2 : R ≤ 200) (hs : 0 ≤ s ∧ s < 256) :
    Calls Tryz.prog 30 #[.int .i64 (R : Int), .int .u8 s, .slice P n c] w fun e w' => e = .returned (.agg (spg (kbyte (rstate (cat X n) R s)) R 0 0)) ∧ Past w w' := by
  have hcp := h.cap
  have H := Lib.hid h
  have hxr := cat_rng X n h.rng
  have HLA := Lib.hid (lastS_all (cat X n) R s hR hxr hs)
  have HRL := Lib.hid (rstate_last (cat X n) R s hR)
  have HPR := Lib.hid (pd_rng (cat X n) s hxr hs)
  have HPX : Hid (∀ j i, j < n → i < (X j).length → pd (cat X n) s ((cat X j).length + i) = (X j).getD i 0 ∧ (cat X j).length + i < 1000000) := Lib.hid fun j i hj hi => by
    obtain ⟨h1, h2⟩ := cat_getD X n j i hj hi
    refine ⟨?_, by omega⟩
    unfold pd
    rw [if_pos h2, h1]
  have HPS : Hid (pd (cat X n) s (cat X n).length = s) := Lib.hid (by unfold pd; rw [if_neg (Nat.lt_irrefl _), if_pos rfl])
  have HLE := Lib.hid hlen
  obtain ⟨F, hF⟩ : ∃ F, pd (cat X n) s = F := ⟨_, rfl⟩
  rw [hF] at HLA HPR HPX HPS
  clear h hxr hF hs hlen
  have hz := zeroSp
  have hb := spg_setR (fun _ => 0) R
  have hc203 := spg_size (fun _ => 0) 0 0 0
  have hR3 : (R : Int) ≤ 200 := by omega
  have hR4 : (0 : Int) < (R : Int) := by omega
  have hiz := sp_size (fun _ => 0) R 0 0
  have hoz := spg_one (fun _ => 0) R 0 0
  have hsz : (spg (fun _ => 0) 0 0 0).size = (spg (fun _ => 0) R 0 0).size := by rw [spg_size, spg_size]
  have H0 : Hid (GB w ((w.alloc (.cells (spg (fun _ => 0) 0 0 0) 69)).alloc (.cells (spg (fun _ => 0) R 0 0) 69)) w.heap.size F R 0 0) := by
    refine Lib.hid ⟨(past_alloc6 _ _).trans' (past_alloc6 _ _), (Row.new w _ _).alloc _, ?_, Nat.le_refl _⟩
    have h1 := Row.new (w.alloc (.cells (spg (fun _ => 0) 0 0 0) 69)) 69 (spg (fun _ => 0) R 0 0)
    have e : kbyte (AbS F R 0) = fun _ => 0 := by
      unfold AbS
      rw [Nat.zero_sub, Nat.zero_div, Nat.zero_mul, Nat.sub_zero]
      funext j
      show kbyte (fun _ => 0) j = 0
      rw [kbyte_nat]
      simp
    have e2 : AU R 0 = 0 := by unfold AU; omega
    rw [e, e2]
    simpa using h1
  have hn1 := heap_alloc_new (w.alloc (.cells (spg (fun _ => 0) 0 0 0) 69)) (.cells (spg (fun _ => 0) 0 0 0) 69)
  obtain ⟨cz, hcz⟩ : ∃ cz, spg (fun _ => 0) 0 0 0 = cz := ⟨_, rfl⟩
  obtain ⟨cr, hcr⟩ : ∃ cr, spg (fun _ => 0) R 0 0 = cr := ⟨_, rfl⟩
  have HCZ := Lib.hid hcz
  rw [hcz] at hz hn1 hsz H0 hb hc203
  rw [hcr] at hb hiz hoz hsz H0
  clear hcz hcr
  go_enter Tryz.func30, Tryz.ntmps30
  go_wp2_with (refine wpList_store_row rfl 69 _ _ rfl (w.heap.size + 1) _ rfl rfl _ _ (by simpa using hn1) hiz hsz hoz ?_)
  have hal : ((w.alloc (.cells cz 69)).alloc (.cells cz 69)).setRow (w.heap.size + 1) cr = (w.alloc (.cells cz 69)).alloc (.cells cr 69) := by
    have := World.setRow_alloc_new (w.alloc (.cells cz 69)) cz cr 69
    simpa using this
  rw [hal]
  generalize (w.alloc (.cells cz 69)).alloc (.cells cr 69) = w2 at *
  obtain ⟨g, hg⟩ : ∃ g, w.heap.size = g := ⟨_, rfl⟩
  have hge : w.heap.size ≤ g := by omega
  rw [hg] at H0 ⊢
  clear hg hal hn1 hz hb hc203 hiz hoz hsz
  go_loopg [16] n (fun q s16 wx => ∃ j T : Nat, j ≤ n ∧ q = n - j ∧ s16 = .int .i64 (j : Int) ∧ Hid (GB w wx g F R (cat X j).length T))
  case atStart => exact ⟨0, 0, Nat.zero_le _, rfl, rfl, H0⟩
  case round =>
    clear H0
    obtain ⟨j, T, hj, hgk, rfl, HQ⟩ := hrel
    have HGK := Lib.hid hgk
    clear hgk
    by_cases hlt : j < n
    · obtain ⟨b, o, rfl, hc⟩ := H.out.cells (by omega)
      have hcell : wr.cell? ⟨b, o + j, none⟩ = some (.slice (V j) (X j).length (C j)) := by
        rw [Below.cell HQ.out.1 (cell_lt (hc j hlt).1)]
        exact (hc j hlt).1
      have HS := Lib.hid (hc j hlt).2
      have hj0 : (0 : Int) ≤ (j : Int) := by omega
      have hj1 : (j : Int) < (n : Int) := by omega
      have HPJ := Lib.hid (fun i hi => HPX.out j i hlt hi)
      have HCS : Hid ((cat X (j + 1)).length = (cat X j).length + (X j).length) := Lib.hid (by rw [cat_succ, List.length_append])
      have HML : Hid (∀ i, i ≤ (X j).length → (cat X j).length + i ≤ 1000000) := Lib.hid fun i hi => by
        have h1 := cat_len_mono X (i := j + 1) (n := n) hlt
        rw [HCS.out] at h1
        have h2 := HLE.out
        omega
      clear hc
      obtain ⟨m, hm⟩ : ∃ m, (X j).length = m := ⟨_, rfl⟩
      obtain ⟨l, hl⟩ : ∃ l, (cat X j).length = l := ⟨_, rfl⟩
      rw [hm] at hcell HS HPJ HCS HML
      rw [hl] at HPJ HQ HCS HML
      generalize V j = Vj at *
      generalize C j = Cj at *
      clear hm hl
      go_wp2_with fail
      go_loopg [22] m (fun q s22 wx => ∃ i T : Nat, i ≤ m ∧ q = m - i ∧ s22 = .int .i64 (i : Int) ∧ Hid (GB w wx g F R (l + i) T))
      case atStart => exact ⟨0, T, Nat.zero_le _, rfl, rfl, HQ⟩
      case round =>
        clear HQ
        obtain ⟨i, T, hi, hgk, rfl, HQ⟩ := hrel
        have HGK2 := Lib.hid hgk
        clear hgk hcell
        by_cases hli : i < m
        · obtain ⟨b2, o2, rfl, hc2⟩ := HS.out.bytes (by omega)
          have hx : wr.cell? ⟨b2, o2 + i, none⟩ = some (.int .u8 (F (l + i))) := by
            rw [Below.cell HQ.out.1 (cell_lt (hc2 i hli)), (HPJ.out i hli).1]
            exact hc2 i hli
          have hi0 : (0 : Int) ≤ (i : Int) := by omega
          have hi1 : (i : Int) < (m : Int) := by omega
          have hi2 : (i : Int) ≤ 1000000 := by have := HML.out i hi; omega
          have HB := Lib.hid (habsorb_any F (g + 1) 69 R (l + i) T wr hR hR2 (HPR.out _) (by have h1 := HQ.out.2.2.2; have h2 := HML.out i hi; omega) HQ.out.2.2.1)
          clear hc2
          go_wp2_with fail
          refine HB.out.mono ?_
          rintro e w3 ⟨rfl, T', hT', hs⟩
          have HQ2 := Lib.hid (HQ.out.step hge hT' hs)
          clear hs hT' HB hx HQ
          go_wp2_with fail
          go_roundg (m - (i + 1))
          case rel => exact ⟨i + 1, T', by omega, rfl, by go_num, HQ2⟩
          case measure => have := HGK2.out; omega
        · obtain rfl : i = m := by omega
          go_wp2_with fail
          go_roundg (n - (j + 1))
          case rel => exact ⟨j + 1, T, by omega, rfl, by go_num, by rw [HCS.out]; exact HQ⟩
          case measure => have := HGK.out; omega
    · obtain rfl : j = n := by omega
      have hF := HPR.out (cat X j).length
      have HB := Lib.hid (habsorb_any F (g + 1) 69 R (cat X j).length T wr hR hR2 hF (by have h1 := HQ.out.2.2.2; have h2 := HLE.out; omega) HQ.out.2.2.1)
      rw [HPS.out] at HB
      clear hF
      go_wp2_with fail
      refine HB.out.mono ?_
      rintro e w3 ⟨rfl, T', hT', hs⟩
      have HQ2 := Lib.hid (HQ.out.step hge hT' hs)
      have HT' : Hid (T' ≤ 1000001) := Lib.hid (by have h1 := HQ.out.2.2.2; have h2 := HLE.out; omega)
      clear hs hT' HB HQ
      have hr1 : R - 1 < 200 := by omega
      obtain ⟨r, hr⟩ : ∃ r, R - 1 = r := ⟨_, rfl⟩
      have hrr : (R : Int) - 1 = (r : Int) := by omega
      have hr2 : (r : Int) < 200 := by omega
      obtain ⟨x, hx⟩ : ∃ x, kbyte (AbS F R ((cat X j).length + 1)) r = x := ⟨_, rfl⟩
      obtain ⟨y, hy⟩ : ∃ y, bx x 128 = y := ⟨_, rfl⟩
      have hxy : bits .xor .u8 x 128 = y := hy
      have HLA2 := HLA.out
      rw [hr, hx, hy] at HLA2
      have HL3 := Lib.hid HLA2
      rw [hr] at hr1
      have k1 : w3.cell? ⟨g + 1, r, none⟩ = some (.int .u8 x) := by
        have := SP.byte HQ2.out.2.2.1 r hr1
        rwa [hx] at this
      have f1 : w3.frozen? ⟨g + 1, r, none⟩ = false := Row.fr HQ2.out.2.2.1 r
      have H4 : Hid (Past w (w3.setCell ⟨g + 1, r, none⟩ (.int .u8 y)) ∧ Row (w3.setCell ⟨g + 1, r, none⟩ (.int .u8 y)) g 69 cz ∧ SP (w3.setCell ⟨g + 1, r, none⟩ (.int .u8 y)) (g + 1) 69 (kbyte (lastS (cat X j) R s)) R (AU R ((cat X j).length + 1)) T') := by
        obtain ⟨q1, q2, q3, q4⟩ := HQ2.out
        rw [HCZ.out] at q2
        have q5 := SP.put q3 r hr1 y
        rw [HL3.out] at q5
        exact Lib.hid ⟨q1.set (by show _ ≤ g + 1; omega) _, Row.setOther q2 (by omega) _ _, q5⟩
      clear HQ2 hx hy HLA2 HL3 HLA HPR HPX HPS
      go_wp2_with fail
      generalize w3.setCell ⟨g + 1, r, none⟩ (.int .u8 y) = w4 at *
      refine (hperm_any _ _ _ _ _ _ w4 H4.out.2.2 (by have := HT'.out; omega)).mono ?_
      rintro e w5 ⟨rfl, hs, hgr⟩
      have H5 : Hid (Past w w5 ∧ Row w5 g 69 cz ∧ SP w5 (g + 1) 69 (kbyte (rstate (cat X j) R s)) R 0 (T' + 1)) := by
        obtain ⟨q1, q2, q3⟩ := H4.out
        rw [HRL.out]
        exact Lib.hid ⟨past_of_only q1 hgr q1.size (by omega), Row.grown q2 hgr (by simp), hs⟩
      clear hs hgr H4 k1 f1
      have k2 : w5.cell? ⟨g + 1, 202, none⟩ = some (.int .i64 ((T' + 1 : Nat) : Int)) := SP.turns H5.out.2.2
      have f2 : w5.frozen? ⟨g + 1, 202, none⟩ = false := Row.fr H5.out.2.2 202
      have H6 : Hid (Past w (w5.setCell ⟨g + 1, 202, none⟩ (.int .i64 0)) ∧ Row (w5.setCell ⟨g + 1, 202, none⟩ (.int .i64 0)) g 69 cz ∧ SP (w5.setCell ⟨g + 1, 202, none⟩ (.int .i64 0)) (g + 1) 69 (kbyte (rstate (cat X j) R s)) R 0 0) := by
        obtain ⟨q1, q2, q3⟩ := H5.out
        exact Lib.hid ⟨q1.set (by show _ ≤ g + 1; omega) _, Row.setOther q2 (by omega) _ _, SP.putT q3 0⟩
      clear H5 HRL
      go_upto_region 15 with (fail)
      generalize w5.setCell ⟨g + 1, 202, none⟩ (.int .i64 0) = w6 at *
      have hr3 := H6.out.2.2
      have hrz := H6.out.2.1
      have HP := Lib.hid H6.out.1
      have hi2 := sp_size (kbyte (rstate (cat X j) R s)) R 0 0
      have ho2 := spg_one (kbyte (rstate (cat X j) R s)) R 0 0
      have hs2 : cz.size = (spg (kbyte (rstate (cat X j) R s)) R 0 0).size := by rw [← HCZ.out, spg_size, spg_size]
      clear H6 k2 f2
      unfold SP at hr3
      generalize hcc : spg (kbyte (rstate (cat X j) R s)) R 0 0 = c2 at *
      have HCC := Lib.hid hcc
      clear hcc
      go_wp2_with (first | (refine wpList_load_row rfl 69 _ rfl (g + 1) rfl _ _ (0, 0) _ hr3 Tryz.underlying69 rfl hi2 ?_) | (refine wpList_store_row rfl 69 _ _ rfl g _ rfl rfl _ _ hrz hi2 hs2 ho2 ?_))
      refine bodyPost_ret (results_cell_row rfl _ _ g _ c2 (0, 0) _ rfl (setRow_heap w6 g cz c2 _ _ hrz) Tryz.underlying69 rfl hi2) rfl ?_
      exact ⟨by rw [HCC.out], below_setRow HP.out hge _⟩

end Go.Proofs.YtalhdalmafhofaaGreatDoor

namespace Go.Proofs.YtalhdalmafhofaaGreatDoor
open Go.RowKit

/-- The hash with n bytes, and a part of an output. -/
def hsh (xs : List Int) (R : Nat) (s : Int) (n : Nat) : Array Value := arr .u8 n (rout (rstate xs R s) R)
def outp (S : Nat → Lane) (R k n : Nat) : List Int := bl (fun j => rout S R (k + j)) n
theorem outp_len (S : Nat → Lane) (R k n : Nat) : (outp S R k n).length = n := bl_len _ _
theorem outp_rng (S : Nat → Lane) (R k n : Nat) : ∀ x ∈ outp S R k n, 0 ≤ x ∧ x < 256 := bl_rng _ _ fun j => rout_rng S R (k + j)

/-- What Next does: the stream lies in block g; the bytes are new memory. -/
def Nexts (g : Nat) (St : World → Nat → Prop) (xs : List Int) (k N : Nat) (w : World) (e : Ending) (w' : World) : Prop :=
  ∃ A c, e = .returned (.slice A N c) ∧ w'.ownsRow w.heap.size 5 1 (.slice A N c) N (xs.map (Value.int .u8)) ∧ w.grownBy w' (some g) ∧ St w' (k + N)
def Outs (xs : List Int) (N : Nat) (w : World) (e : Ending) (w' : World) : Prop := ∃ A c, e = .returned (.slice A N c) ∧ Sl w' A N c xs ∧ Past w w'
def News (St : World → Nat → Prop) (w : World) (e : Ending) (w' : World) : Prop := ∃ g, e = .returned (.pointer (some ⟨g, 0, none⟩)) ∧ w.heap.size ≤ g ∧ St w' g ∧ Past w w'

theorem sls_nil (w : World) : Sls w none 0 0 (fun _ => none) (fun _ => 0) (fun _ => []) := ⟨Nat.le_refl _, Nat.zero_le _, fun _ => rfl, fun h => absurd h (Nat.lt_irrefl 0)⟩
theorem Sls.one (w : World) (e : TypeId) {A : Option Addr} {n c : Nat} {xs : List Int} (h : Sl w A n c xs) : Sls (w.alloc (.cells #[.slice A n c] e)) (some ⟨w.heap.size, 0, none⟩) 1 1 (fun _ => A) (fun _ => c) (fun _ => xs) := by
  refine ⟨Nat.le_refl _, by unfold maxLen; omega, (fun e => by cases e), fun _ => ⟨w.heap.size, 0, rfl, fun i hi => ?_⟩⟩
  obtain rfl : i = 0 := by omega
  refine ⟨?_, ?_⟩
  · rw [(Row.new w e #[.slice A n c]).cell, h.len]
    rfl
  · rw [h.len]
    exact h.past (past_alloc6 _ _)
theorem cat_one (xs : List Int) : cat (fun _ => xs) 1 = xs := by simp [cat, List.range, List.range.loop]

theorem zero32 (w : World) : (zeroValue 61).run Tryz.prog w = .ok (.agg (arr .u8 32 fun _ => 0)) w := by kernel_rfl
theorem zero64 (w : World) : (zeroValue 54).run Tryz.prog w = .ok (.agg (arr .u8 64 fun _ => 0)) w := by kernel_rfl

theorem Sl.lit4 (w : World) (a b c d : Int) (ha : 0 ≤ a ∧ a < 256) (hb : 0 ≤ b ∧ b < 256) (hc : 0 ≤ c ∧ c < 256) (hd : 0 ≤ d ∧ d < 256) : Sl (w.alloc (.cells #[.int .u8 a, .int .u8 b, .int .u8 c, .int .u8 d] 5)) (some ⟨w.heap.size, 0, none⟩) 4 4 [a, b, c, d] :=
  Sl.of_own (World.ownsRow_lit w #[.int .u8 a, .int .u8 b, .int .u8 c, .int .u8 d] 4 (Nat.le_refl _) (by unfold maxLen; omega) rfl) (by
    intro x hx
    simp at hx
    omega)
theorem bl4 (f : Nat → Int) : bl f 4 = [f 0, f 1, f 2, f 3] := rfl

end Go.Proofs.YtalhdalmafhofaaGreatDoor

namespace Go.Proofs.YtalhdalmafhofaaGreatDoor
open Go.RowKit
set_option maxRecDepth 100000

theorem wpList_build_one {P : Program} {ops : Array Oper} {rest : List Oper} {o : Oper} {a : Act} {w : World} {Q : Exit → Act → World → Prop} (hg : o.guard = none) (t : TypeId) (i : Nat) (x : Operand) (ho : o.op = .build t #[(i, x)]) (v : Value) (hx : a.eval x = v) (cs : Array Value)
    (hb : P.built t [(i, v)] = some cs) (h : wpList P ops Q rest (a.put o.dst (.agg cs)) w) : wpList P ops Q (o :: rest) a w := by
  have e : ((#[(i, x)] : Array (Nat × Operand)).map fun (i, x) => (i, a.eval x)).toList = [(i, v)] := by simp [hx]
  exact wpList_build hg t #[(i, x)] ho (by rw [e, hb]; rfl) (by rw [e, hb]; exact h)

theorem first_read (S : Nat → Lane) (R : Nat) : spg (kbyte (rsq S ((0 - 1) / R))) R (AU R 0) ((0 - 1) / R) = spg (kbyte S) R 0 0 := by
  have e : AU R 0 = 0 := by unfold AU; omega
  rw [e, Nat.zero_sub, Nat.zero_div]
  rfl

set_option maxHeartbeats 2000000 in
theorem hSHA256_any (P : Option Addr) (n c : Nat) (V : Nat → Option Addr) (C : Nat → Nat) (X : Nat → List Int) (w : World) (h : Sls w P n c V C X) (hn : n ≤ 1000000) (hlen : (cat X n).length ≤ 1000000) :
    Calls Tryz.prog 26 #[.slice P n c] w fun e w' => e = .returned (.agg (hsh (cat X n) 136 6 32)) ∧ Past w w' := by
  have HB := Lib.hid (fun w h => habsorbed_any P n c V C X 136 6 w h (by omega) (by omega) (by omega) (by omega) (by omega))
  have H := Lib.hid h
  clear h hlen
  have hz := zeroSp
  have hz2 := zero32
  unfold hsh
  generalize rstate (cat X n) 136 6 = S at *
  have HS := Lib.hid (first_read S 136)
  have hi1 := sp_size (kbyte S) 136 0 0
  have ho1 := spg_one (kbyte S) 136 0 0
  have hs1 : (spg (fun _ => 0) 0 0 0).size = (spg (kbyte S) 136 0 0).size := by rw [spg_size, spg_size]
  generalize spg (kbyte S) 136 0 0 = cs at *
  generalize spg (fun _ => 0) 0 0 0 = cz at *
  have hi2 : (Tryz.prog.info? 61).map (·.size) = some (arr .u8 32 (rout S 136)).size := by rw [arr_size]; kernel_rfl
  have hs2 : (arr .u8 32 fun _ => 0).size = (arr .u8 32 (rout S 136)).size := by rw [arr_size, arr_size]
  have ho2 := arr_one .u8 32 (rout S 136)
  have hrr : Row (w.alloc (.cells (arr .u8 32 fun _ => 0) 61)) w.heap.size 61 (arr .u8 32 fun _ => 0) := Row.new _ _ _
  have HR0 := Lib.hid hrr
  clear hrr
  go_enter Tryz.func26, Tryz.ntmps26
  go_wp2_with fail
  have hPa : Past w (w.alloc (.cells (arr .u8 32 fun _ => 0) 61)) := past_alloc6 _ _
  refine (HB.out _ (H.out.past hPa)).mono ?_
  rintro e w1 ⟨rfl, hp⟩
  have H1 : Hid (Past w w1 ∧ Row w1 w.heap.size 61 (arr .u8 32 fun _ => 0)) := Lib.hid ⟨hPa.trans' hp, HR0.out.past hp⟩
  clear hp hPa HR0 HB
  have hn1 := heap_alloc_new w1 (.cells cz 69)
  go_wp2_with (refine wpList_store_row rfl 69 _ _ rfl w1.heap.size _ rfl rfl _ _ hn1 hi1 hs1 ho1 ?_)
  rw [World.setRow_alloc_new]
  have H2 : Hid (Past w (w1.alloc (.cells cs 69)) ∧ Row (w1.alloc (.cells cs 69)) w.heap.size 61 (arr .u8 32 fun _ => 0) ∧ SP (w1.alloc (.cells cs 69)) w1.heap.size 69 (kbyte (rsq S ((0 - 1) / 136))) 136 (AU 136 0) ((0 - 1) / 136)) := by
    refine Lib.hid ⟨H1.out.1.trans' (past_alloc6 _ _), H1.out.2.alloc _, ?_⟩
    unfold SP
    rw [HS.out]
    exact Row.new w1 _ cs
  have hgl := H1.out.2.lt
  have hgs := H1.out.1.size
  clear H1 hn1 HS hz
  generalize w1.alloc (.cells cs 69) = w2 at *
  generalize w1.heap.size = g at *
  refine (hnext_any S g _ 136 0 32 w2 (by omega) (by omega) (by omega) (by omega) H2.out.2.2).mono ?_
  rintro e w3 ⟨A, d, rfl, h1, h2, _⟩
  have e : bl (fun j => rout S 136 (0 + j)) (Int.toNat 32) = bl (rout S 136) 32 := bl_ext fun j _ => by rw [Nat.zero_add]
  rw [e] at h1
  obtain ⟨b, cur, rfl, _, hrow, hcur⟩ := own_row h1 (by decide)
  have hrg : w3.rangeAt b 0 ((bl (rout S 136) 32).map (Value.int .u8)) := fun j v hj => by
    rw [Nat.zero_add, World.ownsRow.cellAt h1 j (by
      have := (List.getElem?_eq_some_iff.1 hj).1
      rw [List.length_map, bl_len] at this
      simpa using this)]
    exact hj
  have hae : ((bl (rout S 136) 32).map (Value.int .u8)).toArray = arr .u8 32 (rout S 136) := by
    unfold bl arr
    rw [List.map_map]
    rfl
  have hil : (Tryz.prog.info? 61).map (·.size) = some ((bl (rout S 136) 32).map (Value.int .u8)).length := by rw [List.length_map, bl_len]; kernel_rfl
  have hrr : Row w3 w.heap.size 61 (arr .u8 32 fun _ => 0) := H2.out.2.1.grown h2 (by simp; omega)
  have HP : Hid (Past w w3) := Lib.hid (past_of_only H2.out.1 h2 H2.out.1.size hgs)
  have har := fun w => run_arrayAt (P := Tryz.prog) w 61 5 32 (some ⟨b, 0, none⟩) 32 d Tryz.underlying61 (Nat.le_refl _)
  clear h1 h2 hrow hcur H2 e
  have HAE := Lib.hid hae
  clear hae
  generalize (bl (rout S 136) 32).map (Value.int .u8) = l at *
  generalize hcc : arr .u8 32 (rout S 136) = c2 at *
  have HCC := Lib.hid hcc
  clear hcc
  generalize arr .u8 32 (fun _ => 0) = c1 at *
  obtain rfl := HAE.out
  go_wp2_with (first | (refine wpList_load_mid rfl 61 _ rfl b 0 rfl l _ hrg Tryz.underlying61 rfl hil ?_) | (refine wpList_store_row rfl 61 _ _ rfl w.heap.size _ rfl rfl _ _ hrr hi2 hs2 ho2 ?_))
  refine bodyPost_ret (results_cell_row rfl _ _ w.heap.size _ _ (0, 0) _ rfl (setRow_heap w3 w.heap.size _ _ _ _ hrr) Tryz.underlying61 rfl hi2) rfl ?_
  exact ⟨by rw [HCC.out], below_setRow HP.out (Nat.le_refl _) _⟩

end Go.Proofs.YtalhdalmafhofaaGreatDoor
