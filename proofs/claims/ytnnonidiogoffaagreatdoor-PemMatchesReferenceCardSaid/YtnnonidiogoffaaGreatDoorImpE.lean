/- Plain facts about decoding base 64 by groups. -/
import Derived.Test.YtnnonidiogoffaaGreatDoorImpD
namespace Go.Proofs.YtnnonidiogoffaaGreatDoor
open Go.RowKit

/-- The digits of the encoding of bytes, without equals signs. -/
def gd (al : Int) (xs : List Int) : List Int := rdigs al xs (8 * xs.length) (nsix xs.length)
theorem gd_len (al : Int) (xs : List Int) : (gd al xs).length = nsix xs.length := rdigs_len _ _ _ _
theorem renc_gd {al : Int} (h : isAl al = true) (xs : List Int) : renc al xs xs.length = gd al xs ++ List.replicate (npad al (nsix xs.length)) 61 := renc_al h xs _
theorem gd_join (al : Int) (xs ys : List Int) (k : Nat) (hx : xs.length = 3 * k) : gd al (xs ++ ys) = gd al xs ++ gd al ys := by
  have hn : nsix (3 * k) = 4 * k := by unfold nsix; omega
  have hs : nsix (3 * k + ys.length) = 4 * k + nsix ys.length := by unfold nsix; omega
  unfold gd
  rw [List.length_append, hx, hs, hn]
  have e1 : (List.range (4 * k)).map (fun j => dig al (six (xs ++ ys) (8 * (3 * k + ys.length)) (6 * j) 6)) = (List.range (4 * k)).map fun j => dig al (six xs (8 * (3 * k)) (6 * j) 6) :=
    List.map_congr_left fun j hj => by rw [six_join_lo xs ys k (8 * (3 * k + ys.length)) j hx (List.mem_range.1 hj) (by omega) (8 * (3 * k)) (by omega)]
  have e2 : (List.range (nsix ys.length)).map (fun j => dig al (six (xs ++ ys) (8 * (3 * k + ys.length)) (6 * (4 * k + j)) 6)) = (List.range (nsix ys.length)).map fun j => dig al (six ys (8 * ys.length) (6 * j) 6) :=
    List.map_congr_left fun j _ => by rw [six_join_hi xs ys k (8 * (3 * k + ys.length)) j hx (by omega) (8 * ys.length) (by omega)]
  unfold rdigs
  rw [List.range_add, List.map_append, List.map_map, e1]
  exact congrArg _ e2
theorem gd_ne {al : Int} (h : isAl al = true) (xs : List Int) : ∀ x ∈ gd al xs, x ≠ 61 := by
  intro x hx
  obtain ⟨j, _, rfl⟩ := List.mem_map.1 hx
  have := six_le xs (8 * xs.length) (6 * j)
  exact (dig_lo h this.1 this.2).2
theorem gd_rng (al : Int) (xs : List Int) : ∀ x ∈ gd al xs, 0 ≤ x ∧ x < 256 := rdigs_rng _ _ _ _

/-- One equals sign taken off the end. -/
def cut1 (l : List Int) : List Int := if l.getLast? = some 61 then l.dropLast else l
theorem cut1_eq (l : List Int) : cut1 (l ++ [61]) = l := by simp [cut1]
theorem cut1_ne {l : List Int} (h : ∀ x ∈ l, x ≠ 61) : cut1 l = l := by
  unfold cut1
  rw [if_neg]
  intro e
  exact h 61 (List.mem_of_getLast? e) rfl
theorem cut1_or (l : List Int) : l = cut1 l ∨ l = cut1 l ++ [61] := by
  unfold cut1
  split
  · rename_i h
    right
    obtain ⟨ys, rfl⟩ := List.getLast?_eq_some_iff.1 h
    simp
  · left; rfl
theorem cut2_of {l : List Int} (h : ∀ x ∈ l, x ≠ 61) (k : Nat) (hk : k ≤ 2) : cut1 (cut1 (l ++ List.replicate k 61)) = l := by
  have : k = 0 ∨ k = 1 ∨ k = 2 := by omega
  rcases this with rfl | rfl | rfl
  · simp only [List.replicate_zero, List.append_nil]
    rw [cut1_ne h, cut1_ne h]
  · show cut1 (cut1 (l ++ [61])) = l
    rw [cut1_eq, cut1_ne h]
  · have e : l ++ List.replicate 2 61 = l ++ [61] ++ [61] := by simp [List.replicate]
    rw [e, cut1_eq, cut1_eq]
theorem cut2_to (l : List Int) : ∃ k, k ≤ 2 ∧ l = cut1 (cut1 l) ++ List.replicate k 61 := by
  rcases cut1_or l with h | h
  · rcases cut1_or (cut1 l) with k | k
    · exact ⟨0, by omega, by rw [List.replicate_zero, List.append_nil, ← k, ← h]⟩
    · refine ⟨1, by omega, ?_⟩
      show l = cut1 (cut1 l) ++ [61]
      rw [← k, ← h]
  · rcases cut1_or (cut1 l) with k | k
    · refine ⟨1, by omega, ?_⟩
      show l = cut1 (cut1 l) ++ [61]
      rw [← k]
      exact h
    · refine ⟨2, by omega, ?_⟩
      have e : cut1 (cut1 l) ++ List.replicate 2 61 = cut1 (cut1 l) ++ [61] ++ [61] := by simp [List.replicate]
      rw [e, ← k]
      exact h

/-- The digits that a string says. -/
def tlist (al : Int) (l : List Int) : List Int := if al = 1 then cut1 (cut1 l) else l
def tgood (al : Int) (l : List Int) : Bool := if al = 1 then decide (l.length % 4 = 0) else true
theorem tlist_len (al : Int) (l : List Int) : (tlist al l).length ≤ l.length := by
  unfold tlist
  split
  · obtain ⟨k, _, h⟩ := cut2_to l
    have := congrArg List.length h
    rw [List.length_append] at this
    omega
  · omega

theorem ints_inj {s t : ByteArray} (h : ints s = ints t) : s = t := by
  have e : s.data.toList = t.data.toList := by
    unfold ints at h
    exact (List.map_inj_right (f := fun b : UInt8 => (b.toNat : Int)) (fun a b hab => by
      have : a.toNat = b.toNat := by exact_mod_cast hab
      exact UInt8.toNat_inj.1 this)).1 h
  have : s.data = t.data := Array.toList_inj.1 e
  cases s
  cases t
  simpa using this

/-- What is decoded, told by digits. -/
theorem rdec_some {al : Int} (h : isAl al = true) {s : ByteArray} {xs : List Int} (hr : ∀ x ∈ xs, 0 ≤ x ∧ x < 256) (hg : tgood al (ints s) = true) (hx : gd al xs = tlist al (ints s)) : rdec al s = some xs := by
  have key : renc al xs xs.length = ints s := by
    rw [renc_gd h, hx]
    have hl : nsix xs.length = (tlist al (ints s)).length := by rw [← hx, gd_len]
    rw [hl]
    unfold tgood at hg
    unfold tlist at hl ⊢
    unfold npad
    by_cases ha : al = 1
    · rw [if_pos ha] at hl hg ⊢
      rw [if_pos ha]
      obtain ⟨k, hk, e⟩ := cut2_to (ints s)
      have hlen := congrArg List.length e
      rw [List.length_append, List.length_replicate] at hlen
      have hg' : (ints s).length % 4 = 0 := by simpa using hg
      have : (4 - (cut1 (cut1 (ints s))).length % 4) % 4 = k := by omega
      rw [this]
      exact e.symm
    · rw [if_neg ha, if_neg ha]
      simp
  have := rdec_renc h xs hr
  rw [key] at this
  rw [show txt (ints s) = s from ints_inj (by rw [ints_txt]; intro x hx'; obtain ⟨b, _, rfl⟩ := List.mem_map.1 hx'; have := b.toNat_lt; omega)] at this
  exact this
theorem rdec_none {al : Int} {s : ByteArray} (h : ∀ xs : List Int, isAl al = true → (∀ x ∈ xs, 0 ≤ x ∧ x < 256) → tgood al (ints s) = true → (tlist al (ints s)).length % 4 ≠ 1 → gd al xs ≠ tlist al (ints s)) : rdec al s = none := by
  cases hd : rdec al s with
  | none => rfl
  | some xs =>
    exfalso
    obtain ⟨ha, he, hr⟩ := renc_of_rdec hd
    have hi : ints s = gd al xs ++ List.replicate (npad al (nsix xs.length)) 61 := by
      rw [← he, ints_txt (renc_rng _ _ _), renc_gd ha]
    have hn4 : nsix xs.length % 4 ≠ 1 := by unfold nsix; omega
    have ht : tlist al (ints s) = gd al xs := by
      rw [hi]
      unfold tlist npad
      by_cases h1 : al = 1
      · rw [if_pos h1, if_pos h1]
        exact cut2_of (gd_ne ha xs) _ (by omega)
      · rw [if_neg h1, if_neg h1]
        simp
    refine h xs ha hr ?_ ?_ ht.symm
    · unfold tgood
      by_cases h1 : al = 1
      · rw [if_pos h1, hi, List.length_append, gd_len, List.length_replicate]
        unfold npad
        rw [if_pos h1]
        simp
        omega
      · rw [if_neg h1]
    · rw [ht, gd_len]
      exact hn4

theorem dig_rval {al d : Int} (h : 0 ≤ rval al d) : dig al (rval al d) = d := by
  unfold rval at h ⊢
  split at h
  · rename_i v hv
    have := List.find?_some hv
    simp only [Bool.and_eq_true, beq_iff_eq] at this
    exact this.2
  · omega

/-- A group of digits: its number, at the top of 32 bits, and what the bytes leave of it. -/
def gnum (al : Int) (t : List Int) : Nat → Int
  | 0 => 0
  | k + 1 => gnum al t k * 64 + rval al (t.getD k 0)
def gtop (X : Int) : Nat → Int
  | 0 => X
  | k + 1 => gtop X k * 256 % 4294967296
def gbytes (X : Int) (m : Nat) : List Int := (List.range m).map fun i => gtop X i / 16777216
theorem gtop_rng {X : Int} (h0 : 0 ≤ X) (h1 : X < 4294967296) (i : Nat) : 0 ≤ gtop X i ∧ gtop X i < 4294967296 := by
  cases i with
  | zero => exact ⟨h0, h1⟩
  | succ i => unfold gtop; omega
theorem gbytes_len (X : Int) (m : Nat) : (gbytes X m).length = m := by simp [gbytes]
theorem gbytes_succ (X : Int) (m : Nat) : gbytes X (m + 1) = gbytes X m ++ [gtop X m / 16777216] := by simp [gbytes, List.range_succ]
theorem gbytes_at (X : Int) (m i : Nat) : (gbytes X m).getD i 0 = if i < m then gtop X i / 16777216 else 0 := by
  rw [List.getD_eq_getElem?_getD]
  split
  · rename_i h
    simp [gbytes, h]
  · rename_i h
    rw [List.getElem?_eq_none (by rw [gbytes_len]; omega)]
    rfl
theorem gbytes_rng {X : Int} (h0 : 0 ≤ X) (h1 : X < 4294967296) (m : Nat) : ∀ x ∈ gbytes X m, 0 ≤ x ∧ x < 256 := by
  intro x hx
  obtain ⟨j, _, rfl⟩ := List.mem_map.1 hx
  have := gtop_rng h0 h1 j
  omega
theorem gnum_rng {al : Int} {t : List Int} (k : Nat) (h : ∀ i, i < k → 0 ≤ rval al (t.getD i 0)) : 0 ≤ gnum al t k ∧ gnum al t k < 64 ^ k := by
  induction k with
  | zero => simp [gnum]
  | succ k ih =>
    have e : (64 : Int) ^ (k + 1) = 64 ^ k * 64 := Int.pow_succ 64 k
    have h1 := ih fun i hi => h i (by omega)
    have h2 := h k (by omega)
    have h3 := (rval_rng al (t.getD k 0)).2
    rw [gnum, e]
    omega

theorem list_ext_getD {a b : List Int} (hl : a.length = b.length) (h : ∀ i, i < a.length → a.getD i 0 = b.getD i 0) : a = b := by
  refine List.ext_getElem hl fun i h1 h2 => ?_
  have := h i h1
  simpa [List.getD, h1, h2] using this
theorem gd_at (al : Int) (xs : List Int) (j : Nat) (h : j < nsix xs.length) : (gd al xs).getD j 0 = dig al (six xs (8 * xs.length) (6 * j) 6) := by
  simp [gd, rdigs, List.getD, h]

section
variable {al : Int} {t : List Int} {m : Nat}
/-- What the group says is a group of bytes. -/
theorem group_yes (ht : t.length = m + 1) (hm0 : 1 ≤ m) (hm3 : m ≤ 3) (hv : ∀ i, i < m + 1 → 0 ≤ rval al (t.getD i 0))
    (X : Int) (hX : X = gnum al t (m + 1) * 2 ^ (32 - 6 * (m + 1))) (h0 : gtop X m = 0) : gd al (gbytes X m) = t := by
  have hn : nsix m = m + 1 := by unfold nsix; omega
  have hv0 := hv 0 (by omega)
  have hv1 := hv 1 (by omega)
  have hu0 := (rval_rng al (t.getD 0 0)).2
  have hu1 := (rval_rng al (t.getD 1 0)).2
  have hu2 := (rval_rng al (t.getD 2 0)).2
  have hu3 := (rval_rng al (t.getD 3 0)).2
  have hXr : 0 ≤ X ∧ X < 4294967296 := by
    have := gnum_rng (m + 1) hv
    have hmm : m = 1 ∨ m = 2 ∨ m = 3 := by omega
    rcases hmm with rfl | rfl | rfl
    · simp only [Nat.reduceAdd, Nat.reduceMul, Nat.reduceSub, Int.reducePow] at hX this
      omega
    · simp only [Nat.reduceAdd, Nat.reduceMul, Nat.reduceSub, Int.reducePow] at hX this
      omega
    · simp only [Nat.reduceAdd, Nat.reduceMul, Nat.reduceSub, Int.reducePow] at hX this
      omega
  have hr := getD_rng (gbytes_rng hXr.1 hXr.2 m)
  have s0 := six_0 (gbytes X m) (8 * m) 0 (by rw [gbytes_len]; omega) hr
  have s1 := six_1 (gbytes X m) (8 * m) 0 (by rw [gbytes_len]; omega) hr
  have s2 := six_2 (gbytes X m) (8 * m) 0 (by rw [gbytes_len]; omega) hr
  have s3 := six_3 (gbytes X m) (8 * m) 0 (by rw [gbytes_len]; omega) hr
  simp only [Nat.mul_zero, Nat.zero_add, Nat.mul_one, gbytes_at] at s0 s1 s2 s3
  have key : ∀ j, j < m + 1 → six (gbytes X m) (8 * m) (6 * j) 6 = rval al (t.getD j 0) := by
    have hmm : m = 1 ∨ m = 2 ∨ m = 3 := by omega
    rcases hmm with rfl | rfl | rfl
    · simp only [gnum, gtop, Nat.reduceAdd, Nat.reduceMul, Nat.reduceSub, Int.reducePow, Nat.lt_irrefl, if_false, Nat.reduceLT, if_true] at hX h0 s0 s1 s2 s3
      intro j hj
      have : j = 0 ∨ j = 1 := by omega
      rcases this with rfl | rfl
      · show six _ _ 0 _ = _
        rw [s0]; omega
      · show six _ _ 6 _ = _
        rw [s1]; omega
    · have hv2 := hv 2 (by omega)
      simp only [gnum, gtop, Nat.reduceAdd, Nat.reduceMul, Nat.reduceSub, Int.reducePow, Nat.lt_irrefl, if_false, Nat.reduceLT, if_true] at hX h0 s0 s1 s2 s3
      intro j hj
      have : j = 0 ∨ j = 1 ∨ j = 2 := by omega
      rcases this with rfl | rfl | rfl
      · show six _ _ 0 _ = _
        rw [s0]; omega
      · show six _ _ 6 _ = _
        rw [s1]; omega
      · show six _ _ (6 * 2) _ = _
        rw [s2]; omega
    · have hv2 := hv 2 (by omega)
      have hv3 := hv 3 (by omega)
      simp only [gnum, gtop, Nat.reduceAdd, Nat.reduceMul, Nat.reduceSub, Int.reducePow, Nat.reduceLT, if_true] at hX h0 s0 s1 s2 s3
      intro j hj
      have : j = 0 ∨ j = 1 ∨ j = 2 ∨ j = 3 := by omega
      rcases this with rfl | rfl | rfl | rfl
      · show six _ _ 0 _ = _
        rw [s0]; omega
      · show six _ _ 6 _ = _
        rw [s1]; omega
      · show six _ _ (6 * 2) _ = _
        rw [s2]; omega
      · show six _ _ (6 * 3) _ = _
        rw [s3]; omega
  refine list_ext_getD (by rw [gd_len, gbytes_len, hn, ht]) fun j hj => ?_
  rw [gd_len, gbytes_len, hn] at hj
  rw [gd_at _ _ _ (by rw [gbytes_len, hn]; exact hj), gbytes_len, key j hj]
  exact dig_rval (hv j hj)
/-- A group of bytes has digits alone, and leaves nothing. -/
theorem group_no (hal : isAl al = true) (p : List Int) (hp : p.length = m) (hm0 : 1 ≤ m) (hm3 : m ≤ 3) (hr : ∀ x ∈ p, 0 ≤ x ∧ x < 256) (h : gd al p = t) :
    (∀ i, i < m + 1 → 0 ≤ rval al (t.getD i 0)) ∧ gtop (gnum al t (m + 1) * 2 ^ (32 - 6 * (m + 1))) m = 0 := by
  have hn : nsix m = m + 1 := by unfold nsix; omega
  subst h
  have hv : ∀ i, i < m + 1 → rval al ((gd al p).getD i 0) = six p (8 * m) (6 * i) 6 := fun i hi => by
    rw [gd_at _ _ _ (by rw [hp, hn]; exact hi), hp]
    have := six_le p (8 * m) (6 * i)
    exact rval_dig hal this.1 this.2
  refine ⟨fun i hi => by rw [hv i hi]; exact (six_le p (8 * m) (6 * i)).1, ?_⟩
  have hg := getD_rng hr
  have s0 := six_0 p (8 * m) 0 (by omega) hg
  have s1 := six_1 p (8 * m) 0 (by omega) hg
  have s2 := six_2 p (8 * m) 0 (by omega) hg
  have s3 := six_3 p (8 * m) 0 (by omega) hg
  simp only [Nat.mul_zero, Nat.zero_add, Nat.mul_one] at s0 s1 s2 s3
  have v0 : rval al ((gd al p).getD 0 0) = six p (8 * m) 0 6 := hv 0 (by omega)
  have v1 : rval al ((gd al p).getD 1 0) = six p (8 * m) 6 6 := hv 1 (by omega)
  have g0 := hg 0
  have g1 := hg 1
  have g2 := hg 2
  have z1 : m ≤ 1 → p.getD 1 0 = 0 := fun h => by rw [List.getD_eq_getElem?_getD, List.getElem?_eq_none (by omega)]; rfl
  have z2 : m ≤ 2 → p.getD 2 0 = 0 := fun h => by rw [List.getD_eq_getElem?_getD, List.getElem?_eq_none (by omega)]; rfl
  have hmm : m = 1 ∨ m = 2 ∨ m = 3 := by omega
  rcases hmm with rfl | rfl | rfl
  · have := z1 (by omega)
    simp only [gnum, gtop, Nat.reduceAdd, Nat.reduceMul, Nat.reduceSub, Int.reducePow]
    rw [v0, v1, s0, s1]
    omega
  · have := z2 (by omega)
    have v2 : rval al ((gd al p).getD 2 0) = six p (8 * 2) (6 * 2) 6 := hv 2 (by omega)
    simp only [gnum, gtop, Nat.reduceAdd, Nat.reduceMul, Nat.reduceSub, Int.reducePow]
    rw [v0, v1, v2, s0, s1, s2]
    omega
  · have v2 : rval al ((gd al p).getD 2 0) = six p (8 * 3) (6 * 2) 6 := hv 2 (by omega)
    have v3 : rval al ((gd al p).getD 3 0) = six p (8 * 3) (6 * 3) 6 := hv 3 (by omega)
    simp only [gnum, gtop, Nat.reduceAdd, Nat.reduceMul, Nat.reduceSub, Int.reducePow]
    rw [v0, v1, v2, v3, s0, s1, s2, s3]
    omega
end

/-- A group in the middle of the digits of bytes is that of some of them. -/
theorem gd_mid {al : Int} {xs : List Int} (q : Nat) (hq : 3 * q < xs.length) : (((gd al xs).drop (4 * q)).take 4) = gd al ((xs.drop (3 * q)).take 3) := by
  have e1 : xs = xs.take (3 * q) ++ xs.drop (3 * q) := (List.take_append_drop _ _).symm
  have l1 : (xs.take (3 * q)).length = 3 * q := by simp; omega
  have h1 : gd al xs = gd al (xs.take (3 * q)) ++ gd al (xs.drop (3 * q)) := by
    conv => lhs; rw [e1]
    exact gd_join al _ _ q l1
  have hl : (gd al (xs.take (3 * q))).length = 4 * q := by rw [gd_len, l1]; unfold nsix; omega
  rw [h1, List.drop_append_of_le_length (by omega), List.drop_of_length_le (by omega), List.nil_append]
  by_cases h3 : 3 < (xs.drop (3 * q)).length
  · have e2 : xs.drop (3 * q) = (xs.drop (3 * q)).take 3 ++ (xs.drop (3 * q)).drop 3 := (List.take_append_drop _ _).symm
    have l2 : ((xs.drop (3 * q)).take 3).length = 3 * 1 := by rw [List.length_take]; omega
    have h2 : gd al (xs.drop (3 * q)) = gd al ((xs.drop (3 * q)).take 3) ++ gd al ((xs.drop (3 * q)).drop 3) := by
      conv => lhs; rw [e2]
      exact gd_join al _ _ 1 l2
    have hl2 : (gd al ((xs.drop (3 * q)).take 3)).length = 4 := by rw [gd_len, l2]; rfl
    rw [h2, List.take_append_of_le_length (by omega), List.take_of_length_le (by omega)]
  · rw [List.take_of_length_le (by rw [gd_len]; unfold nsix; omega), List.take_of_length_le (by omega)]

end Go.Proofs.YtnnonidiogoffaaGreatDoor
