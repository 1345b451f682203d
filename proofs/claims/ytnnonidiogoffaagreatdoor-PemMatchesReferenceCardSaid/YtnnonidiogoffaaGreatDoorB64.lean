/- Plain facts about the encoding in base 64: what is encoded is decoded again. -/
import Derived.Test.YtnnonidiogoffaaGreatDoorRefD
namespace Go.Proofs.YtnnonidiogoffaaGreatDoor
open Go.RowKit

theorem dig_inj {al u v : Int} (ha : isAl al = true) (hu0 : 0 ≤ u) (hu : u ≤ 63) (hv0 : 0 ≤ v) (hv : v ≤ 63) (h : dig al u = dig al v) : u = v := by
  rw [dig_in al u ha hu0 hu, dig_in al v ha hv0 hv] at h
  rcases al_cases ha with rfl | rfl
  all_goals
    repeat' split at h
    all_goals omega
theorem dig_lo {al v : Int} (ha : isAl al = true) (h0 : 0 ≤ v) (h1 : v ≤ 63) : 43 ≤ dig al v ∧ dig al v ≠ 61 := by
  rw [dig_in al v ha h0 h1]
  repeat' split
  all_goals omega
theorem rval_dig {al v : Int} (ha : isAl al = true) (h0 : 0 ≤ v) (h1 : v ≤ 63) : rval al (dig al v) = v := by
  obtain ⟨V, rfl⟩ := Int.eq_ofNat_of_zero_le h0
  refine rval_hit (by omega) (by have := (dig_lo ha h0 h1).1; omega) rfl fun t ht h => ?_
  have := dig_inj ha (by omega) (by omega) h0 h1 h.2
  omega

def bitOr (xs : List Int) (m p : Nat) : Int := if p < m then bitAt xs p else 0
theorem bitOr_rng (xs : List Int) (m p : Nat) : 0 ≤ bitOr xs m p ∧ bitOr xs m p ≤ 1 := by
  unfold bitOr
  split
  · exact bitAt_rng xs p
  · omega
theorem six_bit (xs : List Int) (m p t : Nat) (ht : t < 6) : six xs m p 6 / 2 ^ (5 - t) % 2 = bitOr xs m (p + t) := by
  have e : six xs m p 6 = 2 * (2 * (2 * (2 * (2 * (2 * 0 + bitOr xs m (p + 0)) + bitOr xs m (p + 1)) + bitOr xs m (p + 2)) + bitOr xs m (p + 3)) + bitOr xs m (p + 4)) + bitOr xs m (p + 5) := rfl
  have h0 := bitOr_rng xs m (p + 0)
  have h1 := bitOr_rng xs m (p + 1)
  have h2 := bitOr_rng xs m (p + 2)
  have h3 := bitOr_rng xs m (p + 3)
  have h4 := bitOr_rng xs m (p + 4)
  have h5 := bitOr_rng xs m (p + 5)
  rw [e]
  have : t = 0 ∨ t = 1 ∨ t = 2 ∨ t = 3 ∨ t = 4 ∨ t = 5 := by omega
  rcases this with rfl | rfl | rfl | rfl | rfl | rfl
  all_goals
    simp only [Nat.sub_zero, Nat.reduceSub, Int.reducePow, Int.pow_zero]
    omega

theorem ints_txt {l : List Int} (h : ∀ x ∈ l, 0 ≤ x ∧ x < 256) : ints (txt l) = l := by
  unfold ints txt Lib.bytesOf
  rw [List.map_map]
  conv => rhs; rw [← List.map_id l]
  refine List.map_congr_left fun x hx => ?_
  have := h x hx
  simp only [Function.comp, id]
  rw [UInt8.toNat_ofNat']
  omega

theorem six_le (xs : List Int) (m p : Nat) : 0 ≤ six xs m p 6 ∧ six xs m p 6 ≤ 63 := ⟨(six_rng xs m p 6).1, six_63 xs m p 6 (Nat.le_refl _)⟩

theorem renc_al {al : Int} (ha : isAl al = true) (xs : List Int) (n : Nat) : renc al xs n = rdigs al xs (8 * n) (nsix n) ++ List.replicate (npad al (nsix n)) 61 := by
  unfold renc
  rw [if_neg (by rw [ha]; decide)]
theorem renc_rng (al : Int) (xs : List Int) (n : Nat) : ∀ x ∈ renc al xs n, 0 ≤ x ∧ x < 256 := by
  intro x hx
  cases ha : isAl al with
  | false => unfold renc at hx; rw [if_pos ha] at hx; cases hx
  | true =>
    rw [renc_al ha] at hx
    rcases List.mem_append.1 hx with h | h
    · exact rdigs_rng _ _ _ _ x h
    · rw [List.eq_of_mem_replicate h]; omega
theorem renc_at {al : Int} (ha : isAl al = true) (xs : List Int) (n i : Nat) (h : i < nsix n) : (renc al xs n).getD i 0 = dig al (six xs (8 * n) (6 * i) 6) := by
  rw [renc_al ha, List.getD_eq_getElem?_getD, List.getElem?_append_left (by rw [rdigs_len]; exact h)]
  simp [rdigs, h]

theorem strip_pads (l : List Int) (q : Nat) : ∀ k, (∀ i, q ≤ i → i < q + k → l.getD i 0 = 61) → strip l (q + k) = strip l q := by
  intro k
  induction k with
  | zero => intro _; rfl
  | succ k ih =>
    intro h
    rw [show q + (k + 1) = (q + k) + 1 by omega, strip_yes l (q + k) (h _ (by omega) (by omega))]
    exact ih fun i h1 h2 => h i h1 (by omega)

theorem slen_renc {al : Int} (ha : isAl al = true) (xs : List Int) (n : Nat) : slen al (renc al xs n) = nsix n := by
  have hl : (renc al xs n).length = nsix n + npad al (nsix n) := by rw [renc_al ha]; simp [rdigs_len]
  unfold slen
  split
  · rename_i h1
    rw [hl, strip_pads]
    · cases hq : nsix n with
      | zero => rfl
      | succ q =>
        apply strip_no
        rw [renc_at ha xs n q (by omega)]
        have := six_le xs (8 * n) (6 * q)
        exact (dig_lo ha this.1 this.2).2
    · intro i h1 h2
      rw [renc_al ha, List.getD_eq_getElem?_getD, List.getElem?_append_right (by rw [rdigs_len]; exact h1), rdigs_len, List.getElem?_replicate, if_pos (by omega)]
      rfl
  · rename_i h1
    rw [hl]
    simp [npad, h1]

theorem nout_nsix (n : Nat) : nout (nsix n) = n := by unfold nout nsix; omega

theorem dbit_renc {al : Int} (ha : isAl al = true) (xs : List Int) (n p : Nat) (hp : p < 8 * n) : dbit al (renc al xs n) p = bitAt xs p := by
  have hi : p / 6 < nsix n := by unfold nsix; omega
  have hs := six_le xs (8 * n) (6 * (p / 6))
  unfold dbit
  rw [renc_at ha xs n _ hi, rval_dig ha hs.1 hs.2, six_bit xs (8 * n) (6 * (p / 6)) (p % 6) (by omega), show 6 * (p / 6) + p % 6 = p by omega]
  unfold bitOr
  rw [if_pos hp]

theorem octet_eq {al : Int} {l xs : List Int} {j : Nat} (h : ∀ k, k < 8 → dbit al l (8 * j + k) = bitAt xs (8 * j + k)) (hr : 0 ≤ xs.getD j 0 ∧ xs.getD j 0 < 256) : octet al l (8 * j) 8 = xs.getD j 0 := by
  have e : octet al l (8 * j) 8 = 2 * (2 * (2 * (2 * (2 * (2 * (2 * (2 * 0 + dbit al l (8 * j + 0)) + dbit al l (8 * j + 1)) + dbit al l (8 * j + 2)) + dbit al l (8 * j + 3)) + dbit al l (8 * j + 4)) + dbit al l (8 * j + 5)) + dbit al l (8 * j + 6)) + dbit al l (8 * j + 7) := rfl
  rw [e, h 0 (by omega), h 1 (by omega), h 2 (by omega), h 3 (by omega), h 4 (by omega), h 5 (by omega), h 6 (by omega), h 7 (by omega),
    bitAt_in xs j 0 (by omega), bitAt_in xs j 1 (by omega), bitAt_in xs j 2 (by omega), bitAt_in xs j 3 (by omega), bitAt_in xs j 4 (by omega), bitAt_in xs j 5 (by omega), bitAt_in xs j 6 (by omega), bitAt_in xs j 7 (by omega)]
  generalize xs.getD j 0 = x at hr
  simp only [Nat.sub_zero, Nat.reduceSub, Int.reducePow, Int.pow_zero]
  omega

/-- What is encoded is decoded again. -/
theorem rdec_renc {al : Int} (ha : isAl al = true) (xs : List Int) (hr : ∀ x ∈ xs, 0 ≤ x ∧ x < 256) : rdec al (txt (renc al xs xs.length)) = some xs := by
  have hi : ints (txt (renc al xs xs.length)) = renc al xs xs.length := ints_txt (renc_rng al xs xs.length)
  have ho : routs al (renc al xs xs.length) xs.length = xs := by
    refine List.ext_getElem (by rw [routs_len]) fun j h1 h2 => ?_
    simp only [routs, List.getElem_map, List.getElem_range]
    have hx : xs.getD j 0 = xs[j] := by simp [List.getD, h2]
    rw [octet_eq (fun k hk => dbit_renc ha xs xs.length (8 * j + k) (by omega)) (by rw [hx]; exact hr _ (List.getElem_mem _)), hx]
  unfold rdec
  rw [hi, slen_renc ha, nout_nsix, ho, if_neg]
  rintro (⟨i, h1, h2⟩ | h | h)
  · have hs := six_le xs (8 * xs.length) (6 * i)
    rw [renc_at ha xs _ i h1, rval_dig ha hs.1 hs.2] at h2
    omega
  · rw [ha] at h; cases h
  · exact h rfl
/-- What is decoded has the string as its encoding. -/
theorem renc_of_rdec {al : Int} {s : ByteArray} {xs : List Int} (h : rdec al s = some xs) : isAl al = true ∧ txt (renc al xs xs.length) = s ∧ ∀ x ∈ xs, 0 ≤ x ∧ x < 256 := by
  unfold rdec at h
  split at h
  · cases h
  · rename_i hn
    injection h with h
    subst h
    refine ⟨?_, ?_, routs_rng _ _ _⟩
    · cases ha : isAl al with
      | true => rfl
      | false => exact absurd (.inr (.inl ha)) hn
    · rw [routs_len]
      exact Classical.byContradiction fun hne => hn (.inr (.inr hne))

end Go.Proofs.YtnnonidiogoffaaGreatDoor
