/- Plain facts about the encoding in base 64: its digits by groups of three bytes, its length, and the encoding of two parts. -/
import Derived.Test.YtnnonidiogoffaaGreatDoorB64
namespace Go.Proofs.YtnnonidiogoffaaGreatDoor
open Go.RowKit

theorem bitOr_eq {xs : List Int} (m p : Nat) (h : xs.length * 8 ≤ m) : bitOr xs m p = bitAt xs p := by
  unfold bitOr
  split
  · rfl
  · unfold bitAt
    rw [List.getD_eq_getElem?_getD, List.getElem?_eq_none (by omega)]
    simp
theorem six_sum (xs : List Int) (m p : Nat) (h : xs.length * 8 ≤ m) : six xs m p 6 = 32 * bitAt xs p + 16 * bitAt xs (p + 1) + 8 * bitAt xs (p + 2) + 4 * bitAt xs (p + 3) + 2 * bitAt xs (p + 4) + bitAt xs (p + 5) := by
  have e : six xs m p 6 = 2 * (2 * (2 * (2 * (2 * (2 * 0 + bitOr xs m (p + 0)) + bitOr xs m (p + 1)) + bitOr xs m (p + 2)) + bitOr xs m (p + 3)) + bitOr xs m (p + 4)) + bitOr xs m (p + 5) := rfl
  rw [e, bitOr_eq m _ h, bitOr_eq m _ h, bitOr_eq m _ h, bitOr_eq m _ h, bitOr_eq m _ h, bitOr_eq m _ h, Nat.add_zero]
  omega
theorem bitAt_of (xs : List Int) (p i t : Nat) (hp : p = 8 * i + t) (ht : t < 8) : bitAt xs p = xs.getD i 0 / 2 ^ (7 - t) % 2 := by subst hp; exact bitAt_in xs i t ht

section
variable (xs : List Int) (m q : Nat) (h : xs.length * 8 ≤ m) (hr : ∀ i, 0 ≤ xs.getD i 0 ∧ xs.getD i 0 < 256)
include h hr
theorem six_0 : six xs m (6 * (4 * q)) 6 = xs.getD (3 * q) 0 / 4 := by
  rw [six_sum xs m _ h, bitAt_of xs _ (3 * q) 0 (by omega) (by omega), bitAt_of xs _ (3 * q) 1 (by omega) (by omega), bitAt_of xs _ (3 * q) 2 (by omega) (by omega), bitAt_of xs _ (3 * q) 3 (by omega) (by omega), bitAt_of xs _ (3 * q) 4 (by omega) (by omega), bitAt_of xs _ (3 * q) 5 (by omega) (by omega)]
  have := hr (3 * q)
  generalize xs.getD (3 * q) 0 = x at *
  simp only [Nat.sub_zero, Nat.reduceSub, Int.reducePow]
  omega
theorem six_1 : six xs m (6 * (4 * q + 1)) 6 = xs.getD (3 * q) 0 % 4 * 16 + xs.getD (3 * q + 1) 0 / 16 := by
  rw [six_sum xs m _ h, bitAt_of xs _ (3 * q) 6 (by omega) (by omega), bitAt_of xs _ (3 * q) 7 (by omega) (by omega), bitAt_of xs _ (3 * q + 1) 0 (by omega) (by omega), bitAt_of xs _ (3 * q + 1) 1 (by omega) (by omega), bitAt_of xs _ (3 * q + 1) 2 (by omega) (by omega), bitAt_of xs _ (3 * q + 1) 3 (by omega) (by omega)]
  have h0 := hr (3 * q)
  have h1 := hr (3 * q + 1)
  generalize xs.getD (3 * q) 0 = x at *
  generalize xs.getD (3 * q + 1) 0 = y at *
  simp only [Nat.sub_zero, Nat.reduceSub, Nat.sub_self, Int.reducePow, Int.pow_zero]
  omega
theorem six_2 : six xs m (6 * (4 * q + 2)) 6 = xs.getD (3 * q + 1) 0 % 16 * 4 + xs.getD (3 * q + 2) 0 / 64 := by
  rw [six_sum xs m _ h, bitAt_of xs _ (3 * q + 1) 4 (by omega) (by omega), bitAt_of xs _ (3 * q + 1) 5 (by omega) (by omega), bitAt_of xs _ (3 * q + 1) 6 (by omega) (by omega), bitAt_of xs _ (3 * q + 1) 7 (by omega) (by omega), bitAt_of xs _ (3 * q + 2) 0 (by omega) (by omega), bitAt_of xs _ (3 * q + 2) 1 (by omega) (by omega)]
  have h0 := hr (3 * q + 1)
  have h1 := hr (3 * q + 2)
  generalize xs.getD (3 * q + 1) 0 = x at *
  generalize xs.getD (3 * q + 2) 0 = y at *
  simp only [Nat.sub_zero, Nat.reduceSub, Nat.sub_self, Int.reducePow, Int.pow_zero]
  omega
theorem six_3 : six xs m (6 * (4 * q + 3)) 6 = xs.getD (3 * q + 2) 0 % 64 := by
  rw [six_sum xs m _ h, bitAt_of xs _ (3 * q + 2) 2 (by omega) (by omega), bitAt_of xs _ (3 * q + 2) 3 (by omega) (by omega), bitAt_of xs _ (3 * q + 2) 4 (by omega) (by omega), bitAt_of xs _ (3 * q + 2) 5 (by omega) (by omega), bitAt_of xs _ (3 * q + 2) 6 (by omega) (by omega), bitAt_of xs _ (3 * q + 2) 7 (by omega) (by omega)]
  have := hr (3 * q + 2)
  generalize xs.getD (3 * q + 2) 0 = x at *
  simp only [Nat.reduceSub, Nat.sub_self, Int.reducePow, Int.pow_zero]
  omega
end

theorem getD_rng {xs : List Int} (hr : ∀ x ∈ xs, 0 ≤ x ∧ x < 256) (i : Nat) : 0 ≤ xs.getD i 0 ∧ xs.getD i 0 < 256 := by
  rw [List.getD_eq_getElem?_getD]
  by_cases h : i < xs.length
  · rw [List.getElem?_eq_getElem h]
    exact hr _ (List.getElem_mem h)
  · rw [List.getElem?_eq_none (by omega)]
    simp

theorem renc_len {al : Int} (ha : isAl al = true) (xs : List Int) (n : Nat) : (renc al xs n).length = if al = 1 then (n + 2) / 3 * 4 else (8 * n + 5) / 6 := by
  rw [renc_al ha, List.length_append, rdigs_len, List.length_replicate]
  unfold npad nsix
  split <;> omega

/-- Two parts, the first one in whole groups. -/
theorem six_join_hi (xs ys : List Int) (k m j : Nat) (hx : xs.length = 3 * k) (hm : 24 * k + ys.length * 8 ≤ m) (m' : Nat) (hm' : ys.length * 8 ≤ m') : six (xs ++ ys) m (6 * (4 * k + j)) 6 = six ys m' (6 * j) 6 := by
  have e : ∀ t, bitAt (xs ++ ys) (6 * (4 * k + j) + t) = bitAt ys (6 * j + t) := by
    intro t
    unfold bitAt
    have h1 : (6 * (4 * k + j) + t) / 8 = 3 * k + (6 * j + t) / 8 := by omega
    have h2 : (6 * (4 * k + j) + t) % 8 = (6 * j + t) % 8 := by omega
    rw [h1, h2, List.getD_eq_getElem?_getD, List.getElem?_append_right (by omega), hx, Nat.add_sub_cancel_left, ← List.getD_eq_getElem?_getD]
  rw [six_sum _ _ _ (by rw [List.length_append]; omega), six_sum _ _ _ hm', ← e 1, ← e 2, ← e 3, ← e 4, ← e 5]
  have e0 := e 0
  rw [Nat.add_zero, Nat.add_zero] at e0
  rw [e0]
theorem six_join_lo (xs ys : List Int) (k m j : Nat) (hx : xs.length = 3 * k) (hj : j < 4 * k) (hm : 24 * k + ys.length * 8 ≤ m) (m' : Nat) (hm' : xs.length * 8 ≤ m') : six (xs ++ ys) m (6 * j) 6 = six xs m' (6 * j) 6 := by
  have e : ∀ t, t < 6 → bitAt (xs ++ ys) (6 * j + t) = bitAt xs (6 * j + t) := by
    intro t ht
    unfold bitAt
    rw [List.getD_eq_getElem?_getD, List.getElem?_append_left (by omega), ← List.getD_eq_getElem?_getD]
  rw [six_sum _ _ _ (by rw [List.length_append]; omega), six_sum _ _ _ hm', e 1 (by omega), e 2 (by omega), e 3 (by omega), e 4 (by omega), e 5 (by omega)]
  have e0 := e 0 (by omega)
  rw [Nat.add_zero] at e0
  rw [e0]

theorem renc_join (al : Int) (xs ys : List Int) (k : Nat) (hx : xs.length = 3 * k) : renc al (xs ++ ys) (xs ++ ys).length = renc al xs xs.length ++ renc al ys ys.length := by
  cases ha : isAl al with
  | false => simp [renc, ha]
  | true =>
    have hn : nsix (3 * k) = 4 * k := by unfold nsix; omega
    have hs : nsix (3 * k + ys.length) = 4 * k + nsix ys.length := by unfold nsix; omega
    have hp : npad al (4 * k) = 0 := by unfold npad; split <;> omega
    have hp2 : npad al (4 * k + nsix ys.length) = npad al (nsix ys.length) := by unfold npad; split <;> omega
    rw [renc_al ha, renc_al ha, renc_al ha, List.length_append, hx, hs, hn, hp, hp2]
    have e1 : (List.range (4 * k)).map (fun j => dig al (six (xs ++ ys) (8 * (3 * k + ys.length)) (6 * j) 6)) = (List.range (4 * k)).map fun j => dig al (six xs (8 * (3 * k)) (6 * j) 6) :=
      List.map_congr_left fun j hj => by rw [six_join_lo xs ys k (8 * (3 * k + ys.length)) j hx (List.mem_range.1 hj) (by omega) (8 * (3 * k)) (by omega)]
    have e2 : (List.range (nsix ys.length)).map (fun j => dig al (six (xs ++ ys) (8 * (3 * k + ys.length)) (6 * (4 * k + j)) 6)) = (List.range (nsix ys.length)).map fun j => dig al (six ys (8 * ys.length) (6 * j) 6) :=
      List.map_congr_left fun j _ => by rw [six_join_hi xs ys k (8 * (3 * k + ys.length)) j hx (by omega) (8 * ys.length) (by omega)]
    have e3 : rdigs al (xs ++ ys) (8 * (3 * k + ys.length)) (4 * k + nsix ys.length) = rdigs al xs (8 * (3 * k)) (4 * k) ++ rdigs al ys (8 * ys.length) (nsix ys.length) := by
      unfold rdigs
      rw [List.range_add, List.map_append, List.map_map, e1]
      exact congrArg _ e2
    rw [e3]
    simp only [List.replicate_zero, List.append_nil, List.append_assoc]

/-- One string is the encoding of one list of bytes alone. -/
theorem renc_inj {al : Int} (ha : isAl al = true) {xs ys : List Int} (hx : ∀ x ∈ xs, 0 ≤ x ∧ x < 256) (hy : ∀ y ∈ ys, 0 ≤ y ∧ y < 256) (h : txt (renc al xs xs.length) = txt (renc al ys ys.length)) : xs = ys := by
  have h1 := rdec_renc ha xs hx
  rw [h, rdec_renc ha ys hy] at h1
  exact (Option.some.inj h1).symm

end Go.Proofs.YtnnonidiogoffaaGreatDoor
