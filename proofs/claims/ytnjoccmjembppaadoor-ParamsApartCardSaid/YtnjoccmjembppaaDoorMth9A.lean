/- Decimal digits: what is written is what is read. Plain lists of numbers. -/
import Derived.Test.YtnjoccmjembppaaDoorRef9H
namespace Go.Proofs.YtnjoccmjembppaaDoor
open Go.RowKit

theorem ints_app (a b : ByteArray) : ints (a ++ b) = ints a ++ ints b := by
  unfold ints
  rw [ByteArray.data_append, Array.toList_append, List.map_append]
theorem ints_inj {a b : ByteArray} (h : ints a = ints b) : a = b := by
  have hl : a.size = b.size := by rw [← ints_len a, ← ints_len b, h]
  have hd : a.data.toList = b.data.toList := by
    refine List.ext_getElem (by simpa using hl) fun i h1 h2 => ?_
    have h3 : (ints a)[i]? = (ints b)[i]? := by rw [h]
    unfold ints at h3
    rw [List.getElem?_map, List.getElem?_map, List.getElem?_eq_getElem h1, List.getElem?_eq_getElem h2] at h3
    simp only [Option.map_some, Option.some.injEq] at h3
    exact UInt8.toNat_inj.1 (by omega)
  cases a
  cases b
  simp only at hd
  rw [Array.toList_inj.1 hd]

/-- The decimal digits of a number. -/
def decL (n : Nat) : List Int := ints (decS n)
theorem dig_ints : ∀ i : Fin 10, ints (digS.extract i.val (i.val + 1)) = [((48 + i.val : Nat) : Int)] := by decide +kernel
theorem decL_one {n : Nat} (h : n < 10) : decL n = [((48 + n : Nat) : Int)] := by
  unfold decL
  rw [decS_one h]
  exact dig_ints ⟨n, h⟩
theorem decL_more {n : Nat} (h : ¬ n < 10) : decL n = decL (n / 10) ++ [((48 + n % 10 : Nat) : Int)] := by
  unfold decL
  rw [decS_more h, ints_app]
  congr 1
  exact dig_ints ⟨n % 10, Nat.mod_lt _ (by omega)⟩
theorem decL_len (n : Nat) (h : n < 10000000000) : 1 ≤ (decL n).length ∧ (decL n).length ≤ 10 := by
  constructor
  · by_cases h0 : n < 10
    · rw [decL_one h0]
      exact Nat.le_refl _
    · rw [decL_more h0, List.length_append]
      simp
  · unfold decL
    rw [ints_len]
    exact decS_size 9 n (by omega)
theorem decL_rng (n : Nat) : ∀ x ∈ decL n, 48 ≤ x ∧ x ≤ 57 := by
  induction n using Nat.strongRecOn with
  | _ n ih =>
    by_cases h0 : n < 10
    · rw [decL_one h0]
      intro x hx
      obtain rfl : x = ((48 + n : Nat) : Int) := by simpa using hx
      omega
    · rw [decL_more h0]
      intro x hx
      rcases List.mem_append.1 hx with hx | hx
      · exact ih (n / 10) (by omega) x hx
      · obtain rfl : x = ((48 + n % 10 : Nat) : Int) := by simpa using hx
        omega
theorem getD_app_left {l m : List Int} {i : Nat} (h : i < l.length) : (l ++ m).getD i 0 = l.getD i 0 := by
  rw [List.getD_eq_getElem?_getD, List.getElem?_append_left h, ← List.getD_eq_getElem?_getD]
theorem getD_app_right {l m : List Int} {i : Nat} (h : l.length ≤ i) : (l ++ m).getD i 0 = m.getD (i - l.length) 0 := by
  rw [List.getD_eq_getElem?_getD, List.getElem?_append_right h, ← List.getD_eq_getElem?_getD]
theorem decL_pos (n : Nat) : 1 ≤ (decL n).length := by
  by_cases h0 : n < 10
  · rw [decL_one h0]
    exact Nat.le_refl _
  · rw [decL_more h0, List.length_append]
    simp
/-- No zero ahead of other digits. -/
theorem decL_head (n : Nat) : 1 < (decL n).length → (decL n).getD 0 0 ≠ 48 := by
  induction n using Nat.strongRecOn with
  | _ n ih =>
    by_cases h0 : n < 10
    · rw [decL_one h0]
      intro h
      simp at h
    · rw [decL_more h0]
      intro _
      rw [getD_app_left (by have := decL_pos (n / 10); omega)]
      by_cases h1 : 1 < (decL (n / 10)).length
      · exact ih (n / 10) (by omega) h1
      · by_cases h2 : n / 10 < 10
        · rw [decL_one h2]
          show ((48 + n / 10 : Nat) : Int) ≠ 48
          omega
        · have := decL_more h2
          rw [this, List.length_append, List.length_singleton] at h1
          have := decL_pos (n / 10 / 10)
          omega
theorem valN_app (l m : List Int) : ∀ k, k ≤ l.length → valN (l ++ m) k = valN l k
  | 0, _ => rfl
  | k + 1, h => by
    show 10 * valN (l ++ m) k + (l ++ m).getD k 0 - 48 = 10 * valN l k + l.getD k 0 - 48
    rw [valN_app l m k (by omega), getD_app_left (by omega)]
theorem valN_snoc (l : List Int) (x : Int) : valN (l ++ [x]) (l ++ [x]).length = 10 * valN l l.length + x - 48 := by
  rw [List.length_append, List.length_singleton]
  show 10 * valN (l ++ [x]) l.length + (l ++ [x]).getD l.length 0 - 48 = _
  rw [valN_app l [x] _ (Nat.le_refl _), getD_app_right (Nat.le_refl _), Nat.sub_self]
  rfl
theorem valN_decL (n : Nat) : valN (decL n) (decL n).length = (n : Int) := by
  induction n using Nat.strongRecOn with
  | _ n ih =>
    by_cases h0 : n < 10
    · rw [decL_one h0]
      show 10 * valN [((48 + n : Nat) : Int)] 0 + ((48 + n : Nat) : Int) - 48 = _
      show 10 * 0 + ((48 + n : Nat) : Int) - 48 = _
      omega
    · rw [decL_more h0, valN_snoc, ih (n / 10) (by omega)]
      omega
theorem numI_decL (n : Nat) (h : n < 4294967296) : numI (decL n) = (n : Int) := by
  have hl := decL_len n (by omega)
  have hb : digB (decL n) = true := by
    refine decide_eq_true ⟨hl.1, hl.2, decL_head n, fun i hi => ?_⟩
    refine decL_rng n _ ?_
    rw [List.getD_eq_getElem?_getD, List.getElem?_eq_getElem hi]
    exact List.getElem_mem hi
  unfold numI
  rw [if_pos ⟨hb, by rw [valN_decL]; omega⟩, valN_decL]
theorem list_snoc (d : List Int) (h : 1 ≤ d.length) : ∃ l x, d = l ++ [x] := by
  rcases List.eq_nil_or_concat d with h0 | ⟨l, x, h0⟩
  · rw [h0] at h
    simp at h
  · exact ⟨l, x, by simpa using h0⟩
theorem digits_canon (k : Nat) : ∀ d : List Int, d.length = k + 1 → (∀ i, i < d.length → 48 ≤ d.getD i 0 ∧ d.getD i 0 ≤ 57) → (1 < d.length → d.getD 0 0 ≠ 48) → decL (valN d d.length).toNat = d := by
  induction k with
  | zero =>
    intro d hd hr _
    obtain ⟨l, x, rfl⟩ := list_snoc d (by omega)
    have hl : l = [] := by
      rw [List.length_append, List.length_singleton] at hd
      exact List.eq_nil_of_length_eq_zero (by omega)
    subst hl
    have h0 : 48 ≤ x ∧ x ≤ 57 := hr 0 (by simp)
    have e : valN ([] ++ [x]) ([] ++ [x] : List Int).length = x - 48 := by
      rw [valN_snoc]
      show 10 * 0 + x - 48 = _
      omega
    rw [e, decL_one (by omega)]
    show [_] = [x]
    congr 1
    omega
  | succ k ih =>
    intro d hd hr hz
    obtain ⟨l, x, rfl⟩ := list_snoc d (by omega)
    have hl : l.length = k + 1 := by
      rw [List.length_append, List.length_singleton] at hd
      omega
    have hrl : ∀ i, i < l.length → 48 ≤ l.getD i 0 ∧ l.getD i 0 ≤ 57 := fun i hi => by
      have := hr i (by rw [List.length_append]; omega)
      rwa [getD_app_left hi] at this
    have hx : 48 ≤ x ∧ x ≤ 57 := by
      have := hr l.length (by rw [List.length_append]; simp)
      rwa [getD_app_right (Nat.le_refl _), Nat.sub_self] at this
    have h0 : l.getD 0 0 ≠ 48 := by
      have := hz (by omega)
      rwa [getD_app_left (by omega)] at this
    have hih := ih l hl hrl (fun _ => h0)
    have hv := valN_rng l hrl l.length (Nat.le_refl _)
    have hpos : 1 ≤ valN l l.length := by
      rcases Int.lt_or_le (valN l l.length) 1 with h | h
      · have e0 : valN l l.length = 0 := by omega
        rw [e0] at hih
        have e1 : decL (0 : Int).toNat = [48] := decL_one (by decide)
        rw [e1] at hih
        rw [← hih] at h0
        exact absurd rfl h0
      · exact h
    rw [valN_snoc]
    rw [decL_more (by omega)]
    have e1 : (10 * valN l l.length + x - 48).toNat / 10 = (valN l l.length).toNat := by omega
    have e2 : ((48 + (10 * valN l l.length + x - 48).toNat % 10 : Nat) : Int) = x := by omega
    rw [e1, e2, hih]
theorem numI_canon (d : List Int) (h : 0 ≤ numI d) : decL (numI d).toNat = d ∧ numI d < 4294967296 := by
  unfold numI at h ⊢
  by_cases hc : digB d = true ∧ valN d d.length ≤ 4294967295
  · rw [if_pos hc] at h ⊢
    obtain ⟨q1, q2, q3, q4⟩ := digB_true hc.1
    exact ⟨digits_canon (d.length - 1) d (by omega) q4 q3, by omega⟩
  · rw [if_neg hc] at h
    omega
theorem decL_inj {m n : Nat} (h : decL m = decL n) : m = n := by
  have h1 := valN_decL m
  rw [h, valN_decL n] at h1
  omega

end Go.Proofs.YtnjoccmjembppaaDoor
