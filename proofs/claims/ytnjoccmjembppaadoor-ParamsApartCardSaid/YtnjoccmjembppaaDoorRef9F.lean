/- The reference's number of a decimal text. -/
import Derived.Test.YtnjoccmjembppaaDoorRef9E
namespace Go.Proofs.YtnjoccmjembppaaDoor
open Go.RowKit

/-- The bytes of a string as numbers. -/
def ints (s : ByteArray) : List Int := s.data.toList.map fun b => (b.toNat : Int)
theorem ints_len (s : ByteArray) : (ints s).length = s.size := by
  rw [ints, List.length_map, Array.length_toList]
  rfl
theorem ints_at (s : ByteArray) (i : Nat) (h : i < s.size) : (ints s).getD i 0 = ((s[i]).toNat : Int) := by
  have h' : i < s.data.size := h
  simp only [ints, List.getD_eq_getElem?_getD, List.getElem?_map, Array.getElem?_toList]
  rw [Array.getElem?_eq_getElem h']
  rfl
theorem ints_rng (s : ByteArray) (i : Nat) : 0 ≤ (ints s).getD i 0 ∧ (ints s).getD i 0 < 256 := by
  by_cases h : i < s.size
  · rw [ints_at s i h]
    have := (s[i]).toNat_lt
    omega
  · rw [List.getD_eq_getElem?_getD, List.getElem?_eq_none (by rw [ints_len]; omega)]
    simp
theorem idx_str (s : ByteArray) (k : Nat) (hk : k < s.size) (w : World) : (Instr.index 9 (.string s) (.int .i64 (k : Int))).run Tryd.prog w = .ok (.int .u8 ((ints s).getD k 0)) w := by
  rw [run_index_string w 9 s .i64 (k : Int) Tryd.underlying9, dif_pos ⟨by omega, by omega⟩, ints_at s k hk]
  simp only [Int.toNat_natCast]

/-- The value of the first k bytes as digits. -/
def valN (xs : List Int) : Nat → Int
  | 0 => 0
  | k + 1 => 10 * valN xs k + xs.getD k 0 - 48
/-- Whether bytes are the digits of a number: at least one and at most ten, and no zero ahead of others. -/
def digB (xs : List Int) : Bool := decide (1 ≤ xs.length ∧ xs.length ≤ 10 ∧ (1 < xs.length → xs.getD 0 0 ≠ 48) ∧ ∀ i, i < xs.length → 48 ≤ xs.getD i 0 ∧ xs.getD i 0 ≤ 57)
def numI (xs : List Int) : Int := if digB xs = true ∧ valN xs xs.length ≤ 4294967295 then valN xs xs.length else -1
theorem digB_true {xs : List Int} (h : digB xs = true) : 1 ≤ xs.length ∧ xs.length ≤ 10 ∧ (1 < xs.length → xs.getD 0 0 ≠ 48) ∧ ∀ i, i < xs.length → 48 ≤ xs.getD i 0 ∧ xs.getD i 0 ≤ 57 := of_decide_eq_true h
theorem numI_no {xs : List Int} (h : digB xs = false) : numI xs = -1 := by unfold numI; rw [h]; simp
theorem digB_no {xs : List Int} (p : Prop) (h1 : digB xs = true → p) (h2 : ¬ p) : digB xs = false := by
  cases hq : digB xs with
  | false => rfl
  | true => exact absurd (h1 hq) h2
theorem valN_rng (xs : List Int) (h : ∀ i, i < xs.length → 48 ≤ xs.getD i 0 ∧ xs.getD i 0 ≤ 57) : ∀ k, k ≤ xs.length → 0 ≤ valN xs k ∧ valN xs k < 10 ^ k
  | 0, _ => by simp [valN]
  | k + 1, hk => by
    have h1 := valN_rng xs h k (by omega)
    have h2 := h k (by omega)
    have e : (10 : Int) ^ (k + 1) = 10 ^ k * 10 := Int.pow_succ 10 k
    rw [e]
    show 0 ≤ 10 * valN xs k + xs.getD k 0 - 48 ∧ 10 * valN xs k + xs.getD k 0 - 48 < _
    omega

end Go.Proofs.YtnjoccmjembppaaDoor
