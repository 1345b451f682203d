/- The reference's reader: behind the first byte. -/
import Derived.Test.YtmhgpdfllpgjpaaDoorRd10F
import Derived.Deep.DeepCutAuto
import Derived.Deep.Cut
import Derived.Deep.WholeRow
import Derived.BigFrame
import Derived.Laws.Tables
import Derived.Laws.CopyOwn
namespace Go.Proofs.YtmhgpdfllpgjpaaDoor
open Go.RowKit
set_option linter.unusedVariables false

abbrev zero7 : Array Value := #[.int .i64 0, .int .u64 0, .slice none 0 0, .slice none 0 0, .int .i64 0, .int .i64 0, .int .i64 0]
/-- The cells of a result with an error. -/
abbrev err7 (c a : Nat) : Array Value := #[.int .i64 0, .int .u64 0, .slice none 0 0, .slice none 0 0, .int .i64 0, .int .i64 (c : Int), .int .i64 (a : Int)]
theorem res_size (cs : Array Value) (h : cs.size = 7) : (Tryd.prog.info? 36).map (·.size) = some cs.size := by rw [h]; kernel_rfl
theorem szOf_le (l : Nat) : szOf l ≤ 8 := by
  unfold szOf
  repeat' split
  all_goals omega
/-- The number behind i bytes. -/
def zI (xs : List Int) (p l i : Nat) : Int := if l < 24 then (l : Int) else beI ((xs.drop (p + 1)).take i)
theorem p256 (a : Nat) : ∀ d : Nat, (256 : Int) ^ a ≤ 256 ^ (a + d)
  | 0 => Int.le_refl _
  | d + 1 => by
    have h := p256 a d
    have h2 : (0 : Int) < 256 ^ (a + d) := Int.pow_pos (by omega)
    rw [← Nat.add_assoc, Int.pow_succ]
    omega
theorem p256' {a b : Nat} (h : a ≤ b) : (256 : Int) ^ a ≤ 256 ^ b := by
  have := p256 a (b - a)
  rwa [Nat.add_sub_cancel' h] at this
theorem zI_step (xs : List Int) (p l i : Nat) (hl : ¬ l < 24) (hi : p + 1 + i < xs.length) : zI xs p l (i + 1) = zI xs p l i * 256 + xs.getD (p + 1 + i) 0 := by
  unfold zI
  rw [if_neg hl, if_neg hl, take_snoc1 _ i (by rw [List.length_drop]; omega), beI_snoc]
  congr 1
  simp [List.getD, List.getElem?_drop]
theorem zI_bd (xs : List Int) (hr : ∀ x ∈ xs, 0 ≤ x ∧ x < 256) (p l i : Nat) (hl : ¬ l < 24) : 0 ≤ zI xs p l i ∧ zI xs p l i < 256 ^ i := by
  have h := beI_bd ((xs.drop (p + 1)).take i) fun x hx => hr x (List.mem_of_mem_drop (List.mem_of_mem_take hx))
  unfold zI
  rw [if_neg hl]
  refine ⟨h.1, Int.lt_of_lt_of_le h.2 ?_⟩
  have h2 : ((xs.drop (p + 1)).take i).length ≤ i := by rw [List.length_take]; omega
  exact p256' h2
theorem zI_num (xs : List Int) (hr : ∀ x ∈ xs, 0 ≤ x ∧ x < 256) (p l : Nat) : zI xs p l (szOf l) = (numAt xs p l : Int) := by
  unfold numAt
  by_cases hl : l < 24
  · unfold zI
    rw [if_pos hl, if_pos hl]
  · have h := zI_bd xs hr p l (szOf l) hl
    rw [if_neg hl]
    unfold zI at h ⊢
    rw [if_neg hl] at h ⊢
    omega
theorem num_bd (xs : List Int) (hr : ∀ x ∈ xs, 0 ≤ x ∧ x < 256) (p l : Nat) : numAt xs p l < 18446744073709551616 := by
  by_cases hl : l < 24
  · unfold numAt
    rw [if_pos hl]
    omega
  · have h := zI_bd xs hr p l (szOf l) hl
    rw [zI_num xs hr] at h
    have h2 : (256 : Int) ^ szOf l ≤ 256 ^ 8 := p256' (szOf_le l)
    omega

end Go.Proofs.YtmhgpdfllpgjpaaDoor
