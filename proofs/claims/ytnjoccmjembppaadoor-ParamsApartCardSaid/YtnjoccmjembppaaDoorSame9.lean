/- Contract of Same of package pyxref01. -/
import Derived.Test.YtnjoccmjembppaaDoorMth9B
namespace Go.Proofs.YtnjoccmjembppaaDoor
open Go.RowKit

theorem take_snoc' (l : List Int) (k : Nat) (h : k < l.length) : l.take (k + 1) = l.take k ++ [l.getD k 0] := by
  rw [List.take_succ_eq_append_getElem h]
  simp [List.getD, List.getElem?_eq_getElem h]

def sameB (xs ys : List Int) : Bool := decide (xs = ys)
theorem sameB_refl (xs : List Int) : sameB xs xs = true := by simp [sameB]
theorem sameB_true {xs ys : List Int} (h : sameB xs ys = true) : xs = ys := by simpa [sameB] using h

theorem sameB_at {xs ys : List Int} (j : Nat) (h : xs.getD j 0 ≠ ys.getD j 0) : sameB xs ys = false := by
  simp only [sameB, decide_eq_false_iff_not]
  rintro rfl
  exact h rfl
theorem sameB_len {xs ys : List Int} (h : xs.length ≠ ys.length) : sameB xs ys = false := by
  simp only [sameB, decide_eq_false_iff_not]
  rintro rfl
  exact h rfl

end Go.Proofs.YtnjoccmjembppaaDoor
