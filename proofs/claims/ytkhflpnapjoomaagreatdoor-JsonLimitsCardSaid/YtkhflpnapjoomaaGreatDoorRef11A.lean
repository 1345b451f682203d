/- The reference's Few and wrong. -/
import Derived.Test.YtkhflpnapjoomaaGreatDoorPs11
import Derived.Lib.Hide
import Derived.Handy
namespace Go.Proofs.YtkhflpnapjoomaaGreatDoor
open Go.RowKit
set_option linter.unusedVariables false

def okP (p : P2) : Bool := decide (p.1.size ≤ 100 ∧ p.2.size ≤ 500)
def fewP (l : List P2) : Bool := l.all okP && decide (l.length ≤ 40)
theorem fewP_not {l : List P2} {i : Nat} (h : i < l.length) (hk : okP (l.getD i default) = false) : fewP l = false := by
  unfold fewP
  have : l.all okP = false := by
    rw [List.all_eq_false]
    refine ⟨l.getD i default, ?_, by rw [hk]; decide⟩
    rw [List.getD_eq_getElem?_getD, List.getElem?_eq_getElem h]
    exact List.getElem_mem h
  rw [this]
  rfl
theorem fewP_all {l : List P2} (h : ∀ j, j < l.length → okP (l.getD j default) = true) : fewP l = decide (l.length ≤ 40) := by
  unfold fewP
  have : l.all okP = true := by
    rw [List.all_eq_true]
    intro x hx
    obtain ⟨j, hj, rfl⟩ := List.getElem_of_mem hx
    have := h j hj
    rwa [List.getD_eq_getElem?_getD, List.getElem?_eq_getElem hj] at this
  rw [this]
  rfl

/-- The error at a place: behind the end it is one of length. -/
def wrongC (n p : Nat) : Nat × Nat := if n ≤ p then (3, n) else (5, p)
abbrev bad11 (c a : Nat) : Value := .agg #[.slice none 0 0, .slice none 0 0, .int .i64 (c : Int), .int .i64 (a : Int)]
end Go.Proofs.YtkhflpnapjoomaaGreatDoor
