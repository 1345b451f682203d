/- A region that draws its order: the operations whose guard has decided against them are taken first, many at once. -/
import Derived.Test.YtnjoccmjembppaaDoorBase
import Derived.Deep.RegionLaw
namespace Go.Proofs.YtnjoccmjembppaaDoor
open Go.RowKit

/-- Each of the listed operations may come up, is free, and is not wanted. -/
def skips (md : Region.Mode) (ops : Array Oper) : List Nat → Array Bool → Act → Bool
  | [], _, _ => true
  | i :: is, l, a => match ops[i]? with
    | some o => Region.free md ops l i && (Region.ready md ops l).contains i && !Region.wanted o (yielded ops a.tmps) && skips md ops is (l.setIfInBounds i true) (a.put o.dst undef)
    | none => false
def skipL : List Nat → Array Bool → Array Bool
  | [], l => l
  | i :: is, l => skipL is (l.setIfInBounds i true)
def skipA (ops : Array Oper) : List Nat → Act → Act
  | [], a => a
  | i :: is, a => skipA ops is (a.put ((ops[i]?).bind (·.dst)) undef)

/-- At a panic's exit the post does not look at the slots of the listed operations. -/
def keepsQ (ops : Array Oper) (Q : Exit → Act → World → Prop) : List Nat → Prop
  | [] => True
  | i :: is => (∀ c a w, Q (.panic c) (Act.put a ((ops[i]?).bind (·.dst)) undef) w → Q (.panic c) a w) ∧ keepsQ ops Q is

theorem wpAny_skips {P : Program} {md : Region.Mode} {ops : Array Oper} {Q : Exit → Act → World → Prop} {fuel : Nat} {w : World} (hs : Region.noSelect ops = true) :
    ∀ (is : List Nat) (l : Array Bool) (a : Act), keepsQ ops Q is → skips md ops is l a = true →
    wpAny P md ops Q fuel (skipL is l) (skipA ops is a) w → wpAny P md ops Q (is.length + fuel) l a w
  | [], l, a, _, _, h => by simpa [skipL, skipA] using h
  | i :: is, l, a, hQ, hk, h => by
    obtain ⟨hQ1, hQ2⟩ := hQ
    unfold skips at hk
    cases ho : ops[i]? with
    | none => rw [ho] at hk; cases hk
    | some o =>
      rw [ho] at hk
      simp only [Bool.and_eq_true, Bool.not_eq_true'] at hk
      obtain ⟨⟨⟨h1, h2⟩, h3⟩, h4⟩ := hk
      have e : (i :: is).length + fuel = (is.length + fuel) + 1 := by simp; omega
      rw [e]
      refine wpAny_take ho hs h1 h2 (by rw [ho] at hQ1; exact hQ1) (Or.inr ⟨h3, rfl⟩) ?_
      refine wpAny_skips hs is _ _ hQ2 h4 ?_
      have e2 : skipA ops (i :: is) a = skipA ops is (a.put o.dst undef) := by rw [skipA, ho]; rfl
      rw [e2] at h
      exact h
end Go.Proofs.YtnjoccmjembppaaDoor
