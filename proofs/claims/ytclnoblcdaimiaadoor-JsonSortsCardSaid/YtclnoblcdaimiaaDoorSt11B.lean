/- How the law tells that a list is sorted and keeps the order among the same names: its places in the list that was given. No program. -/
import Derived.Test.YtclnoblcdaimiaaDoorSt11A
namespace Go.Proofs.YtclnoblcdaimiaaDoor
open Go.Sort
set_option linter.unusedVariables false

section
variable {α : Type} {σ : Type} [DecidableEq σ] {cls : α → σ}
def flt (cls : α → σ) (t : σ) (l : List α) : List α := l.filter fun x => decide (cls x = t)
theorem flt_app (t : σ) (a b : List α) : flt cls t (a ++ b) = flt cls t a ++ flt cls t b := List.filter_append ..
theorem flt_yes {t : σ} {x : α} (l : List α) (h : cls x = t) : flt cls t (x :: l) = x :: flt cls t l := List.filter_cons_of_pos (by simpa using h)
theorem flt_no {t : σ} {x : α} (l : List α) (h : cls x ≠ t) : flt cls t (x :: l) = flt cls t l := List.filter_cons_of_neg (by simpa using h)
variable [Inhabited α]
theorem getD_at (l : List α) (i : Nat) (h : i < l.length) : l.getD i default = l[i] := by
  rw [List.getD_eq_getElem?_getD, List.getElem?_eq_getElem h]
  rfl
theorem drop_cons (l : List α) (i : Nat) (h : i < l.length) : l.drop i = l.getD i default :: l.drop (i + 1) := by
  rw [List.drop_eq_getElem_cons h, getD_at _ _ h]
theorem take_cons (l : List α) (i : Nat) (h : i < l.length) : l.take (i + 1) = l.take i ++ [l.getD i default] := by
  rw [List.take_succ_eq_append_getElem h, getD_at _ _ h]
/-- Where the law stands: i elements of s are told, and what has their last one's name lies in l before p. -/
def Ins (cls : α → σ) (s l : List α) (i p : Nat) : Prop := p ≤ l.length ∧ (i = 0 → p = 0) ∧ (0 < i → flt cls (cls (s.getD (i - 1) default)) (s.take i) = flt cls (cls (s.getD (i - 1) default)) (l.take p))
theorem Ins.start (s l : List α) : Ins cls s l 0 0 := ⟨Nat.zero_le _, fun _ => rfl, fun h => absurd h (Nat.lt_irrefl 0)⟩
/-- The place that the scan begins at. -/
def Scn (cls : α → σ) (s l : List α) (i p : Nat) : Prop := p ≤ l.length ∧ flt cls (cls (s.getD i default)) (s.take i) = flt cls (cls (s.getD i default)) (l.take p)
theorem Ins.same {s l : List α} {i p : Nat} (h : Ins cls s l i p) (he : i = 0 ∨ cls (s.getD i default) = cls (s.getD (i - 1) default)) : Scn cls s l i p := by
  refine ⟨h.1, ?_⟩
  by_cases h0 : i = 0
  · subst h0
    rw [h.2.1 rfl]
    rfl
  · have := h.2.2 (by omega)
    rcases he with he | he
    · exact absurd he h0
    · rw [he]
      exact this
theorem Scn.fresh {lt : α → α → Bool} (hO : SWO lt) (hc : ∀ x y, cls x = cls y → lt x y = false) (ht : ∀ x y, lt x y = false → lt y x = false → cls x = cls y) {s l : List α} {i : Nat} (hi : i < s.length) (h0 : 0 < i)
    (hs : ∀ a b, a < b → b < s.length → lt (s.getD b default) (s.getD a default) = false) (hne : cls (s.getD i default) ≠ cls (s.getD (i - 1) default)) : Scn cls s l i 0 := by
  refine ⟨Nat.zero_le _, ?_⟩
  have : flt cls (cls (s.getD i default)) (s.take i) = [] := by
    unfold flt
    rw [List.filter_eq_nil_iff]
    intro x hx
    obtain ⟨j, hj, rfl⟩ := List.mem_take_iff_getElem.1 hx
    have hj1 : j < i := by omega
    have e : s[j] = s.getD j default := (getD_at _ _ (by omega)).symm
    rw [e]
    intro hq
    have hq : cls (s.getD j default) = cls (s.getD i default) := by simpa using hq
    have h1 := hs (i - 1) i (by omega) hi
    have h2 : lt (s.getD (i - 1) default) (s.getD j default) = false := by
      by_cases e : j = i - 1
      · rw [e]; exact hO.irrefl _
      · exact hs j (i - 1) (by omega) (by omega)
    have h3 : lt (s.getD j default) (s.getD i default) = false := hc _ _ hq
    exact hne (ht _ _ h1 (hO.ntrans _ _ _ h2 h3))
  rw [this]
  rfl
theorem Scn.next {s l : List α} {i p : Nat} (h : Scn cls s l i p) (hp : p < l.length) (hne : cls (l.getD p default) ≠ cls (s.getD i default)) : Scn cls s l i (p + 1) := by
  refine ⟨hp, ?_⟩
  rw [h.2, take_cons l p hp, flt_app, flt_no _ hne]
  exact (List.append_nil _).symm
theorem Scn.rest {s l : List α} {i p : Nat} (h : Scn cls s l i p) (hst : ∀ t, flt cls t s = flt cls t l) (hi : i < s.length) : s.getD i default :: flt cls (cls (s.getD i default)) (s.drop (i + 1)) = flt cls (cls (s.getD i default)) (l.drop p) := by
  have h1 : flt cls (cls (s.getD i default)) (s.take i ++ s.drop i) = flt cls (cls (s.getD i default)) (l.take p ++ l.drop p) := by
    rw [List.take_append_drop, List.take_append_drop]
    exact hst _
  rw [flt_app, flt_app, h.2] at h1
  have h2 := List.append_cancel_left h1
  rw [drop_cons s i hi, flt_yes _ rfl] at h2
  exact h2
theorem Scn.lt {s l : List α} {i p : Nat} (h : Scn cls s l i p) (hst : ∀ t, flt cls t s = flt cls t l) (hi : i < s.length) : p < l.length := by
  by_cases hp : p < l.length
  · exact hp
  · have := h.rest hst hi
    have e : l.drop p = [] := List.drop_of_length_le (by omega)
    rw [e] at this
    exact absurd this (List.cons_ne_nil _ _)
theorem Scn.found {s l : List α} {i p : Nat} (h : Scn cls s l i p) (hst : ∀ t, flt cls t s = flt cls t l) (hi : i < s.length) (he : cls (l.getD p default) = cls (s.getD i default)) : l.getD p default = s.getD i default ∧ Ins cls s l (i + 1) (p + 1) := by
  have hp := h.lt hst hi
  have h1 := h.rest hst hi
  rw [drop_cons l p hp, flt_yes _ he] at h1
  have h2 : s.getD i default = l.getD p default := by injection h1
  refine ⟨h2.symm, hp, fun h => by omega, fun _ => ?_⟩
  rw [Nat.add_sub_cancel, take_cons s i hi, take_cons l p hp, flt_app, flt_app, h.2, h2]
end
end Go.Proofs.YtclnoblcdaimiaaDoor
