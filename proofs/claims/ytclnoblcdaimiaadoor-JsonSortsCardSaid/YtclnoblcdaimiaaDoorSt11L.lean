/- Two pairs of strings compared by the law. -/
import Derived.Test.YtclnoblcdaimiaaDoorSt11K
import Derived.Test.YtclnoblcdaimiaaDoorRef11B
import Derived.Test.YtclnoblcdaimiaaDoorPg11F
namespace Go.Proofs.YtclnoblcdaimiaaDoor
open Go.RowKit Go.Sort Go.Shelf Go.Lib
set_option linter.unusedVariables false

theorem neq_pair (a b : ByteArray) (w : World) : (binOp .neq 48 (.agg #[.string a, .string b]) (.agg #[.string a, .string b])).run Tryd.prog w = .ok (.bool false) w := by
  have h1 : (a.toList == a.toList) = true := by simp
  have h2 : (b.toList == b.toList) = true := by simp
  go_simp
theorem asc_less {l m : List P2} (h : SrtOf l m) {i k : Nat} (hk : k < i) (hi : i < m.length) : Go.Op.bytesLess (m.getD i default).1.toList (m.getD k default).1.toList = false := by
  have := h.asc k i hk hi
  rw [ltP_eq] at this
  rw [bytesLess_eq]
  exact this
theorem getV_some {l : List P2} {s : ByteArray} {j : Nat} (h : fName l s = some j) : getV l s = .tuple #[.string (l.getD j default).2, .bool true] ∧ j < l.length ∧ ((l.getD j default).1.toList == s.toList) = true ∧ ∀ k, k < j → ((l.getD k default).1.toList == s.toList) = false := by
  have hl := firstF_lt h
  refine ⟨by unfold getV; rw [h], hl.1, ?_, fun k hk => ?_⟩
  · have := of_decide_eq_true hl.2
    rw [this]
    simp
  · cases hc : ((l.getD k default).1.toList == s.toList) with
    | false => rfl
    | true =>
      have e : (l.getD k default).1 = s := toList_inj11 (by simpa using hc)
      unfold fName firstF at h
      have h2 := List.find?_eq_some_iff_getElem.1 h
      obtain ⟨_, q, hq, hq2, hq3⟩ := h2
      have hqj : q = j := by simpa using hq2
      have h3 := hq3 k (by omega)
      rw [List.getElem_range, decide_eq_true e] at h3
      cases h3
theorem getV_none {l : List P2} {s : ByteArray} (h : fName l s = none) : getV l s = .tuple #[.string ⟨#[]⟩, .bool false] ∧ ∀ k, k < l.length → ((l.getD k default).1.toList == s.toList) = false := by
  refine ⟨by unfold getV; rw [h], fun k hk => ?_⟩
  have := firstF_not h k hk
  cases hc : ((l.getD k default).1.toList == s.toList) with
  | false => rfl
  | true =>
    have e : (l.getD k default).1 = s := toList_inj11 (by simpa using hc)
    rw [decide_eq_true e] at this
    cases this
end Go.Proofs.YtclnoblcdaimiaaDoor
