/- What is known of pairs that are an object: their text is read to its end, and they are the pairs that it has. -/
import Derived.Test.YtclnoblcdaimiaaDoorJs11C
import Derived.Test.YtclnoblcdaimiaaDoorPg11E
import Derived.Test.YtclnoblcdaimiaaDoorPg11G
namespace Go.Proofs.YtclnoblcdaimiaaDoor
open Go.RowKit
set_option linter.unusedVariables false

theorem vld_split {l : List P2} (h : vldP l = true) : l.length ≤ 20 ∧ lenL l ≤ 1048576 ∧ l.all isPairB = true ∧ fDesc l = none := by
  unfold vldP at h
  rw [Bool.and_eq_true, Bool.and_eq_true, Bool.and_eq_true] at h
  obtain ⟨⟨⟨h1, h2⟩, h3⟩, h4⟩ := h
  exact ⟨of_decide_eq_true h1, of_decide_eq_true h2, h3, Option.isNone_iff_eq_none.1 h4⟩
theorem isPair_loose {p : P2} (h : isPairB p = true) : looseP p ∧ p.1.size ≤ 20 := by
  unfold isPairB nonB longB at h
  rw [Bool.and_eq_true, Bool.and_eq_true, Bool.and_eq_true] at h
  obtain ⟨⟨⟨h1, h2⟩, h3⟩, h4⟩ := h
  refine ⟨⟨?_, List.all_eq_true.1 h3, List.all_eq_true.1 h4⟩, ?_⟩
  · rcases Nat.eq_zero_or_pos p.1.size with h0 | h0
    · have e : p.1.toList = [] := by
        rw [Lib.toList_data]
        exact List.eq_nil_of_length_eq_zero (by rw [Array.length_toList]; exact h0)
      rw [e] at h1
      cases h1
    · exact h0
  · rcases Nat.lt_or_ge 20 p.1.size with hl | hl
    · rw [decide_eq_true hl] at h2
      cases h2
    · exact hl
theorem vld_loose {l : List P2} (h : vldP l = true) : Loose l := fun p hp => (isPair_loose (List.all_eq_true.1 (vld_split h).2.2.1 p hp)).1
theorem vld_chk {l : List P2} (h : vldP l = true) : chk l = none := by
  obtain ⟨h1, _, h3, h4⟩ := vld_split h
  refine chk_ok (firstF_none fun j hj => ?_) h4 (by omega)
  have := (isPair_loose (List.all_eq_true.1 h3 (l.getD j default) (by
    rw [List.getD_eq_getElem?_getD, List.getElem?_eq_getElem hj]
    exact List.getElem_mem hj))).2
  unfold longB
  exact decide_eq_false (by omega)
/-- Pairs without an error are an object, if they are short. -/
theorem chk_vld {l : List P2} (hl : Loose l) (h : chk l = none) (hs : lenL l ≤ 1048576) : vldP l = true := by
  have h1 : fLong l = none := by
    cases hq : fLong l with
    | none => rfl
    | some i => rw [chk_long hq] at h; cases h
  have h2 : fDesc l = none := by
    cases hq : fDesc l with
    | none => rfl
    | some i => rw [chk_desc h1 hq] at h; cases h
  have h3 : ¬ 20 < l.length := fun hq => by rw [chk_many h1 h2 hq] at h; cases h
  unfold vldP
  rw [decide_eq_true (by omega), decide_eq_true hs, h2]
  simp only [Bool.true_and, Option.isNone_none, Bool.and_true]
  refine all_getD fun j hj => ?_
  have hp := hl (l.getD j default) (by
    rw [List.getD_eq_getElem?_getD, List.getElem?_eq_getElem hj]
    exact List.getElem_mem hj)
  have hlo := firstF_not h1 j hj
  unfold isPairB nonB
  rw [hlo, List.all_eq_true.2 hp.2.1, List.all_eq_true.2 hp.2.2]
  have e : (l.getD j default).1.toList.isEmpty = false := by
    cases he : (l.getD j default).1.toList.isEmpty with
    | false => rfl
    | true =>
      have h0 := List.isEmpty_iff.1 he
      rw [Lib.toList_data] at h0
      have h5 := congrArg List.length h0
      rw [Array.length_toList] at h5
      have h6 : (l.getD j default).1.size = 0 := h5
      have := hp.1
      omega
  rw [e]
  rfl
theorem at_all {xs : List Int} {s : Nat} (h : run 0 xs = some s) : At xs xs.length s := ⟨Nat.le_refl _, by rw [List.take_length]; exact h⟩
theorem read_text {l : List P2} (hl : Loose l) (hn : (textI l).length ≤ 1000000) : readS (textI l) 0 0 = ((textI l).length, 9) :=
  (at_all (run_text l hl)).stop hn fun h => absurd h (Nat.lt_irrefl _)
/-- Few and short pairs have a short text. -/
theorem few_len {l : List P2} (h : fewP l = true) : l.length ≤ 40 ∧ lenL l ≤ 30000 := by
  unfold fewP at h
  rw [Bool.and_eq_true] at h
  obtain ⟨h1, h2⟩ := h
  have hn := of_decide_eq_true h2
  refine ⟨hn, ?_⟩
  have hk : ∀ i, i ≤ l.length → lenP l i ≤ 2 + (l.length - 1) + 605 * i := by
    intro i
    induction i with
    | zero => intro _; exact Nat.le_refl _
    | succ i ih =>
      intro hi
      have := ih (by omega)
      have ho : okP (l.getD i default) = true := List.all_eq_true.1 h1 _ (by
        rw [List.getD_eq_getElem?_getD, List.getElem?_eq_getElem (by omega)]
        exact List.getElem_mem _)
      have ho' := of_decide_eq_true ho
      show lenP l i + plenN (l.getD i default) ≤ _
      unfold plenN
      omega
  have := hk l.length (Nat.le_refl _)
  unfold lenL
  omega

end Go.Proofs.YtclnoblcdaimiaaDoor
