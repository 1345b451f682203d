/- Strings as slices of bytes; where the beginnings of a text, and a text with one byte more, are read to. -/
import Derived.Test.YtoinjjnlgjakkaaDoorJs11D
import Derived.Lib.ConvBytes
namespace Go.Proofs.YtoinjjnlgjakkaaDoor
open Go.RowKit
set_option linter.unusedVariables false

theorem conv_back (s : ByteArray) (w : World) : (convert 9 22 (.string s)).run Tryd.prog w = .ok (.slice (some ⟨w.heap.size, 0, none⟩) s.size (grownCap w s.size 0 5)) (Lib.bytesWorld w 5 s) :=
  Lib.run_convert_string_bytes w _ _ _ s Tryd.underlying9 Tryd.underlying22 Tryd.underlying5
theorem past_bytes (w : World) (s : ByteArray) : Past w (Lib.bytesWorld w 5 s) :=
  ⟨rfl, rfl, rfl, by rw [Lib.bytesWorld_size]; exact Nat.le_succ _, fun i hi => Lib.bytesWorld_at_old w _ s i hi⟩
theorem sl_bytes (w : World) (s : ByteArray) (hs : s.size ≤ maxLen) : Sl (Lib.bytesWorld w 5 s) (some ⟨w.heap.size, 0, none⟩) s.size (grownCap w s.size 0 5) (ints s) := by
  refine ⟨ints_len s, grownCap_ge _ _ _ _, grownCap_le_maxLen _ _ _ _ hs, fun _ => ⟨w.heap.size, 0, rfl, fun i hi => ?_⟩, ints_all s, fun e => by cases e⟩
  rw [Nat.zero_add, Lib.bytesWorld_cell w _ s i hi]
  congr 2
  unfold ints
  have h' : i < s.data.toList.length := by
    rw [Array.length_toList]
    exact hi
  rw [List.getD_eq_getElem?_getD, List.getD_eq_getElem?_getD, List.getElem?_map, List.getElem?_eq_getElem h']
  rfl

/-- A beginning of a text is not read as a whole text. -/
theorem read_begin {l : List P2} (hl : Loose l) (hn : (textI l).length ≤ 1000000) (k : Nat) (hk : k < (textI l).length) : ∃ s, readS ((textI l).take k) 0 0 = (k, s) ∧ s ≠ 9 := by
  have h := run_text l hl
  rw [← List.take_append_drop k (textI l), run_app] at h
  cases hr : run 0 ((textI l).take k) with
  | none => rw [hr] at h; cases h
  | some s =>
    rw [hr] at h
    have h9 : run s ((textI l).drop k) = some 9 := h
    refine ⟨s, ?_, fun e => ?_⟩
    · have ha := at_all hr
      have hle : ((textI l).take k).length = k := by rw [List.length_take]; omega
      have := ha.stop (by omega) fun h => absurd h (Nat.lt_irrefl _)
      rwa [hle] at this
    · subst e
      have h0 := acc9 h9
      have h1 := congrArg List.length h0
      rw [List.length_drop] at h1
      simp only [List.length_nil] at h1
      omega
/-- A text with one byte more is read up to that byte. -/
theorem read_more {l : List P2} (hl : Loose l) (hn : (textI l).length ≤ 900000) (c : Int) : readS (textI l ++ [c]) 0 0 = ((textI l).length, 9) := by
  have ha : At (textI l ++ [c]) (textI l).length 9 := ⟨by simp, by rw [List.take_left']; exact run_text l hl; rfl⟩
  exact ha.stop (by simp; omega) fun _ => stp9 _

end Go.Proofs.YtoinjjnlgjakkaaDoor
