/- The text of pairs as a string and as a list of numbers: both are the same. -/
import Derived.Test.YtclnoblcdaimiaaDoorJs11A
import Derived.Test.YtclnoblcdaimiaaDoorPg11G
namespace Go.Proofs.YtclnoblcdaimiaaDoor
open Go.RowKit
set_option linter.unusedVariables false

theorem ints_encB (p : P2) : ints (encB p) = pI p := by
  unfold encB pI
  simp only [ints_append]
  rfl
theorem pairB_eq (S : ByteArray) (p : P2) : pairB S p = S ++ encB p := by
  apply ints_inj
  unfold pairB encB
  simp only [ints_append, List.append_assoc]
theorem ints_pairB (S : ByteArray) (p : P2) : ints (pairB S p) = ints S ++ pI p := by
  rw [pairB_eq, ints_append, ints_encB]
theorem take_snoc11 (l : List P2) (i : Nat) (hi : i < l.length) : l.take (i + 1) = l.take i ++ [l.getD i default] := by
  rw [List.take_succ_eq_append_getElem hi, List.getD_eq_getElem?_getD, List.getElem?_eq_getElem hi]
  rfl
theorem ints_comma (l : List P2) : ∀ i, i ≤ l.length → ints (commaB (tP l i) i) = preI (l.take i)
  | 0, _ => rfl
  | i + 1, hi => by
    have e : commaB (tP l (i + 1)) (i + 1) = pairB (commaB (tP l i) i) (l.getD i default) ++ ⟨#[44]⟩ := rfl
    rw [e, ints_append, ints_pairB, ints_comma l i (by omega), take_snoc11 l i (by omega), preI_snoc]
    rfl
theorem ints_textP (l : List P2) : ints (textP l) = textI l := by
  rcases Nat.eq_zero_or_pos l.length with h | h
  · obtain rfl := List.eq_nil_of_length_eq_zero h
    rfl
  · obtain ⟨k, hk⟩ : ∃ k, l.length = k + 1 := ⟨l.length - 1, by omega⟩
    have e : textP l = pairB (commaB (tP l k) k) (l.getD k default) ++ ⟨#[125]⟩ := by
      unfold textP
      rw [hk]
      rfl
    have el : l = l.take k ++ [l.getD k default] := by
      rw [← take_snoc11 l k (by omega), ← hk, List.take_length]
    rw [e, ints_append, ints_pairB, ints_comma l k (by omega)]
    conv => rhs; rw [el, textI_snoc]
    rfl
theorem pre_len (l : List P2) : ∀ i, i ≤ l.length → (preI (l.take i)).length + 1 = nmP l i
  | 0, _ => rfl
  | i + 1, hi => by
    rw [take_snoc11 l i (by omega), preI_snoc, List.length_append, List.length_append, pI_len]
    have := pre_len l i (by omega)
    show _ = nmP l i + (plenN (l.getD i default) + 1)
    unfold plenN
    simp only [List.length_cons, List.length_nil]
    omega
theorem text_len (l : List P2) : (textI l).length = lenL l := by
  rcases Nat.eq_zero_or_pos l.length with h | h
  · obtain rfl := List.eq_nil_of_length_eq_zero h
    rfl
  · obtain ⟨k, hk⟩ : ∃ k, l.length = k + 1 := ⟨l.length - 1, by omega⟩
    have el : l = l.take k ++ [l.getD k default] := by
      rw [← take_snoc11 l k (by omega), ← hk, List.take_length]
    have h1 : (textI l).length = (preI (l.take k)).length + (pI (l.getD k default)).length + 1 := by
      conv => lhs; rw [el, textI_snoc]
      simp only [List.length_append, List.length_cons, List.length_nil]
    have h2 := pre_len l k (by omega)
    have h3 := nmP_lenP l k
    have h4 : lenL l = lenP l k + plenN (l.getD k default) := by
      unfold lenL
      rw [hk]
      rfl
    rw [h1, pI_len, h4]
    unfold plenN
    omega
theorem textP_size (l : List P2) : (textP l).size = lenL l := by rw [← ints_len, ints_textP, text_len]
theorem tP_size_le (l : List P2) (i : Nat) (hi : i ≤ l.length) : (tP l i).size ≤ lenL l := by
  have h := tP_mono l i (l.length - i)
  rw [show i + (l.length - i) = l.length by omega] at h
  have h2 : (textP l).size = (tP l l.length).size + 1 := by
    unfold textP
    rw [ByteArray.size_append]
    rfl
  rw [textP_size] at h2
  omega

end Go.Proofs.YtclnoblcdaimiaaDoor
