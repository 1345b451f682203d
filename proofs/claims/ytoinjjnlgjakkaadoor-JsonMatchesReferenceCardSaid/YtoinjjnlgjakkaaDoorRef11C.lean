/- The reference's Text: the encoding of pairs. -/
import Derived.Test.YtoinjjnlgjakkaaDoorRef11B
namespace Go.Proofs.YtoinjjnlgjakkaaDoor
open Go.RowKit
set_option linter.unusedVariables false

/-- What stands behind the comma. -/
def pairB (S : ByteArray) (p : P2) : ByteArray := S ++ ⟨#[34]⟩ ++ p.1 ++ ⟨#[34, 58, 34]⟩ ++ p.2 ++ ⟨#[34]⟩
def commaB (S : ByteArray) (i : Nat) : ByteArray := if 0 < i then S ++ ⟨#[44]⟩ else S
def tP (l : List P2) : Nat → ByteArray
  | 0 => ⟨#[123]⟩
  | i + 1 => pairB (commaB (tP l i) i) (l.getD i default)
def textP (l : List P2) : ByteArray := tP l l.length ++ ⟨#[125]⟩
theorem pairB_size (S : ByteArray) (p : P2) : (pairB S p).size = S.size + p.1.size + p.2.size + 5 := by
  unfold pairB
  simp only [ByteArray.size_append]
  have h1 : (⟨#[34]⟩ : ByteArray).size = 1 := rfl
  have h3 : (⟨#[34, 58, 34]⟩ : ByteArray).size = 3 := rfl
  omega
theorem commaB_size (S : ByteArray) (i : Nat) : S.size ≤ (commaB S i).size ∧ (commaB S i).size ≤ S.size + 1 := by
  unfold commaB
  split
  · rw [ByteArray.size_append]
    have h1 : (⟨#[44]⟩ : ByteArray).size = 1 := rfl
    omega
  · omega
theorem tP_next (l : List P2) (i : Nat) : (tP l i).size ≤ (tP l (i + 1)).size := by
  show _ ≤ (pairB (commaB (tP l i) i) (l.getD i default)).size
  rw [pairB_size]
  have := (commaB_size (tP l i) i).1
  omega
theorem tP_mono (l : List P2) (i : Nat) : ∀ k, (tP l i).size ≤ (tP l (i + k)).size
  | 0 => Nat.le_refl _
  | k + 1 => Nat.le_trans (tP_mono l i k) (tP_next l (i + k))

end Go.Proofs.YtoinjjnlgjakkaaDoor
