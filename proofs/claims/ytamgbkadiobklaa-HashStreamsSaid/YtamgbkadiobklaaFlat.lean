/- A round of Keccak in lanes by x + 5 * y, as a program in one array of 25 lanes reckons it. -/
import Derived.Test.YtamgbkadiobklaaT6
namespace Go.Proofs.Ytamgbkadiobklaa
open Go.RowKit

def sg (j : Nat) : Nat := j / 5 + 5 * (j % 5)
theorem sg_sg (j : Nat) (h : j < 25) : sg (sg j) = j := by unfold sg; omega
theorem sg_lt (j : Nat) (h : j < 25) : sg j < 25 := by unfold sg; omega
theorem tr_sg (S : Nat → Lane) (j : Nat) : tr S j = S (sg j) := rfl
/-- The parity of a column. -/
def fC (S : Nat → Lane) (x : Nat) : Lane := S x ^^^ S (x + 5) ^^^ S (x + 10) ^^^ S (x + 15) ^^^ S (x + 20)
theorem fC_cC (S : Nat → Lane) (x : Nat) : fC S x = cC (tr S) x := by
  rw [cC_five]
  simp only [tr_sg, fC]
  rw [show sg (x * 5) = x by unfold sg; omega, show sg (x * 5 + 1) = x + 5 by unfold sg; omega, show sg (x * 5 + 2) = x + 10 by unfold sg; omega, show sg (x * 5 + 3) = x + 15 by unfold sg; omega, show sg (x * 5 + 4) = x + 20 by unfold sg; omega]
def fth (S : Nat → Lane) (j : Nat) : Lane := S j ^^^ fC S ((j % 5 + 4) % 5) ^^^ rotN (fC S ((j % 5 + 1) % 5)) 1
theorem fth_th (S : Nat → Lane) (i : Nat) (hi : i < 25) : tr (fth S) i = th (tr S) i := by
  show fth S (sg i) = _
  unfold fth th
  have e : sg i % 5 = i / 5 := by unfold sg; omega
  rw [e, fC_cC S, fC_cC S]
  rfl
/-- Where the lane at the place j comes from, and where the lane at the place i goes. -/
def fsrc (j : Nat) : Nat := sg (srcI (sg j))
def fdst (i : Nat) : Nat := i / 5 + 5 * ((2 * (i % 5) + 3 * (i / 5)) % 5)
theorem fsrc_fdst : ∀ i : Fin 25, fsrc (fdst i.val) = i.val ∧ fdst i.val < 25 := by decide +kernel
theorem fdst_fsrc : ∀ j : Fin 25, fdst (fsrc j.val) = j.val ∧ fsrc j.val < 25 := by decide +kernel
/-- The offset of the lane at the place i. -/
def roff (i : Nat) : Nat := offN (i % 5 * 5 + i / 5)
theorem roff_lt : ∀ i : Fin 25, roff i.val < 64 := by decide +kernel
theorem poff_roff (i : Nat) : poff i = ((roff i : Nat) : Int) := rfl
def frho (T : Nat → Lane) (j : Nat) : Lane := rotN (T (fsrc j)) (roff (fsrc j))
theorem frho_rho {T A : Nat → Lane} (h : ∀ i, i < 25 → tr T i = A i) (i : Nat) (hi : i < 25) : tr (frho T) i = rho A offN i := by
  show frho T (sg i) = _
  unfold frho rho fsrc
  rw [sg_sg i hi]
  have hs := (dst_src ⟨i, hi⟩).2
  have e : roff (sg (srcI i)) = offN (srcI i) := by
    unfold roff
    have : sg (srcI i) % 5 * 5 + sg (srcI i) / 5 = srcI i := by
      have hs : srcI i < 25 := hs
      unfold sg
      omega
    rw [this]
  rw [e, ← h (srcI i) hs]
  rfl
def fchi (B : Nat → Lane) (j : Nat) : Lane := B j ^^^ (~~~ B ((j % 5 + 1) % 5 + 5 * (j / 5)) &&& B ((j % 5 + 2) % 5 + 5 * (j / 5)))
theorem fchi_chi {B A : Nat → Lane} (h : ∀ i, i < 25 → tr B i = A i) (i : Nat) (hi : i < 25) : tr (fchi B) i = chi A i := by
  show fchi B (sg i) = _
  unfold fchi chi
  have e1 : sg i % 5 = i / 5 := by unfold sg; omega
  have e2 : sg i / 5 = i % 5 := by unfold sg; omega
  rw [e1, e2, ← h i hi, ← h _ (show (i / 5 + 1) % 5 * 5 + i % 5 < 25 by omega), ← h _ (show (i / 5 + 2) % 5 * 5 + i % 5 < 25 by omega)]
  simp only [tr_sg]
  rw [show sg ((i / 5 + 1) % 5 * 5 + i % 5) = (i / 5 + 1) % 5 + 5 * (i % 5) by unfold sg; omega, show sg ((i / 5 + 2) % 5 * 5 + i % 5) = (i / 5 + 2) % 5 + 5 * (i % 5) by unfold sg; omega]
def fiota (A : Nat → Lane) (rc : Lane) (i : Nat) : Lane := if i = 0 then A 0 ^^^ rc else A i
theorem fiota_iota {B A : Nat → Lane} (h : ∀ i, i < 25 → tr B i = A i) (rc : Lane) (i : Nat) (hi : i < 25) : tr (fiota B rc) i = iota A rc i := by
  show fiota B rc (sg i) = _
  unfold fiota iota
  by_cases h0 : i = 0
  · subst h0
    rw [show sg 0 = 0 from rfl, if_pos rfl, ← h 0 (by decide)]
    rfl
  · rw [if_neg (by unfold sg; omega), if_neg h0, ← h i hi]
    rfl
/-- A round. -/
def frnd (S : Nat → Lane) (rc : Lane) : Nat → Lane := fiota (fchi (frho (fth S))) rc
theorem frnd_prd (S : Nat → Lane) (n i : Nat) (hi : i < 25) : frnd S (rcL n) i = prd S n i := by
  refine tr_inj (fun j hj => ?_) i hi
  rw [show prd S n = tr (kround (tr S) (rcL n) offN) from rfl, tr_tr _ j hj]
  exact fiota_iota (fchi_chi (frho_rho (fth_th S))) (rcL n) j hj

end Go.Proofs.Ytamgbkadiobklaa
