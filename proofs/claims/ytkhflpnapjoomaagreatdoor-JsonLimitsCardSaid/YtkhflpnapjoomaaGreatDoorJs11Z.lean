/- The object of the law JsonLimits: one pair with a long value. -/
import Derived.Test.YtkhflpnapjoomaaGreatDoorJs11E
import Derived.Lib.Repeat
namespace Go.Proofs.YtkhflpnapjoomaaGreatDoor
open Go.RowKit
set_option linter.unusedVariables false

def valZ (n : Nat) : ByteArray := ⟨(Lib.repeatL [120] n).toArray⟩
def pairZ (n : Nat) : P2 := (⟨#[97]⟩, valZ n)
theorem ints_val (n : Nat) : ints (valZ n) = List.replicate n 120 := by
  unfold ints valZ
  induction n with
  | zero => rfl
  | succ n ih =>
    have e : Lib.repeatL [120] (n + 1) = 120 :: Lib.repeatL [120] n := rfl
    rw [e]
    simp only [List.map_cons, List.replicate_succ]
    simp only at ih
    rw [ih]
    rfl
theorem val_size (n : Nat) : (valZ n).size = n := by rw [← ints_len, ints_val, List.length_replicate]
theorem ints_a : ints (⟨#[97]⟩ : ByteArray) = [97] := by kernel_rfl
theorem looseZ (n : Nat) : Loose [pairZ n] := by
  intro p hp
  rw [List.mem_singleton.1 hp]
  refine ⟨by show 0 < (⟨#[97]⟩ : ByteArray).size; decide, ?_, ?_⟩
  · show ∀ x ∈ ints (⟨#[97]⟩ : ByteArray), _
    rw [ints_a]
    decide
  · show ∀ x ∈ ints (valZ n), _
    rw [ints_val]
    intro x hx
    rw [(List.mem_replicate.1 hx).2]
    decide
theorem lenZ (n : Nat) : lenL [pairZ n] = n + 8 := by
  show 2 + 0 + plenN (pairZ n) = n + 8
  unfold plenN pairZ
  rw [val_size]
  show 2 + 0 + (5 + 1 + n) = _
  omega
theorem descZ (n : Nat) : fDesc [pairZ n] = none := firstF_none fun j hj => by
  obtain rfl : j = 0 := by simpa using hj
  rfl
theorem isPairZ (n : Nat) : isPairB (pairZ n) = true := by
  have h := looseZ n (pairZ n) (List.mem_singleton.2 rfl)
  unfold isPairB nonB longB
  rw [List.all_eq_true.2 h.2.1, List.all_eq_true.2 h.2.2]
  have e1 : (pairZ n).1.toList.isEmpty = false := by
    show (⟨#[97]⟩ : ByteArray).toList.isEmpty = false
    kernel_rfl
  have e2 : decide (20 < (pairZ n).1.size) = false := by
    show decide (20 < (⟨#[97]⟩ : ByteArray).size) = false
    decide
  rw [e1, e2]
  rfl
theorem vldZ (n : Nat) : vldP [pairZ n] = decide (n + 8 ≤ 1048576) := by
  unfold vldP
  rw [lenZ, descZ]
  simp [isPairZ]
theorem chkZ (n : Nat) : chk [pairZ n] = none := by
  refine chk_ok (firstF_none fun j hj => ?_) (descZ n) (by simp)
  obtain rfl : j = 0 := by simpa using hj
  show decide (20 < (⟨#[97]⟩ : ByteArray).size) = false
  decide
theorem textZ (n : Nat) : textI [pairZ n] = [123, 34, 97, 34, 58, 34] ++ List.replicate n 120 ++ [34, 125] := by
  have e : [pairZ n] = [] ++ [pairZ n] := rfl
  rw [e, textI_snoc]
  unfold pI pairZ
  rw [ints_a, ints_val]
  rw [show preI ([] : List P2) = [123] from rfl]
  simp
/-- The long text is read to its end, if it is not too long. -/
theorem readZ (n : Nat) (h7 : 7 ≤ n) (hn : n + 8 ≤ 1048576) : readS (textI [pairZ n]) 0 0 = (n + 8, 9) := by
  obtain ⟨k, rfl⟩ : ∃ k, n = k + 7 := ⟨n - 7, by omega⟩
  have e : textI [pairZ (k + 7)] = ([123, 34, 97, 34, 58, 34] ++ List.replicate k 120) ++ ([120, 120, 120, 120, 120, 120, 120, 34, 125] : List Int) := by
    rw [textZ, ← List.replicate_append_replicate]
    simp [List.replicate]
  have hr : run 0 ([123, 34, 97, 34, 58, 34] ++ List.replicate k 120) = some 7 := by
    rw [run_app]
    show run 7 (List.replicate k 120) = some 7
    exact run_value _ fun x hx => by rw [(List.mem_replicate.1 hx).2]; decide
  have hl : ([123, 34, 97, 34, 58, 34] ++ List.replicate k 120 : List Int).length = k + 6 := by simp
  rw [e, readS_app _ _ 0 0 7 hr (by rw [hl]; omega), hl]
  have s7 : stp 7 120 = some 7 := by decide
  have s8 : stp 7 34 = some 8 := by decide
  have s9 : stp 8 125 = some 9 := by decide
  have r7 : restN 7 = 2 := rfl
  have r8 : restN 8 = 1 := rfl
  have r9 : restN 9 = 0 := rfl
  rw [readS_some s7 _ _ (by rw [r7]; omega), readS_some s7 _ _ (by rw [r7]; omega), readS_some s7 _ _ (by rw [r7]; omega), readS_some s7 _ _ (by rw [r7]; omega), readS_some s7 _ _ (by rw [r7]; omega), readS_some s7 _ _ (by rw [r7]; omega), readS_some s7 _ _ (by rw [r7]; omega), readS_some s8 _ _ (by rw [r8]; omega), readS_some s9 _ _ (by rw [r9]; omega)]
  show (_, 9) = _
  congr 1
  omega

end Go.Proofs.YtkhflpnapjoomaaGreatDoor
