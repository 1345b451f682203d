/- Words of a label: the program's isForeign, isWord. -/
import Derived.Test.YtnnonidiogoffaaGreatDoorRf12B
import Derived.Test.YtnnonidiogoffaaGreatDoorShelf
import Derived.Test.YtnnonidiogoffaaGreatDoorImpH
import Derived.Shelf.GgClosure.StringsRunes
namespace Go.Proofs.YtnnonidiogoffaaGreatDoor
open Go.RowKit Go.Lib
set_option linter.unusedVariables false

set_option maxRecDepth 100000 in
theorem foreign_any (c : Int) (w : World) : Calls Tryz.prog 57 #[.int .i32 c] w fun e w' => e = .returned (.bool (!upB c)) ∧ w' = w := by
  rcases (show c < 48 ∨ (48 ≤ c ∧ c ≤ 57) ∨ (57 < c ∧ c < 65) ∨ (65 ≤ c ∧ c ≤ 90) ∨ 90 < c by omega) with hcs | hcs | hcs | hcs | hcs
  · have HU : Hid ((!upB c) = true) := Lib.hid (by simp [upB]; omega)
    have hf0 : c < 65 := by omega
    have hf1 : c < 48 := by omega
    clear hcs
    go_enter Tryz.func57, Tryz.ntmps57
    go_wp2_with fail
    go_ret
    exact ⟨congrArg (fun b => Ending.returned (Value.bool b)) HU.out.symm, rfl⟩
  · have HU : Hid ((!upB c) = false) := Lib.hid (by simp [upB]; omega)
    have hf0 : c < 65 := by omega
    have hf1 : ¬ c < 48 := by omega
    have hf2 : ¬ 57 < c := by omega
    clear hcs
    go_enter Tryz.func57, Tryz.ntmps57
    go_wp2_with fail
    go_ret
    exact ⟨congrArg (fun b => Ending.returned (Value.bool b)) HU.out.symm, rfl⟩
  · have HU : Hid ((!upB c) = true) := Lib.hid (by simp [upB]; omega)
    have hf0 : c < 65 := by omega
    have hf1 : ¬ c < 48 := by omega
    have hf2 : 57 < c := by omega
    clear hcs
    go_enter Tryz.func57, Tryz.ntmps57
    go_wp2_with fail
    go_ret
    exact ⟨congrArg (fun b => Ending.returned (Value.bool b)) HU.out.symm, rfl⟩
  · have HU : Hid ((!upB c) = false) := Lib.hid (by simp [upB]; omega)
    have hf0 : ¬ c < 65 := by omega
    have hf1 : ¬ 90 < c := by omega
    clear hcs
    go_enter Tryz.func57, Tryz.ntmps57
    go_wp2_with fail
    go_ret
    exact ⟨congrArg (fun b => Ending.returned (Value.bool b)) HU.out.symm, rfl⟩
  · have HU : Hid ((!upB c) = true) := Lib.hid (by simp [upB]; omega)
    have hf0 : ¬ c < 65 := by omega
    have hf1 : 90 < c := by omega
    have hf2 : ¬ c < 48 := by omega
    have hf3 : 57 < c := by omega
    clear hcs
    go_enter Tryz.func57, Tryz.ntmps57
    go_wp2_with fail
    go_ret
    exact ⟨congrArg (fun b => Ending.returned (Value.bool b)) HU.out.symm, rfl⟩
/-- A byte that begins a rune beyond ASCII. -/
theorem dec_hi (s : ByteArray) (pos : Nat) (h : 128 ≤ (s.get! pos).toNat) : upB (((Utf8.decode s pos).1 : Nat) : Int) = false := by
  have : 128 ≤ (Utf8.decode s pos).1 := by
    rw [decode_at]
    unfold decodeN
    rw [if_neg (by omega)]
    repeat' split
    all_goals (try simp only [])
    all_goals omega
  simp [upB]
  omega
theorem dec_lo (s : ByteArray) (pos : Nat) (h : (s.get! pos).toNat < 128) : Utf8.decode s pos = ((s.get! pos).toNat, 1) := by
  rw [decode_at]
  unfold decodeN
  rw [if_pos h]
theorem get_ints (s : ByteArray) (pos : Nat) (h : pos < s.size) : (ints s).getD pos 0 = ((s.get! pos).toNat : Int) := by
  rw [ints_at s pos h]
  congr 1
  show s[pos].toNat = (s.data[pos]!).toNat
  rw [getElem!_pos s.data pos h]
  rfl
theorem idxF_from (s : ByteArray) : ∀ f pos, s.size ≤ pos + f → decide (0 ≤ Lib.idxFuncFrom (fun x : Nat => !upB (x : Int)) true s f pos) = !(((ints s).drop pos).all upB) := by
  intro f
  induction f with
  | zero =>
    intro pos h
    rw [List.drop_eq_nil_of_le (by rw [ints_len]; omega)]
    rfl
  | succ f ih =>
    intro pos h
    unfold Lib.idxFuncFrom
    by_cases hp : pos < s.size
    · rw [if_pos hp, drop_at (by rw [ints_len]; exact hp), get_ints s pos hp, List.all_cons]
      by_cases h8 : (s.get! pos).toNat < 128
      · rw [dec_lo s pos h8]
        cases hu : upB ((s.get! pos).toNat : Int) with
        | true =>
          simp only [Bool.not_true, Bool.true_and]
          exact ih (pos + 1) (by omega)
        | false =>
          simp
      · have := dec_hi s pos (by omega)
        have h2 : upB ((s.get! pos).toNat : Int) = false := by simp [upB]; omega
        rw [if_pos (by rw [this]; rfl), h2]
        simp
    · rw [if_neg hp, List.drop_eq_nil_of_le (by rw [ints_len]; omega)]
      rfl
theorem idxF_any (s : ByteArray) : decide (0 ≤ Lib.idxFunc (fun x : Nat => !upB (x : Int)) true s) = !((ints s).all upB) := idxF_from s s.size 0 (by omega)

theorem contains_any (s : ByteArray) (w : World) : Calls Tryz.prog 56 #[.string s, .func (.func 57) #[] #[]] w fun e w' => e = .returned (.bool (!((ints s).all upB))) ∧ Past w w' := by
  have h := Tryz.strings_ContainsFunc_runes 57 #[] (enters_of Tryz.func57 (by kernel_rfl) rfl) (fun x : Nat => !upB (x : Int)) s w (fun W x _ _ => (foreign_any (x : Int) W).mono fun e w' he => ⟨he.1, 0, he.2⟩)
  rw [idxF_any s] at h
  exact h
theorem wordB_iff (l : List Int) : wordB l = (decide (0 < l.length) && (decide (l.length ≤ 20) && l.all upB)) := by rw [wordB, Bool.and_assoc]

set_option maxRecDepth 100000 in
theorem isWord_any (s : ByteArray) (w : World) : Calls Tryz.prog 33 #[.string s] w fun e w' => e = .returned (.bool (wordB (ints s))) ∧ Past w w' := by
  have HC := Lib.hid (contains_any s w)
  have hz := ints_len s
  by_cases h0 : s.size = 0
  · have HU : Hid (wordB (ints s) = false) := Lib.hid (by rw [wordB_iff, hz, h0]; rfl)
    have hs : s = ⟨#[]⟩ := ints_eq (List.length_eq_zero_iff.1 (hz.trans h0))
    subst hs
    clear hz h0 HC
    go_enter Tryz.func33, Tryz.ntmps33
    go_wp2_with fail
    go_ret
    exact ⟨congrArg (fun b => Ending.returned (Value.bool b)) HU.out.symm, Below.refl _ _⟩
  · have hne : (s.toList == []) = false := eqs_size (by omega)
    have hemp : s.toList.isEmpty = false := by
      cases hl : s.toList with
      | nil => rw [hl] at hne; cases hne
      | cons => rfl
    by_cases h20 : s.size ≤ 20
    · have h20i : (s.size : Int) ≤ 20 := by omega
      have HU : Hid (wordB (ints s) = !(!((ints s).all upB))) := Lib.hid (by rw [wordB_iff, hz, decide_eq_true (show 0 < s.size by omega), decide_eq_true h20]; simp)
      obtain ⟨r, hr⟩ : ∃ r, (!((ints s).all upB)) = r := ⟨_, rfl⟩
      rw [hr] at HC HU
      clear hz h0 h20 hr
      go_enter Tryz.func33, Tryz.ntmps33
      go_wp2_with fail
      refine (HC.out).mono ?_
      rintro e w' ⟨rfl, hp⟩
      have HP := Lib.hid hp
      clear hp
      go_wp2_with fail
      go_ret
      exact ⟨congrArg (fun b => Ending.returned (Value.bool b)) HU.out.symm, HP.out⟩
    · have h20i : ¬ (s.size : Int) ≤ 20 := by omega
      have HU : Hid (wordB (ints s) = false) := Lib.hid (by rw [wordB_iff, hz, decide_eq_false h20]; simp)
      clear hz h0 h20 HC
      go_enter Tryz.func33, Tryz.ntmps33
      go_wp2_with fail
      go_ret
      exact ⟨congrArg (fun b => Ending.returned (Value.bool b)) HU.out.symm, Below.refl _ _⟩
end Go.Proofs.YtnnonidiogoffaaGreatDoor
