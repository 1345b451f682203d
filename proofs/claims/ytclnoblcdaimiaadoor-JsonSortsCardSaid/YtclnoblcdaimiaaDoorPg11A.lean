/- The program's bytes of names and values, the step of its reader, and the reader. -/
import Derived.Test.YtclnoblcdaimiaaDoorJs11A
import Derived.Lib.Hide
import Derived.Handy
namespace Go.Proofs.YtclnoblcdaimiaaDoor
open Go.RowKit
set_option linter.unusedVariables false

theorem pletter_any (c : Int) (w : World) : Calls Tryd.prog 53 #[.int .u8 c] w fun e w' => e = .returned (.bool (letB c)) ∧ w' = w := by
  by_cases h1 : 97 ≤ c
  · by_cases h2 : c ≤ 122
    · have hb : letB c = true := decide_eq_true ⟨h1, h2⟩
      rw [hb]
      clear hb
      go_enter Tryd.func53, Tryd.ntmps53
      go_wp2_with fail
      go_ret
      exact ⟨rfl, rfl⟩
    · have hb : letB c = false := decide_eq_false fun h => h2 h.2
      rw [hb]
      clear hb
      go_enter Tryd.func53, Tryd.ntmps53
      go_wp2_with fail
      go_ret
      exact ⟨rfl, rfl⟩
  · have hb : letB c = false := decide_eq_false fun h => h1 h.1
    rw [hb]
    clear hb
    go_enter Tryd.func53, Tryd.ntmps53
    go_wp2_with fail
    go_ret
    exact ⟨rfl, rfl⟩
theorem pplain_any (c : Int) (w : World) : Calls Tryd.prog 54 #[.int .u8 c] w fun e w' => e = .returned (.bool (plainB c)) ∧ w' = w := by
  by_cases h1 : 32 ≤ c
  · by_cases h2 : c ≤ 126
    · by_cases h3 : c = 34
      · subst h3
        have hb : plainB 34 = false := by decide
        rw [hb]
        clear hb
        go_enter Tryd.func54, Tryd.ntmps54
        go_wp2_with fail
        go_ret
        exact ⟨rfl, rfl⟩
      · by_cases h4 : c = 92
        · subst h4
          have hb : plainB 92 = false := by decide
          rw [hb]
          clear hb
          go_enter Tryd.func54, Tryd.ntmps54
          go_wp2_with fail
          go_ret
          exact ⟨rfl, rfl⟩
        · have hb : plainB c = true := decide_eq_true ⟨h1, h2, h3, h4⟩
          have b3 : (c != 34) = true := by simp [h3]
          have b4 : (c != 92) = true := by simp [h4]
          rw [hb]
          clear hb
          go_enter Tryd.func54, Tryd.ntmps54
          go_wp2_with fail
          go_ret
          exact ⟨rfl, rfl⟩
    · have hb : plainB c = false := decide_eq_false fun h => h2 h.2.1
      rw [hb]
      clear hb
      go_enter Tryd.func54, Tryd.ntmps54
      go_wp2_with fail
      go_ret
      exact ⟨rfl, rfl⟩
  · have hb : plainB c = false := decide_eq_false fun h => h1 h.1
    rw [hb]
    clear hb
    go_enter Tryd.func54, Tryd.ntmps54
    go_wp2_with fail
    go_ret
    exact ⟨rfl, rfl⟩


/-- What a step answers. -/
def StepP (s : Nat) (c : Int) (w : World) (e : Ending) (w' : World) : Prop := ∃ a : Nat, e = .returned (.tuple #[.int .i64 (a : Int), .bool (stp s c).isSome]) ∧ a ≤ 9 ∧ (∀ t, stp s c = some t → a = t) ∧ w' = w
theorem stepP_no {s : Nat} {c : Int} {w : World} (a : Nat) (ha : a ≤ 9) (h : stp s c = none) : StepP s c w (.returned (.tuple #[.int .i64 (a : Int), .bool false])) w := ⟨a, by rw [h]; rfl, ha, fun t ht => (by rw [h] at ht; cases ht), rfl⟩
theorem stepP_yes {s : Nat} {c : Int} {w : World} (a : Nat) (ha : a ≤ 9) (h : stp s c = some a) : StepP s c w (.returned (.tuple #[.int .i64 (a : Int), .bool true])) w := ⟨a, by rw [h]; rfl, ha, fun t ht => (by rw [h] at ht; injection ht), rfl⟩
theorem step_0 (c : Int) (w : World) : Calls Tryd.prog 40 #[.int .i64 0, .int .u8 c] w (StepP 0 c w) := by
  by_cases h : c = 123
  · subst h
    go_enter Tryd.func40, Tryd.ntmps40
    go_wp2_with fail
    go_ret2
    exact stepP_yes 1 (by omega) rfl
  · have hb : (c == 123) = false := by simpa using h
    have hs : stp 0 c = none := by
      unfold stp
      simp [h]
    clear h
    go_enter Tryd.func40, Tryd.ntmps40
    go_wp2_with fail
    go_ret2
    exact stepP_no 1 (by omega) hs
theorem step_2 (c : Int) (w : World) : Calls Tryd.prog 40 #[.int .i64 2, .int .u8 c] w (StepP 2 c w) := by
  by_cases h : c = 34
  · subst h
    go_enter Tryd.func40, Tryd.ntmps40
    go_wp2_with fail
    go_ret2
    exact stepP_yes 3 (by omega) rfl
  · have hb : (c == 34) = false := by simpa using h
    have hs : stp 2 c = none := by
      unfold stp
      simp [h]
    clear h
    go_enter Tryd.func40, Tryd.ntmps40
    go_wp2_with fail
    go_ret2
    exact stepP_no 3 (by omega) hs
theorem step_5 (c : Int) (w : World) : Calls Tryd.prog 40 #[.int .i64 5, .int .u8 c] w (StepP 5 c w) := by
  by_cases h : c = 58
  · subst h
    go_enter Tryd.func40, Tryd.ntmps40
    go_wp2_with fail
    go_ret2
    exact stepP_yes 6 (by omega) rfl
  · have hb : (c == 58) = false := by simpa using h
    have hs : stp 5 c = none := by
      unfold stp
      simp [h]
    clear h
    go_enter Tryd.func40, Tryd.ntmps40
    go_wp2_with fail
    go_ret2
    exact stepP_no 6 (by omega) hs
theorem step_6 (c : Int) (w : World) : Calls Tryd.prog 40 #[.int .i64 6, .int .u8 c] w (StepP 6 c w) := by
  by_cases h : c = 34
  · subst h
    go_enter Tryd.func40, Tryd.ntmps40
    go_wp2_with fail
    go_ret2
    exact stepP_yes 7 (by omega) rfl
  · have hb : (c == 34) = false := by simpa using h
    have hs : stp 6 c = none := by
      unfold stp
      simp [h]
    clear h
    go_enter Tryd.func40, Tryd.ntmps40
    go_wp2_with fail
    go_ret2
    exact stepP_no 7 (by omega) hs
theorem step_1 (c : Int) (w : World) : Calls Tryd.prog 40 #[.int .i64 1, .int .u8 c] w (StepP 1 c w) := by
  by_cases h : c = 125
  · subst h
    go_enter Tryd.func40, Tryd.ntmps40
    go_wp2_with fail
    go_ret2
    exact stepP_yes 9 (by omega) rfl
  · have hb : (c == 125) = false := by simpa using h
    by_cases h2 : c = 34
    · subst h2
      go_enter Tryd.func40, Tryd.ntmps40
      go_wp2_with fail
      go_ret2
      exact stepP_yes 3 (by omega) rfl
    · have hb2 : (c == 34) = false := by simpa using h2
      have hs : stp 1 c = none := by
        unfold stp
        simp [h, h2]
      clear h h2
      go_enter Tryd.func40, Tryd.ntmps40
      go_wp2_with fail
      go_ret2
      exact stepP_no 3 (by omega) hs
theorem step_8 (c : Int) (w : World) : Calls Tryd.prog 40 #[.int .i64 8, .int .u8 c] w (StepP 8 c w) := by
  by_cases h : c = 44
  · subst h
    go_enter Tryd.func40, Tryd.ntmps40
    go_wp2_with fail
    go_ret2
    exact stepP_yes 2 (by omega) rfl
  · have hb : (c == 44) = false := by simpa using h
    by_cases h2 : c = 125
    · subst h2
      go_enter Tryd.func40, Tryd.ntmps40
      go_wp2_with fail
      go_ret2
      exact stepP_yes 9 (by omega) rfl
    · have hb2 : (c == 125) = false := by simpa using h2
      have hs : stp 8 c = none := by
        unfold stp
        simp [h, h2]
      clear h h2
      go_enter Tryd.func40, Tryd.ntmps40
      go_wp2_with fail
      go_ret2
      exact stepP_no 9 (by omega) hs
theorem step_3 (c : Int) (w : World) : Calls Tryd.prog 40 #[.int .i64 3, .int .u8 c] w (StepP 3 c w) := by
  have HL := Lib.hid (pletter_any c w)
  cases hl : letB c with
  | true =>
    rw [hl] at HL
    have HS : Hid (stp 3 c = some 4) := Lib.hid (by unfold stp; simp [hl])
    clear hl
    go_enter Tryd.func40, Tryd.ntmps40
    go_wp2_with fail
    refine HL.out.mono ?_
    rintro e w' ⟨rfl, rfl⟩
    go_wp2_with fail
    go_ret2
    exact stepP_yes 4 (by omega) HS.out
  | false =>
    rw [hl] at HL
    have HS : Hid (stp 3 c = none) := Lib.hid (by unfold stp; simp [hl])
    clear hl
    go_enter Tryd.func40, Tryd.ntmps40
    go_wp2_with fail
    refine HL.out.mono ?_
    rintro e w' ⟨rfl, rfl⟩
    go_wp2_with fail
    go_ret2
    exact stepP_no 4 (by omega) HS.out
theorem step_4 (c : Int) (w : World) : Calls Tryd.prog 40 #[.int .i64 4, .int .u8 c] w (StepP 4 c w) := by
  by_cases h : c = 34
  · subst h
    go_enter Tryd.func40, Tryd.ntmps40
    go_wp2_with fail
    go_ret2
    exact stepP_yes 5 (by omega) rfl
  · have hb : (c == 34) = false := by simpa using h
    have HL := Lib.hid (pletter_any c w)
    cases hl : letB c with
    | true =>
      rw [hl] at HL
      have HS : Hid (stp 4 c = some 4) := Lib.hid (by unfold stp; simp [hl, h])
      clear hl h
      go_enter Tryd.func40, Tryd.ntmps40
      go_wp2_with fail
      refine HL.out.mono ?_
      rintro e w' ⟨rfl, rfl⟩
      go_wp2_with fail
      go_ret2
      exact stepP_yes 4 (by omega) HS.out
    | false =>
      rw [hl] at HL
      have HS : Hid (stp 4 c = none) := Lib.hid (by unfold stp; simp [hl, h])
      clear hl h
      go_enter Tryd.func40, Tryd.ntmps40
      go_wp2_with fail
      refine HL.out.mono ?_
      rintro e w' ⟨rfl, rfl⟩
      go_wp2_with fail
      go_ret2
      exact stepP_no 4 (by omega) HS.out
theorem step_7 (c : Int) (w : World) : Calls Tryd.prog 40 #[.int .i64 7, .int .u8 c] w (StepP 7 c w) := by
  by_cases h : c = 34
  · subst h
    go_enter Tryd.func40, Tryd.ntmps40
    go_wp2_with fail
    go_ret2
    exact stepP_yes 8 (by omega) rfl
  · have hb : (c == 34) = false := by simpa using h
    have HL := Lib.hid (pplain_any c w)
    cases hl : plainB c with
    | true =>
      rw [hl] at HL
      have HS : Hid (stp 7 c = some 7) := Lib.hid (by unfold stp; simp [hl, h])
      clear hl h
      go_enter Tryd.func40, Tryd.ntmps40
      go_wp2_with fail
      refine HL.out.mono ?_
      rintro e w' ⟨rfl, rfl⟩
      go_wp2_with fail
      go_ret2
      exact stepP_yes 7 (by omega) HS.out
    | false =>
      rw [hl] at HL
      have HS : Hid (stp 7 c = none) := Lib.hid (by unfold stp; simp [hl, h])
      clear hl h
      go_enter Tryd.func40, Tryd.ntmps40
      go_wp2_with fail
      refine HL.out.mono ?_
      rintro e w' ⟨rfl, rfl⟩
      go_wp2_with fail
      go_ret2
      exact stepP_no 7 (by omega) HS.out
theorem step_9 (c : Int) (w : World) : Calls Tryd.prog 40 #[.int .i64 9, .int .u8 c] w (StepP 9 c w) := by
  go_enter Tryd.func40, Tryd.ntmps40
  go_wp2_with fail
  go_ret2
  exact stepP_no 9 (by omega) (stp9 c)
theorem step_any (s : Nat) (hs : s ≤ 9) (c : Int) (w : World) : Calls Tryd.prog 40 #[.int .i64 (s : Int), .int .u8 c] w (StepP s c w) := by
  obtain rfl | rfl | rfl | rfl | rfl | rfl | rfl | rfl | rfl | rfl : s = 0 ∨ s = 1 ∨ s = 2 ∨ s = 3 ∨ s = 4 ∨ s = 5 ∨ s = 6 ∨ s = 7 ∨ s = 8 ∨ s = 9 := by omega
  · exact step_0 c w
  · exact step_1 c w
  · exact step_2 c w
  · exact step_3 c w
  · exact step_4 c w
  · exact step_5 c w
  · exact step_6 c w
  · exact step_7 c w
  · exact step_8 c w
  · exact step_9 c w

end Go.Proofs.YtclnoblcdaimiaaDoor
