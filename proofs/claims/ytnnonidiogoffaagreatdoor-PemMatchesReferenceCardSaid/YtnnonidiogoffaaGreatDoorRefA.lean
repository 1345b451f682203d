/- Contracts of the reference of base 64: the digit of a value and the value of a digit. -/
import Derived.Test.YtnnonidiogoffaaGreatDoorRows
import Derived.Test.YtnnonidiogoffaaGreatDoorBase
import Derived.Deep.QuietTactic
import Derived.BigQuiet
namespace Go.Proofs.YtnnonidiogoffaaGreatDoor
open Go.RowKit

def isAl (al : Int) : Bool := decide (al = 1 ∨ al = 2)
/-- The digit of a value; 0 if there is none. -/
def dig (al v : Int) : Int :=
  if isAl al = false ∨ v < 0 ∨ 63 < v then 0 else if v < 26 then 65 + v else if v < 52 then 71 + v else if v < 62 then v - 4
  else if al = 1 then (if v = 62 then 43 else 47) else (if v = 62 then 45 else 95)
theorem dig_rng (al v : Int) : 0 ≤ dig al v ∧ dig al v < 128 := by
  unfold dig
  repeat' split
  all_goals omega
theorem al_cases {al : Int} (h : isAl al = true) : al = 1 ∨ al = 2 := by simpa [isAl] using h
theorem al_no {al : Int} (h : isAl al = false) : al ≠ 1 ∧ al ≠ 2 := by simpa [isAl] using h

theorem dig_in (al v : Int) (ha : isAl al = true) (h0 : 0 ≤ v) (h1 : v ≤ 63) : dig al v = if v < 26 then 65 + v else if v < 52 then 71 + v else if v < 62 then v - 4
    else if al = 1 then (if v = 62 then 43 else 47) else (if v = 62 then 45 else 95) := by
  unfold dig
  rw [if_neg]
  rw [ha]
  simp
  omega
theorem ret_int8 {k : IntKind} {a b : Int} (h : a = b) : Ending.returned (.int k a) = .returned (.int k b) := by rw [h]

set_option maxRecDepth 100000 in
theorem rdigit_any (al v : Int) (w : World) : Calls Tryz.prog 55 #[.int .i64 al, .int .i64 v] w fun e w' => e = .returned (.int .u8 (dig al v)) ∧ w = w' := by
  cases hal : isAl al with
  | false =>
    have hd : dig al v = 0 := by unfold dig; rw [if_pos (.inl hal)]
    rw [hd]
    obtain ⟨h1, h2⟩ := al_no hal
    have n1 : (al != 1) = true := by simpa using h1
    have n2 : (al != 2) = true := by simpa using h2
    clear hal hd h1 h2
    go_enter Tryz.func55, Tryz.ntmps55
    go_wp2
    go_ret
    exact ⟨rfl, rfl⟩
  | true =>
    by_cases h0 : v < 0 ∨ 63 < v
    · have hd : dig al v = 0 := by unfold dig; rw [if_pos (.inr h0)]
      rw [hd]
      clear hd
      rcases al_cases hal with rfl | rfl <;> rcases h0 with h0 | h0
      all_goals
        clear hal
        go_enter Tryz.func55, Tryz.ntmps55
        go_wp2
        go_ret
        exact ⟨rfl, rfl⟩
    · have hd := dig_in al v hal (by omega) (by omega)
      have h1 : 0 ≤ v := by omega
      have h2 : v ≤ 63 := by omega
      clear h0
      by_cases h26 : v < 26
      · rw [hd, if_pos h26]
        rcases al_cases hal with rfl | rfl
        all_goals
          clear hal hd
          go_enter Tryz.func55, Tryz.ntmps55
          go_wp2
          go_ret
          exact ⟨ret_int8 (by omega), rfl⟩
      · by_cases h52 : v < 52
        · rw [hd, if_neg h26, if_pos h52]
          rcases al_cases hal with rfl | rfl
          all_goals
            clear hal hd
            go_enter Tryz.func55, Tryz.ntmps55
            go_wp2
            go_ret
            exact ⟨ret_int8 (by omega), rfl⟩
        · by_cases h62 : v < 62
          · rw [hd, if_neg h26, if_neg h52, if_pos h62]
            rcases al_cases hal with rfl | rfl
            all_goals
              clear hal hd
              go_enter Tryz.func55, Tryz.ntmps55
              go_wp2
              go_ret
              exact ⟨ret_int8 (by omega), rfl⟩
          · rw [hd, if_neg h26, if_neg h52, if_neg h62]
            have h3 : v = 62 ∨ v = 63 := by omega
            clear hd h1 h2 h26 h52 h62
            rcases al_cases hal with rfl | rfl <;> rcases h3 with rfl | rfl
            all_goals
              clear hal
              go_enter Tryz.func55, Tryz.ntmps55
              go_wp2
              go_ret
              exact ⟨rfl, rfl⟩

/-- The value of a digit; -1 if there is none. -/
def rval (al d : Int) : Int := match (List.range 64).find? (fun v : Nat => d != 0 && dig al (v : Int) == d) with
  | some v => (v : Int)
  | none => -1
theorem rval_hit {al d : Int} {j : Nat} (hj : j < 64) (h0 : d ≠ 0) (h : dig al (j : Int) = d) (hb : ∀ t : Nat, t < j → ¬ (d ≠ 0 ∧ dig al (t : Int) = d)) : rval al d = (j : Int) := by
  have e : (List.range 64).find? (fun v : Nat => d != 0 && dig al (v : Int) == d) = some j := by
    rw [List.find?_eq_some_iff_getElem]
    refine ⟨by simp [h0, h], j, by simpa using hj, by simp, fun t ht => ?_⟩
    have := hb t ht
    simp only [List.getElem_range, Bool.not_eq_true', Bool.and_eq_false_imp, bne_iff_ne, beq_eq_false_iff_ne]
    exact fun h1 h2 => this ⟨h1, h2⟩
  unfold rval
  rw [e]
theorem rval_miss {al d : Int} (hb : ∀ t : Nat, t < 64 → ¬ (d ≠ 0 ∧ dig al (t : Int) = d)) : rval al d = -1 := by
  have e : (List.range 64).find? (fun v : Nat => d != 0 && dig al (v : Int) == d) = none := by
    rw [List.find?_eq_none]
    intro t ht
    have := hb t (by simpa using ht)
    simp only [Bool.and_eq_true, bne_iff_ne, beq_iff_eq]
    exact this
  unfold rval
  rw [e]

set_option maxRecDepth 100000 in
theorem rvalue_any (al d : Int) (w : World) (h0 : 0 ≤ d) (h1 : d < 256) : Calls Tryz.prog 45 #[.int .i64 al, .int .u8 d] w fun e w' => e = .returned (.int .i64 (rval al d)) ∧ w = w' := by
  go_enter Tryz.func45, Tryz.ntmps45
  go_wp2
  go_loop [5] (fun i => ∃ j : Nat, j ≤ 64 ∧ i = .int .i64 (j : Int) ∧ Hid (∀ t : Nat, t < j → ¬ (d ≠ 0 ∧ dig al (t : Int) = d))) (fun i => 64 - (intOf i).toNat)
  case atStart => exact ⟨0, Nat.zero_le _, rfl, fun t ht => absurd ht (Nat.not_lt_zero _)⟩
  case round =>
    obtain ⟨j, hj, rfl, HB⟩ := hrel
    by_cases hlt : j < 64
    · by_cases hd : d = 0
      · subst hd
        have HB2 : Hid (∀ t : Nat, t < j + 1 → ¬ ((0 : Int) ≠ 0 ∧ dig al (t : Int) = 0)) := fun t _ h => h.1 rfl
        go_wp2
        go_round
        case rel => exact ⟨j + 1, by omega, by go_num, HB2⟩
        case measure => simp [intOf]; omega
      · have hd1 : (d != 0) = true := by simpa using hd
        have HD := Lib.hid hd
        clear hd
        by_cases he : dig al (j : Int) = d
        · have he1 : (dig al (j : Int) == d) = true := by simpa using he
          have HR : Hid (rval al d = (j : Int)) := rval_hit hlt HD.out he HB.out
          have HE := Lib.hid (rdigit_any al (j : Int))
          clear he
          generalize dig al (j : Int) = dj at he1 HE
          go_wp2_with fail
          refine (HE.out _).mono ?_
          rintro e w' ⟨rfl, rfl⟩
          go_wp2_with fail
          go_ret
          exact ⟨by rw [HR.out]; rfl, rfl⟩
        · have he1 : (dig al (j : Int) == d) = false := by simpa using he
          have HB2 : Hid (∀ t : Nat, t < j + 1 → ¬ (d ≠ 0 ∧ dig al (t : Int) = d)) := fun t ht => by
            rcases Nat.lt_succ_iff_lt_or_eq.1 ht with h | rfl
            · exact HB.out t h
            · exact fun h => he h.2
          have HE := Lib.hid (rdigit_any al (j : Int))
          clear he HB
          generalize dig al (j : Int) = dj at he1 HE
          go_wp2_with fail
          refine (HE.out _).mono ?_
          rintro e w' ⟨rfl, rfl⟩
          go_wp2_with fail
          go_round
          case rel => exact ⟨j + 1, by omega, by go_num, HB2⟩
          case measure => simp [intOf]; omega
    · obtain rfl : j = 64 := by omega
      have HR : Hid (rval al d = -1) := rval_miss HB.out
      go_wp2
      go_ret
      exact ⟨by rw [HR.out]; rfl, rfl⟩

end Go.Proofs.YtnnonidiogoffaaGreatDoor
