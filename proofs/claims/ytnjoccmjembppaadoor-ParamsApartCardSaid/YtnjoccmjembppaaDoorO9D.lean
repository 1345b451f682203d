/- The program's Valid. -/
import Derived.Test.YtnjoccmjembppaaDoorO9C
namespace Go.Proofs.YtnjoccmjembppaaDoor
open Go.RowKit
set_option linter.unusedVariables false

set_option maxHeartbeats 1000000 in
theorem pvalid_any (A : Option Addr) (n c : Nat) (l : List Int) (w : World) (h : SlK .u32 w A n c l) (hr : Rng l) (hn : n ≤ 1000) :
    Calls Tryd.prog 39 #[.slice A n c] w fun e w' => e = .returned (.bool (okL l)) ∧ w = w' := by
  have hl := h.len
  have HF : Hid (∀ p : Prop, (okL l = true → p) → ¬ p → okL l = false) := Lib.hid fun p h1 h2 => by
    cases hq : okL l with
    | false => rfl
    | true => exact absurd (h1 hq) h2
  by_cases h2 : n < 2
  · have hf := HF.out (2 ≤ n) (fun hq => by have := (okL_true hq).1; omega) (by omega)
    rw [hf]
    have h2i : (n : Int) < 2 := by omega
    clear h hl HF hf h2 hr
    go_enter Tryd.func39, Tryd.ntmps39
    go_wp2
    go_ret
    exact ⟨rfl, rfl⟩
  · by_cases h20 : 20 < n
    · have hf := HF.out (n ≤ 20) (fun hq => by have := (okL_true hq).2.1; omega) (by omega)
      rw [hf]
      have h2i : ¬ (n : Int) < 2 := by omega
      have h20i : (20 : Int) < (n : Int) := by omega
      clear h hl HF hf h2 h20 hr
      go_enter Tryd.func39, Tryd.ntmps39
      go_wp2
      go_ret
      exact ⟨rfl, rfl⟩
    · obtain ⟨b, o, rfl, hc⟩ := h.cells (by omega)
      have HMx := Lib.hid (max_any b o n c l w h hr (by omega) hn)
      have c0 := hc 0 (by omega)
      have c1 := hc 1 (by omega)
      rw [Nat.add_zero] at c0
      have r0 := getD_rngK (by omega) hr 0
      have r1 := getD_rngK (by omega) hr 1
      have h2i : ¬ (n : Int) < 2 := by omega
      have h20i : ¬ (20 : Int) < (n : Int) := by omega
      have h1i : (1 : Int) < (n : Int) := by omega
      have h0i : (0 : Int) < (n : Int) := by omega
      obtain ⟨x0, hx0⟩ : ∃ x, l.getD 0 0 = x := ⟨_, rfl⟩
      obtain ⟨x1, hx1⟩ : ∃ x, l.getD 1 0 = x := ⟨_, rfl⟩
      rw [hx0] at c0 r0
      rw [hx1] at c1 r1
      have HX := Lib.hid (And.intro hx0 hx1)
      obtain ⟨r00, r01⟩ := r0
      obtain ⟨r10, r11⟩ := r1
      clear h hc hx0 hx1
      by_cases q0 : 2 < x0
      · have hf := HF.out (x0 ≤ 2) (fun hq => by have := (okL_true hq).2.2.1; rw [HX.out.1] at this; exact this) (by omega)
        rw [hf]
        clear hl HF hf hr h2 h20
        go_enter Tryd.func39, Tryd.ntmps39
        go_wp2
        go_ret
        exact ⟨rfl, rfl⟩
      · by_cases q1 : x0 < 2 ∧ 40 ≤ x1
        · obtain ⟨q1, q2⟩ := q1
          have hf := HF.out (x1 ≤ 39) (fun hq => by have := (okL_true hq).2.2.2.1; rw [HX.out.1, HX.out.2] at this; exact this q1) (by omega)
          rw [hf]
          clear hl HF hf hr h2 h20
          go_enter Tryd.func39, Tryd.ntmps39
          go_wp2
          go_ret
          exact ⟨rfl, rfl⟩
        · have HE : Hid (∀ m : Int, ((∀ j, j < n → l.getD j 0 < 4294967216) ↔ m < 4294967216) → decide (m < 4294967216) = okL l) := Lib.hid fun m hm => by
            rw [Bool.eq_iff_iff, decide_eq_true_iff]
            constructor
            · intro h
              refine decide_eq_true ?_
              rw [hl, HX.out.1, HX.out.2]
              exact ⟨by omega, by omega, by omega, by omega, fun j hj => hm.2 h j (by omega)⟩
            · intro h
              exact hm.1 fun j hj => (okL_true h).2.2.2.2 j (by omega)
          have HQ0 : Hid (x0 < 2 → ¬ 40 ≤ x1) := Lib.hid (by omega)
          clear q1 hl hr h2 h20 HF
          by_cases p1 : x0 < 2
          · have p2 : ¬ 40 ≤ x1 := HQ0.out p1
            clear HQ0
            go_enter Tryd.func39, Tryd.ntmps39
            go_wp2_with fail
            refine HMx.out.mono ?_
            rintro e w' ⟨rfl, m, rfl, hm0, hm1, hm⟩
            have HM := Lib.hid hm
            clear hm
            go_wp2_with fail
            go_ret
            exact ⟨by rw [← HE.out m HM.out]; rfl, rfl⟩
          · clear HQ0
            go_enter Tryd.func39, Tryd.ntmps39
            go_wp2_with fail
            refine HMx.out.mono ?_
            rintro e w' ⟨rfl, m, rfl, hm0, hm1, hm⟩
            have HM := Lib.hid hm
            clear hm
            go_wp2_with fail
            go_ret
            exact ⟨by rw [← HE.out m HM.out]; rfl, rfl⟩

end Go.Proofs.YtnjoccmjembppaaDoor
