/- The reference's Valid of a list of arcs. -/
import Derived.Test.YtnjoccmjembppaaDoorSlK9
namespace Go.Proofs.YtnjoccmjembppaaDoor
open Go.RowKit

/-- An identifier. -/
def okL (l : List Int) : Bool := decide (2 ≤ l.length ∧ l.length ≤ 20 ∧ l.getD 0 0 ≤ 2 ∧ (l.getD 0 0 < 2 → l.getD 1 0 ≤ 39) ∧ ∀ i, i < l.length → l.getD i 0 < 4294967216)
theorem okL_true {l : List Int} (h : okL l = true) : 2 ≤ l.length ∧ l.length ≤ 20 ∧ l.getD 0 0 ≤ 2 ∧ (l.getD 0 0 < 2 → l.getD 1 0 ≤ 39) ∧ ∀ i, i < l.length → l.getD i 0 < 4294967216 := of_decide_eq_true h

set_option maxHeartbeats 1000000 in
theorem rvalid_any (A : Option Addr) (n c : Nat) (l : List Int) (w : World) (h : SlK .u32 w A n c l) (hr : ∀ x ∈ l, 0 ≤ x ∧ x < 4294967296) :
    Calls Tryd.prog 16 #[.slice A n c] w fun e w' => e = .returned (.bool (okL l)) ∧ w = w' := by
  have hl := h.len
  have hcm := h.big
  have hcp := h.cap
  unfold maxLen at hcm
  have HF : Hid (∀ p : Prop, (okL l = true → p) → ¬ p → okL l = false) := Lib.hid fun p h1 h2 => by
    cases hq : okL l with
    | false => rfl
    | true => exact absurd (h1 hq) h2
  by_cases h2 : n < 2
  · have hf := HF.out (2 ≤ n) (fun hq => by have := (okL_true hq).1; omega) (by omega)
    rw [hf]
    have h2i : (n : Int) < 2 := by omega
    clear h hl HF hf h2 hr
    go_enter Tryd.func16, Tryd.ntmps16
    go_wp2
    go_ret
    exact ⟨rfl, rfl⟩
  · by_cases h20 : 20 < n
    · have hf := HF.out (n ≤ 20) (fun hq => by have := (okL_true hq).2.1; omega) (by omega)
      rw [hf]
      have h2i : ¬ (n : Int) < 2 := by omega
      have h20i : (20 : Int) < (n : Int) := by omega
      clear h hl HF hf h2 h20 hr
      go_enter Tryd.func16, Tryd.ntmps16
      go_wp2
      go_ret
      exact ⟨rfl, rfl⟩
    · obtain ⟨b, o, rfl, hc⟩ := h.cells (by omega)
      have c0 := hc 0 (by omega)
      have c1 := hc 1 (by omega)
      rw [Nat.add_zero] at c0
      have r0 := getD_rngK (by omega) hr 0
      have r1 := getD_rngK (by omega) hr 1
      have h2i : ¬ (n : Int) < 2 := by omega
      have h20i : ¬ (20 : Int) < (n : Int) := by omega
      have h1i : (1 : Int) < (n : Int) := by omega
      have h0i : (0 : Int) < (n : Int) := by omega
      have H := Lib.hid h
      obtain ⟨x0, hx0⟩ : ∃ x, l.getD 0 0 = x := ⟨_, rfl⟩
      obtain ⟨x1, hx1⟩ : ∃ x, l.getD 1 0 = x := ⟨_, rfl⟩
      rw [hx0] at c0 r0
      rw [hx1] at c1 r1
      have HX := Lib.hid (And.intro hx0 hx1)
      have HC := Lib.hid hc
      obtain ⟨r00, r01⟩ := r0
      obtain ⟨r10, r11⟩ := r1
      clear h hc hx0 hx1
      by_cases q0 : 2 < x0
      · have hf := HF.out (x0 ≤ 2) (fun hq => by have := (okL_true hq).2.2.1; rw [HX.out.1] at this; exact this) (by omega)
        rw [hf]
        clear hl HF hf hr h2 h20
        go_enter Tryd.func16, Tryd.ntmps16
        go_wp2
        go_ret
        exact ⟨rfl, rfl⟩
      · by_cases q1 : x0 < 2 ∧ 39 < x1
        · obtain ⟨q1, q2⟩ := q1
          have hf := HF.out (x1 ≤ 39) (fun hq => by have := (okL_true hq).2.2.2.1; rw [HX.out.1, HX.out.2] at this; exact this q1) (by omega)
          rw [hf]
          clear hl HF hf hr h2 h20
          go_enter Tryd.func16, Tryd.ntmps16
          go_wp2
          go_ret
          exact ⟨rfl, rfl⟩
        · have HA : Hid (2 ≤ n ∧ n ≤ 20 ∧ x0 ≤ 2 ∧ (x0 < 2 → x1 ≤ 39)) := Lib.hid ⟨by omega, by omega, by omega, by omega⟩
          have HQ0 : Hid (x0 < 2 → ¬ 39 < x1) := Lib.hid (by omega)
          generalize hok : okL l = r at *
          have HOK := Lib.hid hok
          have HL := Lib.hid hl
          have HR := Lib.hid hr
          clear q1 hok hl hr h2 h20 HF
          by_cases p1 : x0 < 2
          · have p2 : ¬ 39 < x1 := HQ0.out p1
            clear HQ0
            go_enter Tryd.func16, Tryd.ntmps16
            go_wp2_with fail
            go_loopg [3] n (fun k s3 wx => ∃ i : Nat, i ≤ n ∧ k = n - i ∧ s3 = .int .i64 (i : Int) ∧ Hid (∀ j, j < i → l.getD j 0 < 4294967216) ∧ Hid (w = wx))
            case atStart => exact ⟨0, Nat.zero_le _, rfl, rfl, Lib.hid (fun j hj => absurd hj (Nat.not_lt_zero _)), Lib.hid rfl⟩
            case round =>
              obtain ⟨i, hi, hgk, rfl, HE, HW⟩ := hrel
              have HGK := Lib.hid hgk
              clear hgk
              obtain rfl := HW.out
              by_cases hlt : i < n
              · have hx := HC.out i hlt
                have hxr := getD_rngK (by omega) HR.out i
                obtain ⟨y, hy⟩ : ∃ y, l.getD i 0 = y := ⟨_, rfl⟩
                rw [hy] at hx hxr
                have HY := Lib.hid hy
                obtain ⟨hy0, hy1⟩ := hxr
                clear hy
                have hi0 : (0 : Int) ≤ (i : Int) := by omega
                have hin : (i : Int) < (n : Int) := by omega
                by_cases hb : 4294967216 ≤ y
                · have hr0 : r = false := by
                    rw [← HOK.out]
                    cases hq : okL l with
                    | false => rfl
                    | true =>
                      have := (okL_true hq).2.2.2.2 i (by rw [HL.out]; exact hlt)
                      rw [HY.out] at this
                      omega
                  have HR0 := Lib.hid hr0
                  clear hr0
                  go_wp2_with fail
                  go_ret
                  exact ⟨by rw [HR0.out]; rfl, rfl⟩
                · have HE2 : Hid (∀ j, j < i + 1 → l.getD j 0 < 4294967216) := Lib.hid fun j hj => by
                    by_cases e : j = i
                    · subst e
                      rw [HY.out]
                      omega
                    · exact HE.out j (by omega)
                  go_wp2_with fail
                  go_roundg (n - (i + 1))
                  case rel => exact ⟨i + 1, by omega, rfl, by go_num, HE2, Lib.hid rfl⟩
                  case measure => have := HGK.out; omega
              · obtain rfl : i = n := by omega
                have hr1 : r = true := by
                  rw [← HOK.out]
                  refine decide_eq_true ?_
                  obtain ⟨q1, q2, q3, q4⟩ := HA.out
                  rw [HL.out, HX.out.1, HX.out.2]
                  exact ⟨q1, q2, q3, q4, fun j hj => HE.out j hj⟩
                have HR1 := Lib.hid hr1
                clear hr1
                go_wp2_with fail
                go_ret
                exact ⟨by rw [HR1.out]; rfl, rfl⟩
          · clear HQ0
            go_enter Tryd.func16, Tryd.ntmps16
            go_wp2_with fail
            go_loopg [3] n (fun k s3 wx => ∃ i : Nat, i ≤ n ∧ k = n - i ∧ s3 = .int .i64 (i : Int) ∧ Hid (∀ j, j < i → l.getD j 0 < 4294967216) ∧ Hid (w = wx))
            case atStart => exact ⟨0, Nat.zero_le _, rfl, rfl, Lib.hid (fun j hj => absurd hj (Nat.not_lt_zero _)), Lib.hid rfl⟩
            case round =>
              obtain ⟨i, hi, hgk, rfl, HE, HW⟩ := hrel
              have HGK := Lib.hid hgk
              clear hgk
              obtain rfl := HW.out
              by_cases hlt : i < n
              · have hx := HC.out i hlt
                have hxr := getD_rngK (by omega) HR.out i
                obtain ⟨y, hy⟩ : ∃ y, l.getD i 0 = y := ⟨_, rfl⟩
                rw [hy] at hx hxr
                have HY := Lib.hid hy
                obtain ⟨hy0, hy1⟩ := hxr
                clear hy
                have hi0 : (0 : Int) ≤ (i : Int) := by omega
                have hin : (i : Int) < (n : Int) := by omega
                by_cases hb : 4294967216 ≤ y
                · have hr0 : r = false := by
                    rw [← HOK.out]
                    cases hq : okL l with
                    | false => rfl
                    | true =>
                      have := (okL_true hq).2.2.2.2 i (by rw [HL.out]; exact hlt)
                      rw [HY.out] at this
                      omega
                  have HR0 := Lib.hid hr0
                  clear hr0
                  go_wp2_with fail
                  go_ret
                  exact ⟨by rw [HR0.out]; rfl, rfl⟩
                · have HE2 : Hid (∀ j, j < i + 1 → l.getD j 0 < 4294967216) := Lib.hid fun j hj => by
                    by_cases e : j = i
                    · subst e
                      rw [HY.out]
                      omega
                    · exact HE.out j (by omega)
                  go_wp2_with fail
                  go_roundg (n - (i + 1))
                  case rel => exact ⟨i + 1, by omega, rfl, by go_num, HE2, Lib.hid rfl⟩
                  case measure => have := HGK.out; omega
              · obtain rfl : i = n := by omega
                have hr1 : r = true := by
                  rw [← HOK.out]
                  refine decide_eq_true ?_
                  obtain ⟨q1, q2, q3, q4⟩ := HA.out
                  rw [HL.out, HX.out.1, HX.out.2]
                  exact ⟨q1, q2, q3, q4, fun j hj => HE.out j hj⟩
                have HR1 := Lib.hid hr1
                clear hr1
                go_wp2_with fail
                go_ret
                exact ⟨by rw [HR1.out]; rfl, rfl⟩

end Go.Proofs.YtnjoccmjembppaaDoor
