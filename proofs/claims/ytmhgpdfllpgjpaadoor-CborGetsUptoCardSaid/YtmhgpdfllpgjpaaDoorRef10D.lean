/- The reference's order of two strings. -/
import Derived.Test.YtmhgpdfllpgjpaaDoorRef10C
namespace Go.Proofs.YtmhgpdfllpgjpaaDoor
open Go.RowKit
set_option linter.unusedVariables false

/-- Whether a string comes before another one. -/
def befB : List Int → List Int → Bool
  | [], ys => !ys.isEmpty
  | _ :: _, [] => false
  | x :: xs, y :: ys => if x = y then befB xs ys else decide (x < y)
theorem befB_step {xs ys : List Int} {i : Nat} (hx : i < xs.length) (hy : i < ys.length) : befB (xs.drop i) (ys.drop i) = if xs.getD i 0 = ys.getD i 0 then befB (xs.drop (i + 1)) (ys.drop (i + 1)) else decide (xs.getD i 0 < ys.getD i 0) := by
  rw [List.drop_eq_getElem_cons hx, List.drop_eq_getElem_cons hy]
  have e1 : xs.getD i 0 = xs[i] := by rw [List.getD_eq_getElem?_getD, List.getElem?_eq_getElem hx]; rfl
  have e2 : ys.getD i 0 = ys[i] := by rw [List.getD_eq_getElem?_getD, List.getElem?_eq_getElem hy]; rfl
  rw [e1, e2]
  rfl
theorem befB_end {xs ys : List Int} {i : Nat} (hx : i ≤ xs.length) (hy : i ≤ ys.length) (h : ¬ (i < xs.length ∧ i < ys.length)) : befB (xs.drop i) (ys.drop i) = decide (xs.length < ys.length) := by
  by_cases h1 : i < xs.length
  · have h2 : i = ys.length := by omega
    subst h2
    rw [List.drop_length, List.drop_eq_getElem_cons h1]
    rw [decide_eq_false (by omega)]
    rfl
  · have h2 : i = xs.length := by omega
    subst h2
    rw [List.drop_length]
    show (!(ys.drop xs.length).isEmpty) = _
    by_cases h3 : xs.length < ys.length
    · rw [decide_eq_true h3, List.drop_eq_getElem_cons h3]
      rfl
    · rw [decide_eq_false h3, List.drop_of_length_le (by omega)]
      rfl

set_option maxHeartbeats 1000000 in
theorem rbefore_any (A1 A2 : Option Addr) (n1 n2 c1 c2 : Nat) (xs ys : List Int) (w : World) (h1 : Sl w A1 n1 c1 xs) (h2 : Sl w A2 n2 c2 ys) :
    Calls Tryd.prog 50 #[.slice A1 n1 c1, .slice A2 n2 c2] w fun e w' => e = .returned (.bool (befB xs ys)) ∧ ∃ m, w' = w.drewN m := by
  have hn1 := h1.cap
  have hb1 := h1.big
  have hn2 := h2.cap
  have hb2 := h2.big
  unfold maxLen at hb1 hb2
  have H1 := Lib.hid h1
  have H2 := Lib.hid h2
  clear h1 h2
  go_enter Tryd.func50, Tryd.ntmps50
  go_wp2_with fail
  go_loopg [5] n1 (fun k s5 wr => ∃ j : Nat, j ≤ n1 ∧ j ≤ n2 ∧ k = n1 - j ∧ s5 = .int .i64 (j : Int) ∧ Hid (befB xs ys = befB (xs.drop j) (ys.drop j)) ∧ Hid (∃ m, wr = w.drewN m))
  case atStart => exact ⟨0, Nat.zero_le _, Nat.zero_le _, rfl, rfl, by rw [List.drop_zero, List.drop_zero]; rfl, ⟨0, rfl⟩⟩
  case round =>
    obtain ⟨j, hj1, hj2, hgk, rfl, ht, m, rfl⟩ := hrel
    have HGK := Lib.hid hgk
    have HT := Lib.hid ht.out
    clear hgk ht
    by_cases hlt1 : j < n1
    · by_cases hlt2 : j < n2
      · obtain ⟨b1, o1, rfl, hc1⟩ := H1.out.bytes (by omega)
        obtain ⟨b2, o2, rfl, hc2⟩ := H2.out.bytes (by omega)
        have g1 := hc1 j hlt1
        have g2 := hc2 j hlt2
        have hst := befB_step (i := j) (xs := xs) (ys := ys) (by rw [H1.out.len]; exact hlt1) (by rw [H2.out.len]; exact hlt2)
        have HS := Lib.hid hst
        clear hc1 hc2 hst
        have hj0 : (0 : Int) ≤ (j : Int) := by omega
        have hjl1 : (j : Int) < (n1 : Int) := by omega
        have hjl2 : (j : Int) < (n2 : Int) := by omega
        have g1d : ((w.drewN m).drewN 1).cell? ⟨b1, o1 + j, none⟩ = some (.int .u8 (xs.getD j 0)) := g1
        have g2d : ((w.drewN m).drewN 1).cell? ⟨b2, o2 + j, none⟩ = some (.int .u8 (ys.getD j 0)) := g2
        generalize xs.getD j 0 = x at *
        generalize ys.getD j 0 = y at *
        by_cases hxy : x = y
        · subst hxy
          go_wp2_with fail
          go_quiet (fail)
          go_wp2_with fail
          go_roundg (n1 - (j + 1))
          case rel => exact ⟨j + 1, by omega, by omega, rfl, by go_num, Lib.hid (by rw [HT.out, HS.out]; simp), ⟨_, rfl⟩⟩
          case measure => have := HGK.out; omega
        · have hne : (x != y) = true := by simpa using hxy
          have hF : befB xs ys = decide (x < y) := by rw [HT.out, HS.out, if_neg hxy]
          have HF := Lib.hid hF
          clear hxy hF
          go_wp2_with fail
          go_quiet (fail)
          go_wp2_with fail
          go_quiet (fail)
          go_wp2_with fail
          go_ret
          exact ⟨by rw [HF.out]; rfl, _, by first | rfl | (rw [World.drewN_drewN, World.drewN_drewN]; done) | (rw [World.drewN_drewN]; done)⟩
      · obtain rfl : j = n2 := by omega
        have hF : befB xs ys = decide (n1 < j) := by rw [HT.out, befB_end (by rw [H1.out.len]; omega) (by rw [H2.out.len]; exact Nat.le_refl _) (by rw [H1.out.len, H2.out.len]; omega), H1.out.len, H2.out.len]
        have HF := Lib.hid hF
        have hji : (j : Int) < (n1 : Int) := by omega
        clear hF
        go_wp2_with fail
        go_ret
        exact ⟨by rw [HF.out]; rfl, _, rfl⟩
    · obtain rfl : j = n1 := by omega
      have hF : befB xs ys = decide (j < n2) := by rw [HT.out, befB_end (by rw [H1.out.len]; exact Nat.le_refl _) (by rw [H2.out.len]; omega) (by rw [H1.out.len]; omega), H1.out.len, H2.out.len]
      have HF := Lib.hid hF
      clear hF
      go_wp2_with fail
      go_ret
      exact ⟨by rw [HF.out]; rfl, _, rfl⟩

end Go.Proofs.YtmhgpdfllpgjpaaDoor
