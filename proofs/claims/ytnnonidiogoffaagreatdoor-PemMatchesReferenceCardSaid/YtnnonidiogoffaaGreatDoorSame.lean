/- Contract of Same of package pyxref01. -/
import Derived.Test.YtnnonidiogoffaaGreatDoorImpH
namespace Go.Proofs.YtnnonidiogoffaaGreatDoor
open Go.RowKit

theorem take_snoc' (l : List Int) (k : Nat) (h : k < l.length) : l.take (k + 1) = l.take k ++ [l.getD k 0] := by
  rw [List.take_succ_eq_append_getElem h]
  simp [List.getD, List.getElem?_eq_getElem h]

def sameB (xs ys : List Int) : Bool := decide (xs = ys)
theorem sameB_refl (xs : List Int) : sameB xs xs = true := by simp [sameB]
theorem sameB_true {xs ys : List Int} (h : sameB xs ys = true) : xs = ys := by simpa [sameB] using h

theorem bytesOf_sameB (xs ys : List Int) (hx : ∀ x ∈ xs, 0 ≤ x ∧ x < 256) (hy : ∀ x ∈ ys, 0 ≤ x ∧ x < 256) : (Lib.bytesOf xs == Lib.bytesOf ys) = sameB xs ys := by
  rw [Bool.eq_iff_iff]
  simp only [sameB, beq_iff_eq, decide_eq_true_eq, Lib.bytesOf]
  constructor
  · intro h
    induction xs generalizing ys with
    | nil => cases ys <;> simp_all
    | cons x xs ih =>
      cases ys with
      | nil => simp at h
      | cons y ys =>
        simp only [List.map_cons, List.cons.injEq] at h
        obtain ⟨hx0, hx1⟩ := hx x (by simp)
        obtain ⟨hy0, hy1⟩ := hy y (by simp)
        have e := congrArg UInt8.toNat h.1
        simp only [UInt8.toNat_ofNat'] at e
        have exy : x = y := by omega
        rw [exy, ih ys (fun z hz => hx z (by simp [hz])) (fun z hz => hy z (by simp [hz])) h.2]
  · rintro rfl
    rfl
theorem sameB_at {xs ys : List Int} (j : Nat) (h : xs.getD j 0 ≠ ys.getD j 0) : sameB xs ys = false := by
  simp only [sameB, decide_eq_false_iff_not]
  rintro rfl
  exact h rfl
theorem sameB_len {xs ys : List Int} (h : xs.length ≠ ys.length) : sameB xs ys = false := by
  simp only [sameB, decide_eq_false_iff_not]
  rintro rfl
  exact h rfl

set_option maxRecDepth 100000 in
theorem rsame_any (A1 A2 : Option Addr) (n1 n2 c1 c2 : Nat) (xs ys : List Int) (w : World) (h1 : Sl w A1 n1 c1 xs) (h2 : Sl w A2 n2 c2 ys) :
    Calls Tryz.prog 13 #[.slice A1 n1 c1, .slice A2 n2 c2] w fun e w' => e = .returned (.bool (sameB xs ys)) ∧ ∃ m, w' = w.drewN m := by
  have hn1 := h1.cap
  have hb1 := h1.big
  unfold maxLen at hb1
  by_cases hl : n1 = n2
  · subst hl
    have H1 := Lib.hid h1
    have H2 := Lib.hid h2
    clear h1 h2
    go_enter Tryz.func13, Tryz.ntmps13
    go_wp2
    go_loopw [5] (fun i wr => ∃ j : Nat, j ≤ n1 ∧ i = .int .i64 j ∧ Hid (xs.take j = ys.take j) ∧ Hid (∃ m, wr = w.drewN m)) (fun i _ => n1 - (intOf i).toNat)
    case atStart => exact ⟨0, Nat.zero_le _, rfl, rfl, ⟨0, rfl⟩⟩
    case round =>
      obtain ⟨j, hj, rfl, ht, m, rfl⟩ := hrel
      by_cases hlt : j < n1
      · obtain ⟨b1, o1, rfl, hc1⟩ := H1.out.bytes (by omega)
        obtain ⟨b2, o2, rfl, hc2⟩ := H2.out.bytes (by omega)
        have g1 := hc1 j hlt
        have g2 := hc2 j hlt
        clear hc1 hc2
        generalize hx : xs.getD j 0 = x at g1
        generalize hy : ys.getD j 0 = y at g2
        have HX := Lib.hid hx
        have HY := Lib.hid hy
        clear hx hy
        have hj0 : (0 : Int) ≤ (j : Int) := by omega
        have hjl : (j : Int) < (n1 : Int) := by omega
        by_cases hxy : x = y
        · subst hxy
          go_wp2
          go_quiet (fail)
          go_wp2
          go_roundw
          case rel =>
            refine ⟨j + 1, by omega, by go_num, ?_, ⟨_, rfl⟩⟩
            show xs.take (j + 1) = ys.take (j + 1)
            rw [take_snoc' xs j (by rw [H1.out.len]; exact hlt), take_snoc' ys j (by rw [H2.out.len]; exact hlt), ht.out, HX.out, HY.out]
          case measure => simp [intOf]; omega
        · have hne : (x != y) = true := by simpa using hxy
          have HN := Lib.hid hxy
          clear hxy
          go_wp2
          go_quiet (fail)
          go_wp2
          go_ret
          exact ⟨by rw [sameB_at j (by rw [HX.out, HY.out]; exact HN.out)]; rfl, _, by first | rfl | rw [World.drewN_drewN]⟩
      · obtain rfl : j = n1 := by omega
        have HT := Lib.hid ht
        clear ht
        go_wp2
        go_ret
        have e : xs = ys := by
          have h := HT.out.out
          rwa [List.take_of_length_le (by rw [H1.out.len]; exact Nat.le_refl _), List.take_of_length_le (by rw [H2.out.len]; exact Nat.le_refl _)] at h
        exact ⟨by rw [e, sameB_refl]; rfl, _, rfl⟩
  · have hne : (n1 != n2) = true := by simpa using hl
    have hne2 : ((n1 : Int) != (n2 : Int)) = true := by simp; omega
    have HE : Hid (sameB xs ys = false) := sameB_len (by rw [h1.len, h2.len]; exact hl)
    clear h1 h2 hl
    go_enter Tryz.func13, Tryz.ntmps13
    go_wp2
    go_ret
    exact ⟨by rw [HE.out]; rfl, 0, rfl⟩

theorem rsame_self (A1 A2 : Option Addr) (n c1 c2 : Nat) (xs : List Int) (w : World) (h1 : Sl w A1 n c1 xs) (h2 : Sl w A2 n c2 xs) :
    Calls Tryz.prog 13 #[.slice A1 n c1, .slice A2 n c2] w fun e w' => e = .returned (.bool true) ∧ ∃ m, w' = w.drewN m := by
  have h := rsame_any A1 A2 n n c1 c2 xs xs w h1 h2
  rwa [sameB_refl] at h
theorem rsame_nil (w : World) : Calls Tryz.prog 13 #[.slice none 0 0, .slice none 0 0] w fun e w' => e = .returned (.bool true) ∧ ∃ m, w' = w.drewN m :=
  rsame_self none none 0 0 0 [] w (Sl.nil w) (Sl.nil w)

end Go.Proofs.YtnnonidiogoffaaGreatDoor
