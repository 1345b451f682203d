/- slices.Max of a list of numbers of 32 bits; the program's Valid. -/
import Derived.Test.YtnjoccmjembppaaDoorP9
namespace Go.Proofs.YtnjoccmjembppaaDoor
open Go.RowKit
set_option linter.unusedVariables false

set_option maxHeartbeats 1000000 in
theorem max_any (b o n c : Nat) (l : List Int) (w : World) (h : SlK .u32 w (some ⟨b, o, none⟩) n c l) (hr : Rng l) (hn : 1 ≤ n) (hn2 : n ≤ 1000) :
    Calls Tryd.prog 46 #[.slice (some ⟨b, o, none⟩) n c] w fun e w' => w = w' ∧ ∃ m : Int, e = .returned (.int .u32 m) ∧ 0 ≤ m ∧ m < 4294967296 ∧ ((∀ j, j < n → l.getD j 0 < 4294967216) ↔ m < 4294967216) := by
  obtain ⟨b', o', eA, hc⟩ := h.cells (by omega)
  obtain ⟨rfl, rfl⟩ : b = b' ∧ o = o' := by
    simp only [Option.some.injEq, Addr.mk.injEq] at eA
    exact ⟨eA.1, eA.2.1⟩
  have c0 := hc 0 (by omega)
  rw [Nat.add_zero] at c0
  have r0 := getD_rngK (by omega) hr 0
  obtain ⟨x0, hx0⟩ : ∃ x, l.getD 0 0 = x := ⟨_, rfl⟩
  rw [hx0] at c0 r0
  obtain ⟨r00, r01⟩ := r0
  have HX := Lib.hid hx0
  have HC := Lib.hid hc
  have HR := Lib.hid hr
  have h0i : (0 : Int) < (n : Int) := by omega
  have h1i : ¬ (n : Int) < 1 := by omega
  clear h hc eA hx0 hr
  go_enter Tryd.func46, Tryd.ntmps46
  go_wp2_with fail
  go_loopg [3, 4] (n - 1) (fun k s3 s4 wx => ∃ (i : Nat) (m : Int), 1 ≤ i ∧ i ≤ n ∧ k = n - i ∧ s3 = .int .u32 m ∧ s4 = .int .i64 (i : Int) ∧ Hid (0 ≤ m ∧ m < 4294967296 ∧ ((∀ j, j < i → l.getD j 0 < 4294967216) ↔ m < 4294967216)) ∧ Hid (w = wx))
  case atStart =>
    refine ⟨1, x0, Nat.le_refl _, hn, rfl, rfl, rfl, Lib.hid ⟨r00, r01, ?_⟩, Lib.hid rfl⟩
    constructor
    · intro h
      rw [← HX.out]
      exact h 0 (by omega)
    · intro h j hj
      obtain rfl : j = 0 := by omega
      rw [HX.out]
      exact h
  case round =>
    obtain ⟨i, m, hi1, hi, hgk, rfl, rfl, HM, HW⟩ := hrel
    have HGK := Lib.hid hgk
    clear hgk
    obtain rfl := HW.out
    by_cases hlt : i < n
    · have hx := HC.out i hlt
      have hxr := getD_rngK (by omega) HR.out i
      obtain ⟨y, hy⟩ : ∃ y, l.getD i 0 = y := ⟨_, rfl⟩
      rw [hy] at hx hxr
      have HY := Lib.hid hy
      obtain ⟨hy0, hy1⟩ := hxr
      clear hy
      have hi0 : (0 : Int) ≤ (i : Int) := by omega
      have hin : (i : Int) < (n : Int) := by omega
      have HN : Hid (∀ z : Int, (z = m ∧ y ≤ m ∨ z = y ∧ m ≤ y) → 0 ≤ z ∧ z < 4294967296 ∧ ((∀ j, j < i + 1 → l.getD j 0 < 4294967216) ↔ z < 4294967216)) := Lib.hid fun z hz => by
        obtain ⟨h1, h2, h3⟩ := HM.out
        refine ⟨by omega, by omega, ?_⟩
        constructor
        · intro h
          have h4 := h3.1 fun j hj => h j (by omega)
          have h5 := h i (by omega)
          rw [HY.out] at h5
          omega
        · intro h j hj
          by_cases e : j = i
          · subst e
            rw [HY.out]
            omega
          · exact h3.2 (by omega) j (by omega)
      go_wp2_with fail
      all_goals go_roundg (n - (i + 1))
      all_goals first
        | (have := HGK.out; omega)
        | (refine ⟨i + 1, _, by omega, by omega, rfl, rfl, by go_num, Lib.hid (HN.out _ ?_), Lib.hid rfl⟩; omega)
    · obtain rfl : i = n := by omega
      go_wp2_with fail
      go_ret
      exact ⟨rfl, m, rfl, HM.out⟩

end Go.Proofs.YtnjoccmjembppaaDoor
