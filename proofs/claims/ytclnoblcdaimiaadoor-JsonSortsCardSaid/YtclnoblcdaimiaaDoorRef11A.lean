/- The reference's Few and wrong. -/
import Derived.Test.YtclnoblcdaimiaaDoorPs11
import Derived.Lib.Hide
import Derived.Handy
namespace Go.Proofs.YtclnoblcdaimiaaDoor
open Go.RowKit
set_option linter.unusedVariables false

def okP (p : P2) : Bool := decide (p.1.size ≤ 100 ∧ p.2.size ≤ 500)
def fewP (l : List P2) : Bool := l.all okP && decide (l.length ≤ 40)
theorem fewP_not {l : List P2} {i : Nat} (h : i < l.length) (hk : okP (l.getD i default) = false) : fewP l = false := by
  unfold fewP
  have : l.all okP = false := by
    rw [List.all_eq_false]
    refine ⟨l.getD i default, ?_, by rw [hk]; decide⟩
    rw [List.getD_eq_getElem?_getD, List.getElem?_eq_getElem h]
    exact List.getElem_mem h
  rw [this]
  rfl
theorem fewP_all {l : List P2} (h : ∀ j, j < l.length → okP (l.getD j default) = true) : fewP l = decide (l.length ≤ 40) := by
  unfold fewP
  have : l.all okP = true := by
    rw [List.all_eq_true]
    intro x hx
    obtain ⟨j, hj, rfl⟩ := List.getElem_of_mem hx
    have := h j hj
    rwa [List.getD_eq_getElem?_getD, List.getElem?_eq_getElem hj] at this
  rw [this]
  rfl

set_option maxHeartbeats 2000000 in
theorem rfew11_any (A : Option Addr) (n c : Nat) (l : List P2) (w : World) (h : Ps w A n c l) : Calls Tryd.prog 15 #[.slice A n c] w fun e w' => e = .returned (.bool (fewP l)) ∧ w' = w := by
  have HL := Lib.hid h.len
  have hbig : (n : Int) ≤ 9223372036854775807 := by
    have h1 := h.cap
    have h2 := h.big
    unfold maxLen at h2
    omega
  have HP := Lib.hid h
  clear h
  go_enter Tryd.func15, Tryd.ntmps15
  go_wp2_with fail
  go_loopg [3] n (fun q s3 wx => ∃ i : Nat, i ≤ n ∧ q = n - i ∧ s3 = .int .i64 (i : Int) ∧ wx = w ∧ Hid (∀ j, j < i → okP (l.getD j default) = true))
  case atStart => exact ⟨0, Nat.zero_le _, rfl, rfl, rfl, Lib.hid fun j hj => absurd hj (Nat.not_lt_zero j)⟩
  case round =>
    obtain ⟨i, hi, hgk, rfl, rfl, HQ⟩ := hrel
    have HGK := Lib.hid hgk
    clear hgk
    by_cases hlt : i < n
    · have hli : (i : Int) < (n : Int) := by omega
      obtain ⟨b, o, rfl, hc⟩ := HP.out.cells (by omega)
      obtain ⟨f0, f1⟩ := hc i hlt
      have HLT := Lib.hid hlt
      obtain ⟨p, hp⟩ : ∃ p, l.getD i default = p := ⟨_, rfl⟩
      rw [hp] at f0 f1
      have HPP := Lib.hid hp
      clear hc hlt hi hp
      by_cases h1 : p.1.size ≤ 100
      · have i1 : ¬ (100 : Int) < (p.1.size : Int) := by omega
        by_cases h2 : p.2.size ≤ 500
        · have i2 : ¬ (500 : Int) < (p.2.size : Int) := by omega
          have HO : Hid (okP p = true) := Lib.hid (decide_eq_true ⟨h1, h2⟩)
          clear h1 h2
          go_wp2_with fail
          go_roundg (n - (i + 1))
          case rel => exact ⟨i + 1, by have := HLT.out; omega, rfl, by go_num, rfl, Lib.hid fun j hj => by
            by_cases hji : j = i
            · rw [hji, HPP.out]; exact HO.out
            · exact HQ.out j (by omega)⟩
          case measure => have := HGK.out; have := HLT.out; omega
        · have i2 : (500 : Int) < (p.2.size : Int) := by omega
          have HO : Hid (fewP l = false) := Lib.hid (fewP_not (by rw [HL.out]; exact HLT.out) (by rw [HPP.out]; exact decide_eq_false fun h => h2 h.2))
          clear h1 h2
          go_wp2_with fail
          go_ret
          rw [HO.out]
          exact ⟨rfl, rfl⟩
      · have i1 : (100 : Int) < (p.1.size : Int) := by omega
        have HO : Hid (fewP l = false) := Lib.hid (fewP_not (by rw [HL.out]; exact HLT.out) (by rw [HPP.out]; exact decide_eq_false fun h => h1 h.1))
        clear h1
        go_wp2_with fail
        go_ret
        rw [HO.out]
        exact ⟨rfl, rfl⟩
    · obtain rfl : i = n := by omega
      have HO : Hid (fewP l = decide (l.length ≤ 40)) := Lib.hid (fewP_all fun j hj => HQ.out j (by rw [HL.out] at hj; exact hj))
      have hli : ¬ (i : Int) < (i : Int) := by omega
      clear hlt hi
      by_cases h40 : i ≤ 40
      · have i40 : (i : Int) ≤ 40 := by omega
        have HB : Hid (decide (l.length ≤ 40) = true) := Lib.hid (decide_eq_true (by rw [HL.out]; exact h40))
        clear h40
        go_wp2_with fail
        go_ret
        rw [HO.out, HB.out]
        exact ⟨rfl, rfl⟩
      · have i40 : ¬ (i : Int) ≤ 40 := by omega
        have HB : Hid (decide (l.length ≤ 40) = false) := Lib.hid (decide_eq_false (by rw [HL.out]; exact h40))
        clear h40
        go_wp2_with fail
        go_ret
        rw [HO.out, HB.out]
        exact ⟨rfl, rfl⟩

/-- The error at a place: behind the end it is one of length. -/
def wrongC (n p : Nat) : Nat × Nat := if n ≤ p then (3, n) else (5, p)
abbrev bad11 (c a : Nat) : Value := .agg #[.slice none 0 0, .slice none 0 0, .int .i64 (c : Int), .int .i64 (a : Int)]
theorem rwrong_any (A : Option Addr) (n c p : Nat) (w : World) (hn : n ≤ 1000000000) (hp : p ≤ 1000000000) : Calls Tryd.prog 48 #[.slice A n c, .int .i64 (p : Int)] w fun e w' => e = .returned (bad11 (wrongC n p).1 (wrongC n p).2) ∧ Past w w' := by
  by_cases h : n ≤ p
  · have hi : (n : Int) ≤ (p : Int) := by omega
    have e : wrongC n p = (3, n) := if_pos h
    rw [e]
    clear e h
    go_enter Tryd.func48, Tryd.ntmps48
    go_wp2_with fail
    go_returns
    exact ⟨rfl, past_alloc8 _ _⟩
  · have hi : ¬ (n : Int) ≤ (p : Int) := by omega
    have e : wrongC n p = (5, p) := if_neg h
    rw [e]
    clear e h
    go_enter Tryd.func48, Tryd.ntmps48
    go_wp2_with fail
    go_returns
    exact ⟨rfl, past_alloc8 _ _⟩

end Go.Proofs.YtclnoblcdaimiaaDoor
