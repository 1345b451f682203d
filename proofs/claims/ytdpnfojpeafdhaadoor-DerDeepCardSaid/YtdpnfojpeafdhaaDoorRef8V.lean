/- The contract of the reference's read: at every level, every offset and every end. -/
import Derived.Test.YtdpnfojpeafdhaaDoorRef8U
namespace Go.Proofs.YtdpnfojpeafdhaaDoor
open Go.RowKit
set_option linter.unusedVariables false

theorem rd_good {xs : List Int} {lv at0 fin nx l : Nat} (h1 : ¬ fin ≤ at0) (ht : tagB (xs.getD at0 0) = true) (h : hdr xs at0 fin = .ok nx l) : rd xs (lv + 1) at0 fin = restW xs lv (xs.getD at0 0) fin nx l := by
  simp only [rd]
  rw [if_neg h1, if_neg (by rw [ht]; decide), h]
  rfl
theorem rd_bad {xs : List Int} {lv at0 fin c a : Nat} (h1 : ¬ fin ≤ at0) (ht : tagB (xs.getD at0 0) = true) (h : hdr xs at0 fin = .err c a) : rd xs (lv + 1) at0 fin = .err c a := by
  simp only [rd]
  rw [if_neg h1, if_neg (by rw [ht]; decide), h]

theorem read_any (A : Option Addr) (n c : Nat) (xs : List Int) (hn : n ≤ 1048576) : ∀ lv : Nat, lv ≤ 8 → ∀ (at0 fin : Nat) (w : World), Sl w A n c xs → at0 ≤ n → fin ≤ n →
    Calls Tryd.prog 28 #[.slice A n c, .int .i64 (at0 : Int), .int .i64 (fin : Int), .int .i64 (8 - (lv : Int))] w (ReadP (rd xs lv at0 fin) w) := by
  intro lv
  induction lv with
  | zero =>
    intro _ at0 fin w hS hat hfin
    simp only [rd]
    by_cases h1 : fin ≤ at0
    · rw [if_pos h1]
      exact read_e1 n c at0 fin _ w A hn hfin h1 hat
    · rw [if_neg h1]
      obtain ⟨b, o, rfl, hc, hr0, hr1⟩ := hS.byte at0 (by omega)
      have hR : Rg w b o n at0 fin xs (xs.getD at0 0) := ⟨hn, hfin, by omega, rfl, hr0, by omega, hc, cell_lt hc⟩
      by_cases ht : tagB (xs.getD at0 0) = false
      · rw [if_pos ht]
        exact read_e2 b o n c at0 fin _ xs _ w hR ht
      · rw [if_neg ht]
        exact read_e3 b o n c at0 fin _ xs _ w hR (by simpa using ht) (by simp)
  | succ lv ih =>
    intro hlv at0 fin w hS hat hfin
    have hab : (8 : Int) - ((lv + 1 : Nat) : Int) < 8 := by omega
    have hab0 : 0 ≤ (8 : Int) - ((lv + 1 : Nat) : Int) := by omega
    have hab1 : (8 : Int) - ((lv + 1 : Nat) : Int) + 1 = 8 - (lv : Int) := by omega
    generalize (8 : Int) - ((lv + 1 : Nat) : Int) = above at hab hab0 hab1 ⊢
    by_cases h1 : fin ≤ at0
    · simp only [rd]
      rw [if_pos h1]
      exact read_e1 n c at0 fin _ w A hn hfin h1 hat
    obtain ⟨b, o, rfl, hc, hr0, hr1⟩ := hS.byte at0 (by omega)
    have hR : Rg w b o n at0 fin xs (xs.getD at0 0) := ⟨hn, hfin, by omega, rfl, hr0, by omega, hc, cell_lt hc⟩
    by_cases ht0 : tagB (xs.getD at0 0) = false
    · simp only [rd]
      rw [if_neg h1, if_pos ht0]
      exact read_e2 b o n c at0 fin _ xs _ w hR ht0
    have ht : tagB (xs.getD at0 0) = true := by simpa using ht0
    by_cases h2 : fin ≤ at0 + 1
    · have hh : hdr xs at0 fin = .err 3 fin := by unfold hdr; rw [if_pos h2]
      rw [rd_bad h1 ht hh]
      exact read_e4 b o n c at0 fin _ xs _ w hR ht hab h2
    obtain ⟨b', o', e, hc2, hq0, hq1⟩ := hS.byte (at0 + 1) (by omega)
    injection e with e
    injection e with e1 e2
    subst e1 e2
    obtain ⟨L, hL⟩ : ∃ L : Nat, xs.getD (at0 + 1) 0 = (L : Int) := ⟨(xs.getD (at0 + 1) 0).toNat, by omega⟩
    rw [hL] at hc2 hq1
    have hRl : Rl w b o n at0 fin xs (xs.getD at0 0) L := ⟨hR, by omega, hL, by omega, hc2, ht⟩
    have hhd : hdr xs at0 fin = if L = 128 ∨ 131 < L then .err 6 (at0 + 1)
        else if 128 < L then
          if fin < at0 + 2 + (L - 128) then .err 3 fin
          else if beN xs (at0 + 2) (L - 128) < 128 ∨ (numB (beN xs (at0 + 2) (L - 128))).length ≠ L - 128 then .err 6 (at0 + 1)
          else .ok (at0 + 2 + (L - 128)) (beN xs (at0 + 2) (L - 128))
        else .ok (at0 + 2) L := by
      unfold hdr
      rw [if_neg h2, hL, Int.toNat_natCast]
    by_cases h3 : L = 128 ∨ 131 < L
    · rw [if_pos h3] at hhd
      rw [rd_bad h1 ht hhd]
      exact read_e5 b o n c at0 fin _ xs _ w L hRl hab h3
    rw [if_neg h3] at hhd
    have good : ∀ nx l, hdr xs at0 fin = .ok nx l → Good xs at0 fin L nx l → Calls Tryd.prog 28 #[.slice (some ⟨b, o, none⟩) n c, .int .i64 (at0 : Int), .int .i64 (fin : Int), .int .i64 above] w (ReadP (rd xs (lv + 1) at0 fin) w) := by
      intro nx l hok hg
      rw [rd_good h1 ht hok]
      by_cases hleaf : fin < nx + l ∨ simB (xs.getD at0 0) = true
      · exact read_leaf b o n c at0 fin lv above xs _ w L nx l hRl hS hab0 hab hg hleaf
      · refine read_comp b o n c at0 fin lv above xs _ w L nx l hRl hS hab0 hab hg (by omega) ?_ fun at1 stop w1 hp ha hs => ?_
        · cases hsm : simB (xs.getD at0 0) with
          | true => exact absurd (Or.inr hsm) hleaf
          | false => rfl
        · rw [hab1]
          exact ih (by omega) at1 stop w1 (hS.past hp) ha hs
    by_cases h4 : 128 < L
    · rw [if_pos h4] at hhd
      by_cases h5 : fin < at0 + 2 + (L - 128)
      · rw [if_pos h5] at hhd
        rw [rd_bad h1 ht hhd]
        exact read_e6 b o n c at0 fin _ xs _ w L hRl hab h4 (by omega) h5
      · rw [if_neg h5] at hhd
        obtain ⟨k, rfl⟩ : ∃ k, L = k + 128 := ⟨L - 128, by omega⟩
        rw [Nat.add_sub_cancel] at hhd h5
        by_cases h6 : beN xs (at0 + 2) k < 128 ∨ (numB (beN xs (at0 + 2) k)).length ≠ k
        · rw [if_pos h6] at hhd
          rw [rd_bad h1 ht hhd]
          exact read_e7 b o n c at0 fin above xs _ w k hRl hS hab (by omega) (by omega) (by omega) h6
        · rw [if_neg h6] at hhd
          exact good _ _ hhd (.inr ⟨k, rfl, by omega, by omega, by omega, by omega, by omega, rfl, rfl⟩)
    · rw [if_neg h4] at hhd
      exact good _ _ hhd (.inl ⟨by omega, rfl, rfl⟩)

end Go.Proofs.YtdpnfojpeafdhaaDoor
