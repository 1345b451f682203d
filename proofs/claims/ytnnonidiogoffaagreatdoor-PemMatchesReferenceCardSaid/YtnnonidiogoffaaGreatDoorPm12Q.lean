/- What the program's Encode refuses. -/
import Derived.Test.YtnnonidiogoffaaGreatDoorPm12P
namespace Go.Proofs.YtnnonidiogoffaaGreatDoor
open Go.RowKit Go.Shelf
set_option linter.unusedVariables false
set_option maxHeartbeats 2400000 in
set_option maxRecDepth 100000 in
theorem encode_bad (s : ByteArray) (A : Option Addr) (n c : Nat) (w : World) (hs : s.size ≤ 1000000) (hn : n ≤ 1099511627776) (hN : sizeN (ints s) n = 0 ∨ 1048576 < sizeN (ints s) n) :
    Calls Tryz.prog 12 #[.string s, .slice A n c] w fun e w' => e = .returned (.tuple #[.slice none 0 0, cdV 12]) ∧ Past w w' := by
  have HSZ := Lib.hid (size_any s n w hs hn)
  obtain ⟨N, hNe⟩ : ∃ N, sizeN (ints s) n = N := ⟨_, rfl⟩
  rw [hNe] at HSZ hN
  clear hNe hs hn
  rcases hN with rfl | hN
  · go_enter Tryz.func12, Tryz.ntmps12
    go_wp2_with fail
    refine (HSZ.out).mono ?_
    rintro e w1 ⟨rfl, hp⟩
    have HP1 := Lib.hid hp
    clear hp
    go_wp2_with fail
    go_ret2
    exact ⟨rfl, HP1.out⟩
  · have hNb : ((N : Int) == 0) = false := by simp; omega
    have hN1 : (1048576 : Int) < (N : Int) := by omega
    have hN0 : ¬ (N : Int) = 0 := by omega
    clear hN
    go_enter Tryz.func12, Tryz.ntmps12
    go_wp2_with fail
    refine (HSZ.out).mono ?_
    rintro e w1 ⟨rfl, hp⟩
    have HP1 := Lib.hid hp
    clear hp
    go_wp2_with fail
    go_ret2
    exact ⟨rfl, HP1.out⟩
/-- What Encode answers. -/
def EncR (s : ByteArray) (n : Nat) (xs : List Int) (w : World) (e : Ending) (w' : World) : Prop :=
  (if sizeN (ints s) n = 0 ∨ 1048576 < sizeN (ints s) n then e = .returned (.tuple #[.slice none 0 0, cdV 12])
    else ∃ P m cc, e = .returned (.tuple #[.slice P m cc, .nilIface]) ∧ Sl w' P m cc (armL (ints s) xs)) ∧ Past w w'
theorem encode_any (s : ByteArray) (A : Option Addr) (n c : Nat) (xs : List Int) (w : World) (hS : Sl w A n c xs) (hs : s.size ≤ 1000000) (hn : n ≤ 1000000) :
    Calls Tryz.prog 12 #[.string s, .slice A n c] w (EncR s n xs w) := by
  by_cases h : sizeN (ints s) n = 0 ∨ 1048576 < sizeN (ints s) n
  · refine (encode_bad s A n c w hs (by omega) h).mono ?_
    rintro e w' ⟨rfl, hp⟩
    refine ⟨?_, hp⟩
    rw [if_pos h]
  · have hl : labB (ints s) = true ∧ 1 ≤ n := by
      by_cases hc : labB (ints s) = true ∧ 1 ≤ n
      · exact hc
      · exact absurd (Or.inl (by unfold sizeN; exact if_neg hc)) h
    refine (encode_ok s A n c xs w hS hs hn hl.1 hl.2 (by omega)).mono ?_
    rintro e w' ⟨he, hp⟩
    refine ⟨?_, hp⟩
    rw [if_neg h]
    exact he
end Go.Proofs.YtnnonidiogoffaaGreatDoor
