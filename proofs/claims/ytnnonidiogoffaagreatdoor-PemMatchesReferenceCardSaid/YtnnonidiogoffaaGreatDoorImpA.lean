/- Contracts of the program's base64: digits, Digit, Value, Length. -/
import Derived.Test.YtnnonidiogoffaaGreatDoorB64b
import Derived.Test.YtnnonidiogoffaaGreatDoorBld
namespace Go.Proofs.YtnnonidiogoffaaGreatDoor
open Go.RowKit

/-- The digits of an alphabet as the program lays them. -/
def dlist (al : Int) : List Int := if isAl al = true then (List.range 64).map fun v : Nat => dig al (v : Int) else []
def dstr (al : Int) : ByteArray := txt (dlist al)
theorem dstr_no {al : Int} (h : isAl al = false) : dstr al = ⟨#[]⟩ := by
  unfold dstr dlist
  rw [if_neg (by rw [h]; decide)]
  rfl
theorem dstr_1 : dstr 1 = ⟨#[65, 66, 67, 68, 69, 70, 71, 72, 73, 74, 75, 76, 77, 78, 79, 80, 81, 82, 83, 84, 85, 86, 87, 88, 89, 90, 97, 98, 99, 100, 101, 102, 103, 104, 105, 106, 107, 108, 109, 110, 111, 112, 113, 114, 115, 116, 117, 118, 119, 120, 121, 122, 48, 49, 50, 51, 52, 53, 54, 55, 56, 57, 43, 47]⟩ := by kernel_rfl
theorem dstr_2 : dstr 2 = ⟨#[65, 66, 67, 68, 69, 70, 71, 72, 73, 74, 75, 76, 77, 78, 79, 80, 81, 82, 83, 84, 85, 86, 87, 88, 89, 90, 97, 98, 99, 100, 101, 102, 103, 104, 105, 106, 107, 108, 109, 110, 111, 112, 113, 114, 115, 116, 117, 118, 119, 120, 121, 122, 48, 49, 50, 51, 52, 53, 54, 55, 56, 57, 45, 95]⟩ := by kernel_rfl
theorem txt_size (xs : List Int) : (txt xs).size = xs.length := by
  show (Lib.bytesOf xs).toArray.size = _
  simp [Lib.bytesOf]
theorem dlist_len {al : Int} (h : isAl al = true) : (dlist al).length = 64 := by
  unfold dlist
  rw [if_pos h]
  simp
theorem dstr_size {al : Int} (h : isAl al = true) : (dstr al).size = 64 := by
  unfold dstr
  rw [txt_size, dlist_len h]
theorem dlist_rng (al : Int) : ∀ x ∈ dlist al, 0 ≤ x ∧ x < 256 := by
  intro x hx
  unfold dlist at hx
  split at hx
  · obtain ⟨j, _, rfl⟩ := List.mem_map.1 hx
    have := dig_rng al (j : Int)
    omega
  · cases hx
theorem dstr_ints (al : Int) : ints (dstr al) = dlist al := ints_txt (dlist_rng al)
theorem dlist_at {al : Int} (h : isAl al = true) (i : Nat) (hi : i < 64) : (dlist al).getD i 0 = dig al (i : Int) := by
  unfold dlist
  rw [if_pos h]
  simp [List.getD, hi]

theorem idx_1 : ∀ c : Fin 256, Lib.indexByte (dstr 1).data.toList (UInt8.ofNat c.val) = rval 1 (c.val : Int) := by
  rw [dstr_1]
  decide +kernel
theorem idx_2 : ∀ c : Fin 256, Lib.indexByte (dstr 2).data.toList (UInt8.ofNat c.val) = rval 2 (c.val : Int) := by
  rw [dstr_2]
  decide +kernel
theorem rval_no {al d : Int} (h : isAl al = false) : rval al d = -1 := rval_miss fun t _ h1 => by
  have : dig al (t : Int) = 0 := by unfold dig; rw [if_pos (.inl h)]
  rw [this] at h1
  exact h1.1 h1.2.symm
theorem idx_any (al d : Int) (h0 : 0 ≤ d) (h1 : d < 256) : Lib.indexByte (dstr al).data.toList d.toNat.toUInt8 = rval al d := by
  cases h : isAl al with
  | false =>
    rw [dstr_no h, rval_no h]
    rfl
  | true =>
    obtain ⟨D, rfl⟩ := Int.eq_ofNat_of_zero_le h0
    rcases al_cases h with rfl | rfl
    · exact idx_1 ⟨D, by omega⟩
    · exact idx_2 ⟨D, by omega⟩

set_option maxRecDepth 100000 in
theorem digits_any (al : Int) (w : World) : Calls Tryz.prog 48 #[.int .i64 al] w fun e w' => e = .returned (.string (dstr al)) ∧ w = w' := by
  cases h : isAl al with
  | false =>
    rw [dstr_no h]
    obtain ⟨h1, h2⟩ := al_no h
    have n1 : (al == 1) = false := by simpa using h1
    have n2 : (al == 2) = false := by simpa using h2
    clear h h1 h2
    go_enter Tryz.func48, Tryz.ntmps48
    go_wp2_with fail
    go_ret
    exact ⟨rfl, rfl⟩
  | true =>
    rcases al_cases h with rfl | rfl
    · rw [dstr_1]
      clear h
      go_enter Tryz.func48, Tryz.ntmps48
      go_wp2_with fail
      go_ret
      exact ⟨rfl, rfl⟩
    · rw [dstr_2]
      clear h
      go_enter Tryz.func48, Tryz.ntmps48
      go_wp2_with fail
      go_ret
      exact ⟨rfl, rfl⟩

end Go.Proofs.YtnnonidiogoffaaGreatDoor
