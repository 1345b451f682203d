/- Contracts of the program's base64: Digit, Value, Length. -/
import Derived.Test.YtnnonidiogoffaaGreatDoorImpA
namespace Go.Proofs.YtnnonidiogoffaaGreatDoor
open Go.RowKit

theorem index_any (al d : Int) (h0 : 0 ≤ d) (h1 : d < 256) (w : World) : Calls Tryz.prog 81 #[.string (dstr al), .int .u8 d] w fun e w' => e = .returned (.int .i64 (rval al d)) ∧ w = w' := by
  refine (Tryz.strings_IndexByte (dstr al) d w).mono ?_
  rintro e w1 ⟨rfl, rfl⟩
  rw [idx_any al d h0 h1]
  exact ⟨rfl, rfl⟩

/-- The length of the encoding of n bytes. -/
def rlen (al : Int) (n : Nat) : Nat := if isAl al = true then (if al = 1 then (n + 2) / 3 * 4 else (8 * n + 5) / 6) else 0
theorem rlen_renc (al : Int) (xs : List Int) (n : Nat) : (renc al xs n).length = rlen al n := by
  unfold rlen
  split
  · rename_i h
    exact renc_len h xs n
  · rename_i h
    have h' : isAl al = false := by simpa using h
    unfold renc
    rw [if_pos h']
    rfl

theorem eqs_size {s : ByteArray} (h : 0 < s.size) : (s.toList == []) = false := by
  rw [Lib.toList_data]
  have : s.data.toList.length ≠ 0 := by rw [← Lib.size_eq]; omega
  cases hl : s.data.toList with
  | nil => rw [hl] at this; exact absurd rfl this
  | cons a l => rfl

set_option maxRecDepth 100000 in
theorem length_any (al : Int) (n : Nat) (hn : n ≤ 1099511627776) (w : World) : Calls Tryz.prog 35 #[.int .i64 al, .int .i64 (n : Int)] w fun e w' => e = .returned (.int .i64 (rlen al n)) ∧ w = w' := by
  have HD := Lib.hid (digits_any al w)
  cases h : isAl al with
  | false =>
    have hr : rlen al n = 0 := by unfold rlen; rw [if_neg (by rw [h]; decide)]
    rw [hr]
    rw [dstr_no h] at HD
    clear hr h
    go_enter Tryz.func35, Tryz.ntmps35
    go_wp2_with fail
    refine HD.out.mono ?_
    rintro e w1 ⟨rfl, rfl⟩
    go_wp2_with fail
    go_ret
    exact ⟨rfl, rfl⟩
  | true =>
    have hq := eqs_size (s := dstr al) (by rw [dstr_size h]; omega)
    by_cases h3 : n % 3 = 0
    · have hr : (rlen al n : Int) = (n : Int) / 3 * 4 := by
        unfold rlen
        rw [if_pos h]
        split <;> omega
      rw [hr]
      generalize dstr al = s at *
      clear hr h
      go_enter Tryz.func35, Tryz.ntmps35
      go_wp2_with fail
      refine HD.out.mono ?_
      rintro e w1 ⟨rfl, rfl⟩
      go_wp2_with fail
      go_ret
      exact ⟨rfl, rfl⟩
    · rcases al_cases h with rfl | rfl
      · have hr : (rlen 1 n : Int) = (n : Int) / 3 * 4 + 4 := by
          unfold rlen
          rw [if_pos h, if_pos rfl]
          omega
        rw [hr]
        generalize dstr 1 = s at *
        clear hr h
        go_enter Tryz.func35, Tryz.ntmps35
        go_wp2_with fail
        refine HD.out.mono ?_
        rintro e w1 ⟨rfl, rfl⟩
        go_wp2_with fail
        go_ret
        exact ⟨rfl, rfl⟩
      · have hr : (rlen 2 n : Int) = (n : Int) / 3 * 4 + (n : Int) % 3 + 1 := by
          unfold rlen
          rw [if_pos h, if_neg (by decide)]
          omega
        rw [hr]
        generalize dstr 2 = s at *
        clear hr h
        go_enter Tryz.func35, Tryz.ntmps35
        go_wp2_with fail
        refine HD.out.mono ?_
        rintro e w1 ⟨rfl, rfl⟩
        go_wp2_with fail
        go_ret
        exact ⟨rfl, rfl⟩

end Go.Proofs.YtnnonidiogoffaaGreatDoor
