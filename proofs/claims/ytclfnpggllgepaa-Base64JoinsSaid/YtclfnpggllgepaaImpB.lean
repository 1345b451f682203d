/- Contracts of the program's base64: Digit, Value, Length. -/
import Derived.Test.YtclfnpggllgepaaImpA
namespace Go.Proofs.Ytclfnpggllgepaa
open Go.RowKit

theorem pdigit_any (al v : Int) (w : World) : Calls Try.prog 15 #[.int .i64 al, .int .i64 v] w fun e w' => e = .returned (.tuple #[.int .u8 (dig al v), .bool (dig al v != 0)]) ∧ w = w' := by
  have HD := Lib.hid (digits_any al w)
  by_cases hin : isAl al = true ∧ 0 ≤ v ∧ v ≤ 63
  · obtain ⟨hal, h0, h1⟩ := hin
    obtain ⟨V, rfl⟩ := Int.eq_ofNat_of_zero_le h0
    have hz := dstr_size hal
    have hix := idx_str (dstr al) V (by omega)
    rw [dstr_ints, dlist_at hal V (by omega)] at hix
    have hne : (dig al (V : Int) != 0) = true := by
      have := (dig_lo hal h0 h1).1
      simp
      omega
    rw [hne]
    clear hne hal
    generalize dig al (V : Int) = d at *
    generalize dstr al = s at *
    go_enter Try.func15, Try.ntmps15
    go_wp2_with fail
    refine HD.out.mono ?_
    rintro e w1 ⟨rfl, rfl⟩
    go_wp2_with fail
    go_ret2
    exact ⟨rfl, rfl⟩
  · have hd : dig al v = 0 := by
      unfold dig
      rw [if_pos]
      cases h : isAl al with
      | false => exact .inl rfl
      | true => rw [h] at hin; right; simp at hin; omega
    rw [hd]
    have hb : v < 0 ∨ ((dstr al).size : Int) ≤ v := by
      cases h : isAl al with
      | false =>
        rw [dstr_no h]
        show v < 0 ∨ (0 : Int) ≤ v
        omega
      | true =>
        rw [dstr_size h]
        rw [h] at hin
        simp at hin
        omega
    clear hd hin
    generalize dstr al = s at *
    rcases hb with hb | hb
    · go_enter Try.func15, Try.ntmps15
      go_wp2_with fail
      refine HD.out.mono ?_
      rintro e w1 ⟨rfl, rfl⟩
      go_wp2_with fail
      go_ret2
      exact ⟨rfl, rfl⟩
    · go_enter Try.func15, Try.ntmps15
      go_wp2_with fail
      refine HD.out.mono ?_
      rintro e w1 ⟨rfl, rfl⟩
      go_wp2_with fail
      go_ret2
      exact ⟨rfl, rfl⟩

theorem index_any (al d : Int) (h0 : 0 ≤ d) (h1 : d < 256) (w : World) : Calls Try.prog 28 #[.string (dstr al), .int .u8 d] w fun e w' => e = .returned (.int .i64 (rval al d)) ∧ w = w' := by
  refine (Try.strings_IndexByte (dstr al) d w).mono ?_
  rintro e w1 ⟨rfl, rfl⟩
  rw [idx_any al d h0 h1]
  exact ⟨rfl, rfl⟩

theorem pvalue_any (al d : Int) (h0 : 0 ≤ d) (h1 : d < 256) (w : World) : Calls Try.prog 16 #[.int .i64 al, .int .u8 d] w fun e w' => e = .returned (.tuple #[.int .i64 (max (rval al d) 0), .bool (decide (0 ≤ rval al d))]) ∧ w = w' := by
  have HD := Lib.hid (digits_any al w)
  have HI := Lib.hid (index_any al d h0 h1 w)
  have hr := rval_rng al d
  generalize rval al d = r at *
  generalize dstr al = s at *
  by_cases hn : r < 0
  · have e1 : max r 0 = 0 := by omega
    have e2 : decide (0 ≤ r) = false := by simp; omega
    rw [e1, e2]
    clear e1 e2
    go_enter Try.func16, Try.ntmps16
    go_wp2_with fail
    refine HD.out.mono ?_
    rintro e w1 ⟨rfl, rfl⟩
    go_wp2_with fail
    refine HI.out.mono ?_
    rintro e w1 ⟨rfl, rfl⟩
    go_wp2_with fail
    go_ret2
    exact ⟨rfl, rfl⟩
  · have e1 : max r 0 = r := by omega
    have e2 : decide (0 ≤ r) = true := by simp; omega
    rw [e1, e2]
    clear e1 e2
    go_enter Try.func16, Try.ntmps16
    go_wp2_with fail
    refine HD.out.mono ?_
    rintro e w1 ⟨rfl, rfl⟩
    go_wp2_with fail
    refine HI.out.mono ?_
    rintro e w1 ⟨rfl, rfl⟩
    go_wp2_with fail
    go_ret2
    exact ⟨rfl, rfl⟩

/-- The length of the encoding of n bytes. -/
def rlen (al : Int) (n : Nat) : Nat := if isAl al = true then (if al = 1 then (n + 2) / 3 * 4 else (8 * n + 5) / 6) else 0
theorem rlen_renc (al : Int) (xs : List Int) (n : Nat) : (renc al xs n).length = rlen al n := by
  unfold rlen
  split
  · rename_i h
    exact renc_len h xs n
  · rename_i h
    have h' : isAl al = false := by simpa using h
    unfold renc
    rw [if_pos h']
    rfl

theorem eqs_size {s : ByteArray} (h : 0 < s.size) : (s.toList == []) = false := by
  rw [Lib.toList_data]
  have : s.data.toList.length ≠ 0 := by rw [← Lib.size_eq]; omega
  cases hl : s.data.toList with
  | nil => rw [hl] at this; exact absurd rfl this
  | cons a l => rfl

theorem length_any (al : Int) (n : Nat) (hn : n ≤ 1099511627776) (w : World) : Calls Try.prog 14 #[.int .i64 al, .int .i64 (n : Int)] w fun e w' => e = .returned (.int .i64 (rlen al n)) ∧ w = w' := by
  have HD := Lib.hid (digits_any al w)
  cases h : isAl al with
  | false =>
    have hr : rlen al n = 0 := by unfold rlen; rw [if_neg (by rw [h]; decide)]
    rw [hr]
    rw [dstr_no h] at HD
    clear hr h
    go_enter Try.func14, Try.ntmps14
    go_wp2_with fail
    refine HD.out.mono ?_
    rintro e w1 ⟨rfl, rfl⟩
    go_wp2_with fail
    go_ret
    exact ⟨rfl, rfl⟩
  | true =>
    have hq := eqs_size (s := dstr al) (by rw [dstr_size h]; omega)
    by_cases h3 : n % 3 = 0
    · have hr : (rlen al n : Int) = (n : Int) / 3 * 4 := by
        unfold rlen
        rw [if_pos h]
        split <;> omega
      rw [hr]
      generalize dstr al = s at *
      clear hr h
      go_enter Try.func14, Try.ntmps14
      go_wp2_with fail
      refine HD.out.mono ?_
      rintro e w1 ⟨rfl, rfl⟩
      go_wp2_with fail
      go_ret
      exact ⟨rfl, rfl⟩
    · rcases al_cases h with rfl | rfl
      · have hr : (rlen 1 n : Int) = (n : Int) / 3 * 4 + 4 := by
          unfold rlen
          rw [if_pos h, if_pos rfl]
          omega
        rw [hr]
        generalize dstr 1 = s at *
        clear hr h
        go_enter Try.func14, Try.ntmps14
        go_wp2_with fail
        refine HD.out.mono ?_
        rintro e w1 ⟨rfl, rfl⟩
        go_wp2_with fail
        go_ret
        exact ⟨rfl, rfl⟩
      · have hr : (rlen 2 n : Int) = (n : Int) / 3 * 4 + (n : Int) % 3 + 1 := by
          unfold rlen
          rw [if_pos h, if_neg (by decide)]
          omega
        rw [hr]
        generalize dstr 2 = s at *
        clear hr h
        go_enter Try.func14, Try.ntmps14
        go_wp2_with fail
        refine HD.out.mono ?_
        rintro e w1 ⟨rfl, rfl⟩
        go_wp2_with fail
        go_ret
        exact ⟨rfl, rfl⟩

end Go.Proofs.Ytclfnpggllgepaa
