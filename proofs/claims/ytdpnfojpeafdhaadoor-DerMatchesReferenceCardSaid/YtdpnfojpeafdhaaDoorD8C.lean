/- The program's number of the bytes of a length, and the size of a node's encoding. -/
import Derived.Test.YtdpnfojpeafdhaaDoorD8A
import Derived.Test.YtdpnfojpeafdhaaDoorShelf
namespace Go.Proofs.YtdpnfojpeafdhaaDoor
open Go.RowKit
set_option linter.unusedVariables false

/-- How many bytes a length needs after its first one. -/
def furN (l : Nat) : Nat := if l < 128 then 0 else (numB l).length
theorem lenB_len (l : Nat) : (lenB l).length = 1 + furN l := by
  unfold lenB furN
  split
  · rfl
  · simp; omega
theorem furN_le (l : Nat) (h : l < 256 ^ 4) : furN l ≤ 4 := by
  unfold furN
  split
  · omega
  · exact numB_le 4 l h
theorem bits_num (n : Nat) : n < 18446744073709551616 → (Lib.bitLen n + 7) / 8 = (numB n).length := by
  induction n using Nat.strongRecOn with
  | _ n ih =>
    intro hn
    by_cases h0 : n = 0
    · subst h0
      rw [numB_zero]
      decide
    · rw [numB_pos h0, List.length_append]
      by_cases h1 : n < 256
      · have hd : n / 256 = 0 := by omega
        rw [hd, numB_zero]
        have h8 := Lib.bitLen_le8 ⟨n, h1⟩
        have h2 := Lib.bitLen_half n h0 hn
        simp only [List.length_nil, List.length_cons] at h8 ⊢
        omega
      · have h2 := Lib.bitLen_shift8 n (by omega) hn
        have h3 := ih (n / 256) (by omega) (by omega)
        simp only [List.length_nil, List.length_cons]
        omega

theorem blen_any (n : Nat) (hn : n < 18446744073709551616) (w : World) : Calls Tryd.prog 64 #[.int .u64 (n : Int)] w fun e w' => e = .returned (.int .i64 (Lib.bitLen n)) ∧ w = w' := by
  have H := Lib.hid (fun w => Tryd.bits_Len64 (n : Int) w (by omega) (by omega))
  rw [Int.toNat_natCast] at H
  go_enter Tryd.func64, Tryd.ntmps64
  go_wp2_with fail
  refine (H.out _).mono ?_
  rintro e w' ⟨rfl, rfl⟩
  go_wp2_with fail
  go_ret
  exact ⟨rfl, rfl⟩

theorem further_any (l : Nat) (hl : l < 4294967296) (w : World) : Calls Tryd.prog 53 #[.int .i64 (l : Int)] w fun e w' => e = .returned (.int .i64 (furN l : Int)) ∧ w = w' := by
  by_cases h : l < 128
  · have hi : (l : Int) < 128 := by omega
    have HF : Hid (furN l = 0) := by show _ = _; unfold furN; rw [if_pos h]
    clear h
    go_enter Tryd.func53, Tryd.ntmps53
    go_wp2_with fail
    go_ret
    rw [HF.out]
    exact ⟨rfl, rfl⟩
  · have hi : ¬ (l : Int) < 128 := by omega
    have HF : Hid (furN l = (Lib.bitLen l + 7) / 8) := by show _ = _; unfold furN; rw [if_neg h, bits_num l (by omega)]
    have H := Lib.hid (fun w => blen_any l (by omega) w)
    have hB : Lib.bitLen l ≤ 64 := by
      have h1 := bits_num l (by omega)
      have h2 := numB_le 4 l (by omega)
      omega
    have hwr : IntKind.u64.wrap (l : Int) = (l : Int) := by rw [IntKind.wrap_u64]; omega
    clear h
    generalize Lib.bitLen l = B at *
    have hdv : ((B : Int) + 7).tdiv 8 = (((B + 7) / 8 : Nat) : Int) := by
      rw [Int.tdiv_eq_ediv_of_nonneg (by omega)]
      omega
    go_enter Tryd.func53, Tryd.ntmps53
    go_wp2_with fail
    refine (H.out _).mono ?_
    rintro e w' ⟨rfl, rfl⟩
    go_wp2_with fail
    go_ret
    rw [HF.out]
    exact ⟨by first | rfl | (congr 2; omega), rfl⟩

end Go.Proofs.YtdpnfojpeafdhaaDoor
