/- Contracts of the reference Put. -/
import Derived.Test.YtjoncepjeijmoaaRef3
namespace Go.Proofs.Ytjoncepjeijmoaa
open Go.RowKit

theorem rput_bad (n : Int) (x : Int) (w : World) (hw : ws n = false) :
    Calls Try.prog 18 #[.int .i64 n, .int .u64 x] w fun e w' => e = .returned (.tuple #[.slice none 0 0, .bool false]) ∧ w = w' := by
  obtain ⟨h1, h2, h4, h8⟩ := ws_no hw
  have e1 : (n != 1) = true := by simpa using h1
  have e2 : (n != 2) = true := by simpa using h2
  have e4 : (n != 4) = true := by simpa using h4
  have e8 : (n != 8) = true := by simpa using h8
  clear hw h1 h2 h4 h8
  go_enter Try.func18, Try.ntmps18
  go_wp2
  go_ret2
  exact ⟨rfl, rfl⟩

/-- What Put of the reference returns. -/
def RPut (n : Nat) (x : Int) (w : World) (e : Ending) (w' : World) : Prop :=
  if x / 256 ^ n = 0 then FreshT w (beB n x) e w' else e = .returned (.tuple #[.slice none 0 0, .bool false]) ∧ Past w w'

theorem rput_any (n : Nat) (x : Int) (w : World) (hw : ws (n : Int) = true) (h0 : 0 ≤ x) (h1 : x < 18446744073709551616) :
    Calls Try.prog 18 #[.int .i64 (n : Int), .int .u64 x] w (RPut n x w) := by
  have hn8 : n ≤ 8 := by rcases ws_nat hw with h | h | h | h <;> omega
  have hcase : ((n : Int) != 1) = false ∨ (((n : Int) != 1) = true ∧ ((n : Int) != 2) = false) ∨ (((n : Int) != 1) = true ∧ ((n : Int) != 2) = true ∧ ((n : Int) != 4) = false) ∨
      (((n : Int) != 1) = true ∧ ((n : Int) != 2) = true ∧ ((n : Int) != 4) = true ∧ ((n : Int) != 8) = false) := by
    rcases ws_nat hw with h | h | h | h <;> simp [h]
  clear hw
  obtain ⟨N, hN⟩ : ∃ N : Int, N = (n : Int) := ⟨_, rfl⟩
  rw [← hN] at hcase ⊢
  have hN1 : N ≤ (n : Int) := by omega
  have hN2 : (n : Int) ≤ N := by omega
  clear hN
  obtain ⟨i0, hi, hz0, hz1, hz2⟩ := info_parts info8
  have HX := Lib.hid h0
  have HX1 := Lib.hid h1
  clear h0 h1
  rcases hcase with t1 | ⟨t1, t2⟩ | ⟨t1, t2, t3⟩ | ⟨t1, t2, t3, t4⟩
  all_goals
    go_enter Try.func18, Try.ntmps18
    go_wp2_with fail
    go_loopw [1, 6, 7] (fun y v i wr => ∃ j : Nat, j ≤ n ∧ i = .int .i64 j ∧ y = .int .u64 (x / 256 ^ j) ∧ wr.ownsRow w.heap.size 5 1 v j ((beB j x).map (Value.int .u8)) ∧ Past w wr) (fun _ _ i _ => n - (intOf i).toNat)
    case atStart => exact ⟨0, Nat.zero_le _, rfl, by simp, World.ownsRow_nil _ _ _ _, Below.refl _ _⟩
    case round =>
      obtain ⟨j, hj, rfl, rfl, ho, hp⟩ := hrel
      obtain ⟨A, c, rfl⟩ := own_slice ho
      have hy0 : 0 ≤ x / 256 ^ j := Int.ediv_nonneg HX.out (Int.pow_nonneg (by decide))
      generalize hy : x / 256 ^ j = y at hy0 ⊢
      have HY := Lib.hid hy
      have HO := Lib.hid ho
      have HP := Lib.hid hp
      clear hy ho hp
      by_cases hlt : j < n
      · have hs : Sl wr A j c (beB j x) := Sl.of_own HO.out (beB_rng j x)
        have HS := Lib.hid hs
        clear hs
        go_wp2_with (at_builtin; refine wpList_append_sl rfl _ _ 22 5 rfl Try.underlying22 info8 w.heap.size _ 1 [y % 256] rfl (own_one _ _ _ rfl HP.out.size) A j c (beB j x) rfl (HS.out.past ((Below.refl _ _).alloc (Nat.le_refl _) _)) (by omega) (by have := HP.out.size; simp only [World.size_alloc]; omega) ?_; intro v' w1 hown hgrow)
        have HO1 := Lib.hid hown
        have HG := Lib.hid hgrow
        clear hown hgrow
        go_wp2
        go_roundw
        case rel =>
          refine ⟨j + 1, by omega, by go_num, ?_, ?_, ?_⟩
          · have hle : y ≤ x := by rw [← HY.out]; exact Int.ediv_le_self _ HX.out
            rw [Int.pow_succ, ← Int.ediv_ediv_of_nonneg (Int.pow_nonneg (by decide)), HY.out, u64_div y hy0 (Int.lt_of_le_of_lt hle HX1.out)]
          · have h := HO1.out
            rw [Nat.add_comm 1 j] at h
            rw [beB, HY.out]
            exact h
          · exact (HP.out.alloc HP.out.size _).grown HG.out (by have := HP.out.size; simp only [World.size_alloc]; omega) (by intro g hg; have h1 : (Value.slice (some ⟨wr.heap.size, 0, none⟩) 1 1).ownBlock = some g := hg; have := HP.out.size; simp [Value.ownBlock] at h1; omega)
        case measure => simp [intOf]; omega
      · obtain rfl : j = n := by omega
        by_cases hz : y = 0
        · subst hz
          go_wp2
          go_ret2
          unfold RPut
          rw [if_pos HY.out]
          have hl := beB_len j x
          exact ⟨A, c, by rw [hl]; rfl, by rw [hl]; exact HO.out, HP.out⟩
        · have hy1 : 0 < y := by omega
          have HZ := Lib.hid hz
          clear hz
          go_wp2
          go_ret2
          unfold RPut
          rw [if_neg (by rw [HY.out]; exact HZ.out)]
          exact ⟨rfl, HP.out⟩

end Go.Proofs.Ytjoncepjeijmoaa
