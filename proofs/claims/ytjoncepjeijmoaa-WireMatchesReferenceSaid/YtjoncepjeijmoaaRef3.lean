/- Contracts of the reference reader: Word where there is one. -/
import Derived.Test.YtjoncepjeijmoaaRef2
namespace Go.Proofs.Ytjoncepjeijmoaa
open Go.RowKit

def RWord (w : World) (A : Option Addr) (l c k : Nat) (x : Int) (e : Ending) (w' : World) : Prop :=
  e = .returned (.tuple #[.agg #[.slice A l c, .int .i64 (k : Int)], .int .u64 x, .bool true]) ∧ Past w w'

theorem rword_ok (n : Nat) (w : World) (A : Option Addr) (l c k : Nat) (xs : List Int) (hs : Sl w A l c xs) (hk : k ≤ l) (hl : l ≤ 140737488355328) (hn : n ≤ l - k) (hw : ws (n : Int) = true) :
    Calls Try.prog 12 #[.agg #[.slice A l c, .int .i64 (k : Int)], .int .i64 (n : Int)] w (RWord w A l c (k + n) (beI ((xs.drop k).take n))) := by
  have hn8 : n ≤ 8 := by rcases ws_nat hw with h | h | h | h <;> omega
  have hc := fun W (hW : Past w W) => rtake_ok n W A l c k xs (hs.past hW) hk hl hn
  have hlen : ((xs.drop k).take n).length = n := by have := hs.len; simp; omega
  have hrng : ∀ x ∈ (xs.drop k).take n, 0 ≤ x ∧ x < 256 := fun x hx => hs.rng x (List.mem_of_mem_drop (List.mem_of_mem_take hx))
  generalize (xs.drop k).take n = ys at hc hlen hrng ⊢
  have H := Lib.hid hc
  have HL := Lib.hid hlen
  have HR := Lib.hid hrng
  have HN := Lib.hid hn
  clear hc hs hlen hrng hn
  have hcase : ((n : Int) != 1) = false ∨ (((n : Int) != 1) = true ∧ ((n : Int) != 2) = false) ∨ (((n : Int) != 1) = true ∧ ((n : Int) != 2) = true ∧ ((n : Int) != 4) = false) ∨
      (((n : Int) != 1) = true ∧ ((n : Int) != 2) = true ∧ ((n : Int) != 4) = true ∧ ((n : Int) != 8) = false) := by
    rcases ws_nat hw with h | h | h | h <;> simp [h]
  clear hw
  obtain ⟨N, hN⟩ : ∃ N : Int, N = (n : Int) := ⟨_, rfl⟩
  rw [← hN] at H hcase ⊢
  have hN1 : N ≤ (n : Int) := by omega
  have hN2 : (n : Int) ≤ N := by omega
  clear hN
  rcases hcase with t1 | ⟨t1, t2⟩ | ⟨t1, t2, t3⟩ | ⟨t1, t2, t3, t4⟩
  all_goals
    go_enter Try.func12, Try.ntmps12
    go_wp2_with fail
    refine (H.out _ (((Below.refl _ w).alloc (Nat.le_refl _) _).alloc (by simp) _)).mono ?_
    rintro e w1 ⟨A1, c1, rfl, ho, hp⟩
    obtain ⟨r0, r1, hz, hq⟩ := two_rows hp
    have e0 : w1.cell? ⟨w.heap.size, 0, none⟩ = some (.slice A l c) := r0.cell 0
    have e1 : w1.cell? ⟨w.heap.size, 1, none⟩ = some (.int .i64 (k : Int)) := r0.cell 1
    have e2 : w1.cell? ⟨w.heap.size + 1, 0, none⟩ = some (.slice none 0 0) := r1.cell 0
    have e3 : w1.cell? ⟨w.heap.size + 1, 1, none⟩ = some (.int .i64 0) := r1.cell 1
    have f2 := r1.fr 0
    have f3 := r1.fr 1
    have hz0 : w.heap.size < w1.heap.size := by omega
    have HP := Lib.hid hq
    have hsl := Sl.of_own ho HR.out
    have hcl := hsl.bytes
    rw [HL.out] at hcl
    have hc1 : n ≤ c1 := by have := hsl.cap; have := HL.out; omega
    have HC := Lib.hid hcl
    clear hp r0 r1 hq ho hsl hcl
    rw [HL.out]
    go_wp2_with fail
    go_loop [10, 11] (fun x i => ∃ j : Nat, j ≤ n ∧ i = .int .i64 j ∧ x = .int .u64 (beI (ys.take j))) (fun _ i => n - (intOf i).toNat)
    case atStart => exact ⟨0, Nat.zero_le _, rfl, rfl⟩
    case round =>
      obtain ⟨j, hj, rfl, rfl⟩ := hrel
      by_cases hlt : j < n
      · obtain ⟨b, o, rfl, hb⟩ := HC.out (by omega)
        have hcell := hb j hlt
        have hbl : b < w1.heap.size := cell_lt hcell
        clear hb
        go_wp2
        go_round
        case rel => exact ⟨j + 1, by omega, by go_num, by rw [word_step2 ys j (by have := HL.out; omega) (by have := HL.out; omega) HR.out]⟩
        case measure => simp [intOf]; omega
      · obtain rfl : j = n := by omega
        have HJ : Hid (ys.take j = ys) := List.take_of_length_le (by have := HL.out; omega)
        rw [HJ.out]
        go_wp2
        refine bodyPost_ret (v := .tuple #[.agg #[.slice A l c, .int .i64 ((k + j : Nat) : Int)], .int .u64 (beI ys), .bool true]) (by simp [results, Try.results12, go_sem, e2, e3, hz]) rfl ⟨rfl, ?_⟩
        exact ((HP.out.setCell (by simp) _).setCell (by simp) _).alloc (by simp; omega) _

end Go.Proofs.Ytjoncepjeijmoaa
