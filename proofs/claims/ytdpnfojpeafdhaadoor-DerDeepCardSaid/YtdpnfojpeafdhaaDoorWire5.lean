/- Contracts of Put: the one of package wire. -/
import Derived.Test.YtdpnfojpeafdhaaDoorWire4
namespace Go.Proofs.YtdpnfojpeafdhaaDoor
open Go.RowKit

theorem put_bad (n : Int) (x : Int) (w : World) (hw : ws n = false) :
    Calls Tryd.prog 62 #[.int .i64 n, .int .u64 x] w fun e w' => e = .returned (.tuple #[.slice none 0 0, .bool false]) ∧ w = w' := by
  have hw' := isWord_any n
  rw [hw] at hw'
  have HI := Lib.hid hw'
  clear hw hw'
  go_enter Tryd.func62, Tryd.ntmps62
  go_wp2_with fail
  refine (HI.out _).mono ?_
  rintro e w' ⟨rfl, rfl⟩
  go_wp2_with fail
  go_ret2
  exact ⟨rfl, rfl⟩

theorem put_big (n : Nat) (x : Int) (w : World) (hw : ws (n : Int) = true) (hx : (x / 2 ^ (8 * n) != 0) = true) :
    Calls Tryd.prog 62 #[.int .i64 (n : Int), .int .u64 x] w fun e w' => e = .returned (.tuple #[.slice none 0 0, .bool false]) ∧ w = w' := by
  have hn8 : n ≤ 8 := by rcases ws_nat hw with h | h | h | h <;> omega
  have hw' := isWord_any (n : Int)
  rw [hw] at hw'
  have HI := Lib.hid hw'
  clear hw hw'
  go_enter Tryd.func62, Tryd.ntmps62
  go_wp2_with fail
  refine (HI.out _).mono ?_
  rintro e w' ⟨rfl, rfl⟩
  go_wp2_with fail
  go_ret2
  exact ⟨rfl, rfl⟩

/-- What Put returns where the number fits. -/
def FreshT (w : World) (xs : List Int) (e : Ending) (w' : World) : Prop :=
  ∃ A c, e = .returned (.tuple #[.slice A xs.length c, .bool true]) ∧ w'.ownsRow w.heap.size 5 1 (.slice A xs.length c) xs.length (xs.map (Value.int .u8)) ∧ Past w w'

theorem put_ok (n : Nat) (x : Int) (w : World) (hw : ws (n : Int) = true) (hx : (x / 2 ^ (8 * n) != 0) = false) :
    Calls Tryd.prog 62 #[.int .i64 (n : Int), .int .u64 x] w (FreshT w (beB n x)) := by
  have hn8 : n ≤ 8 := by rcases ws_nat hw with h | h | h | h <;> omega
  have hn1 : 1 ≤ n := by rcases ws_nat hw with h | h | h | h <;> omega
  have hw' := isWord_any (n : Int)
  rw [hw] at hw'
  have HI := Lib.hid hw'
  clear hw hw'
  obtain ⟨i0, hi, hz0, hz1, hz2⟩ := info_parts info8
  go_enter Tryd.func62, Tryd.ntmps62
  go_wp2_with fail
  refine (HI.out _).mono ?_
  rintro e w' ⟨rfl, rfl⟩
  go_wp2_with (at_make; refine wpList_make_full _ rfl _ _ 22 rfl w.heap.size 5 i0 (.int .u8 0) 1 Tryd.underlying22 hi hz0 hz1 .i64 .i64 (n : Int) (n : Int) n rfl rfl rfl rfl (by rw [hz2]; omega) (by unfold maxLen; omega) (Nat.le_refl _) ?_; intro w1 hown hgrow)
  have HO : Hid (w1.ownsRow w.heap.size 5 1 (.slice (some ⟨w.heap.size, 0, none⟩) n n) n (List.replicate (n - 0) (Value.int .u8 0) ++ (beB 0 x).map (Value.int .u8))) := by
    have e : (madeCells (Value.int .u8 0).cells (n * 1)).toList = List.replicate (n - 0) (Value.int .u8 0) ++ (beB 0 x).map (Value.int .u8) := by
      simp [beB, Value.cells, toList_madeCells_one]
    rw [e] at hown
    exact hown
  have HP : Hid (Past w w1) := (Below.refl _ w).grown hgrow (Nat.le_refl _) (by intro k hk; cases hk)
  clear hown hgrow
  go_wp2_with fail
  go_loopw [22] (fun i wr => ∃ j : Nat, j ≤ n ∧ i = .int .i64 j ∧ wr.ownsRow w.heap.size 5 1 (.slice (some ⟨w.heap.size, 0, none⟩) n n) n (List.replicate (n - j) (Value.int .u8 0) ++ (beB j x).map (Value.int .u8)) ∧ Past w wr) (fun i _ => n - (intOf i).toNat)
  case atStart => exact ⟨0, Nat.zero_le _, rfl, HO.out, HP.out⟩
  case round =>
    obtain ⟨j, hj, rfl, ho, hp⟩ := hrel
    by_cases hlt : j < n
    · have hfz := ho.frozenAt (n - 1 - j)
      have hcl : ∃ v, wr.cell? ⟨w.heap.size, n - 1 - j, none⟩ = some v := by
        rw [ho.cellAt (n - 1 - j) (by omega)]
        exact ⟨_, List.getElem?_eq_getElem (by have := ho.1; omega)⟩
      obtain ⟨v, hcl⟩ := hcl
      have G := Lib.hid ho
      have GP := Lib.hid hp
      clear ho hp
      go_wp2
      go_roundw
      case rel =>
        have hst := (G.out.stored (n - 1 - j) (.int .u8 (x / 2 ^ (8 * j) % 256))).1
        rw [two_eight, put_step n j x hlt] at hst
        refine ⟨j + 1, by omega, by go_num, ?_, Below.setCell GP.out (Nat.le_refl _) _⟩
        rw [two_eight]
        exact hst
      case measure => simp [intOf]; omega
    · obtain rfl : j = n := by omega
      have G := Lib.hid ho
      have GP := Lib.hid hp
      clear ho hp
      go_wp2
      go_ret2
      have ho := G.out
      rw [Nat.sub_self, List.replicate_zero, List.nil_append] at ho
      have hl := beB_len j x
      refine ⟨some ⟨w.heap.size, 0, none⟩, j, ?_, ?_, GP.out⟩
      · rw [hl]; rfl
      · rw [hl]; exact ho

end Go.Proofs.YtdpnfojpeafdhaaDoor
