/- Contracts of package wire: Rest and Word. -/
import Derived.Test.YtdpnfojpeafdhaaDoorWire3
import Derived.Test.YtdpnfojpeafdhaaDoorNum
namespace Go.Proofs.YtdpnfojpeafdhaaDoor
open Go.RowKit

theorem word_ok (n : Nat) (w : World) (g : Nat) (A : Option Addr) (l c k : Nat) (xs : List Int) (h : Rdr w g A l c k) (hs : Sl w A l c xs) (hk : k ≤ l) (hn : n ≤ l - k) (hw : ws (n : Int) = true) :
    Calls Tryd.prog 54 #[.pointer (some ⟨g, 0, none⟩), .int .i64 (n : Int)] w fun e w' => e = .returned (.tuple #[.int .u64 (beI ((xs.drop k).take n)), .bool true]) ∧
      ∃ m, w' = (w.drewN m).setCell ⟨g, 1, none⟩ (.int .i64 ((k + n : Nat) : Int)) := by
  have hcp := hs.cap
  have hbg := hs.big
  unfold maxLen at hbg
  have hn8 : n ≤ 8 := by rcases ws_nat hw with h | h | h | h <;> omega
  have hn1 : 1 ≤ n := by rcases ws_nat hw with h | h | h | h <;> omega
  have hlen : ((xs.drop k).take n).length = n := by have := hs.len; simp; omega
  have hcut := hs.cut (i := k) (m := n) (by omega)
  have hrng := hcut.rng
  obtain ⟨b, o, hA, hc⟩ := hcut.bytes (by omega)
  have hcells : ∀ m i, i < n → ((w.drewN m).setCell ⟨g, 1, none⟩ (.int .i64 ((k + n : Nat) : Int))).cell? ⟨b, o + i, none⟩ = some (.int .u8 (((xs.drop k).take n).getD i 0)) := by
    intro m i hi
    rw [World.cell?_setCell_other]
    · exact hc i hi
    · intro e
      have e2 := hc i hi
      rw [← e, h.c1] at e2
      injection e2 with e2
      injection e2 with e2
      cases e2
  generalize (xs.drop k).take n = ys at hlen hcells hrng ⊢
  have HW := Lib.hid hw
  have HC := Lib.hid hcells
  have HL := Lib.hid hlen
  have HR := Lib.hid hrng
  have H := Lib.hid h
  clear h hs hcells hrng hlen hw hcut hc
  have hw' := isWord_any (n : Int)
  rw [HW.out] at hw'
  have hnx := fun W (hW : W = w) => next_ok n W g A l c k (by subst hW; exact H.out) hk hcp (by omega) hn
  rw [hA] at hnx
  have HN := Lib.hid hnx
  have HI := Lib.hid hw'
  clear hnx hw' hA
  go_enter Tryd.func54, Tryd.ntmps54
  go_wp2_with fail
  refine (HI.out _).mono ?_
  rintro e w' ⟨rfl, rfl⟩
  go_wp2_with fail
  refine (HN.out _ rfl).mono ?_
  rintro e W ⟨rfl, hW⟩
  have HX : Hid (∀ i, i < n → W.cell? ⟨b, o + i, none⟩ = some (.int .u8 (ys.getD i 0))) := by
    obtain ⟨m, rfl⟩ := hW
    exact HC.out m
  have HW2 := Lib.hid hW
  clear hW
  go_wp2_with fail
  go_loop [8, 22] (fun x i => ∃ j : Nat, j ≤ n ∧ i = .int .i64 j ∧ x = .int .u64 (beI (ys.take j))) (fun _ i => n - (intOf i).toNat)
  case atStart => exact ⟨0, Nat.zero_le _, rfl, rfl⟩
  case round =>
    obtain ⟨j, hj, rfl, rfl⟩ := hrel
    by_cases hlt : j < n
    · have hcell := HX.out j hlt
      go_wp2
      go_round
      case rel => exact ⟨j + 1, by omega, by go_num, by rw [word_step ys j (by have := HL.out; omega) (by have := HL.out; omega) HR.out]⟩
      case measure => simp [intOf]; omega
    · go_wp2
      go_ret2
      exact ⟨by rw [List.take_of_length_le (by have := HL.out; omega)]; rfl, HW2.out⟩

/-- Word where there is no word: a wrong size. -/
theorem word_bad (n : Int) (w : World) (p : Option Addr) (hw : ws n = false) :
    Calls Tryd.prog 54 #[.pointer p, .int .i64 n] w fun e w' => e = .returned (.tuple #[.int .u64 0, .bool false]) ∧ w = w' := by
  have hw' := isWord_any n
  rw [hw] at hw'
  have HI := Lib.hid hw'
  clear hw hw'
  go_enter Tryd.func54, Tryd.ntmps54
  go_wp2_with fail
  refine (HI.out _).mono ?_
  rintro e w' ⟨rfl, rfl⟩
  go_wp2_with fail
  go_ret2
  exact ⟨rfl, rfl⟩

/-- A nil reader has no word. -/
theorem word_nil (n : Int) (w : World) (hw : ws n = true) :
    Calls Tryd.prog 54 #[.pointer none, .int .i64 n] w fun e w' => e = .returned (.tuple #[.int .u64 0, .bool false]) ∧ w = w' := by
  have hw' := isWord_any n
  rw [hw] at hw'
  have HI := Lib.hid hw'
  clear hw hw'
  go_enter Tryd.func54, Tryd.ntmps54
  go_wp2_with fail
  refine (HI.out _).mono ?_
  rintro e w' ⟨rfl, rfl⟩
  go_wp2_with fail
  refine (next_nil n _).mono ?_
  rintro e w' ⟨rfl, rfl⟩
  go_wp2_with fail
  go_loop [8, 22] (fun x i => x = .int .u64 0 ∧ i = .int .i64 0) (fun _ _ => 0)
  case atStart => exact ⟨rfl, rfl⟩
  case round =>
    obtain ⟨rfl, rfl⟩ := hrel
    go_wp2
    go_ret2
    exact ⟨rfl, rfl⟩

/-- A word of a right size where there are too few bytes. -/
theorem word_far (n : Int) (w : World) (g : Nat) (A : Option Addr) (l c k : Nat) (h : Rdr w g A l c k) (hk : k ≤ l) (hl : l ≤ 9223372036854775807) (hw : ws n = true) (hn : ((l - k : Nat) : Int) < n) :
    Calls Tryd.prog 54 #[.pointer (some ⟨g, 0, none⟩), .int .i64 n] w fun e w' => e = .returned (.tuple #[.int .u64 0, .bool false]) ∧ ∃ m, w' = w.drewN m := by
  have hw' := isWord_any n
  rw [hw] at hw'
  have HI := Lib.hid hw'
  have H := Lib.hid h
  clear hw hw' h
  go_enter Tryd.func54, Tryd.ntmps54
  go_wp2_with fail
  refine (HI.out _).mono ?_
  rintro e w' ⟨rfl, rfl⟩
  go_wp2_with fail
  refine (next_far n _ g A l c k H.out hk hl hn).mono ?_
  rintro e w' ⟨rfl, m, rfl⟩
  go_wp2_with fail
  go_loop [8, 22] (fun x i => x = .int .u64 0 ∧ i = .int .i64 0) (fun _ _ => 0)
  case atStart => exact ⟨rfl, rfl⟩
  case round =>
    obtain ⟨rfl, rfl⟩ := hrel
    go_wp2
    go_ret2
    exact ⟨rfl, m, rfl⟩

end Go.Proofs.YtdpnfojpeafdhaaDoor
