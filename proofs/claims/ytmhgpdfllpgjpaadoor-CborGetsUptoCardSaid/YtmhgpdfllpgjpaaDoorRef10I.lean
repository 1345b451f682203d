/- The reference's test of the shape: bytes and texts. -/
import Derived.Test.YtmhgpdfllpgjpaaDoorRef10H
namespace Go.Proofs.YtmhgpdfllpgjpaaDoor
open Go.RowKit
set_option linter.unusedVariables false

theorem ascii_take (xs : List Int) (i : Nat) (h : i < xs.length) : asciiB (xs.take (i + 1)) = (asciiB (xs.take i) && decide (32 ≤ xs.getD i 0 ∧ xs.getD i 0 ≤ 126)) := by
  have e : xs.take (i + 1) = xs.take i ++ [xs.getD i 0] := by
    rw [List.take_add_one, List.getD_eq_getElem?_getD, List.getElem?_eq_getElem h]
    rfl
  unfold asciiB
  rw [e, List.all_append]
  simp only [List.all_cons, List.all_nil, Bool.and_true]
theorem ascii_at (xs : List Int) (i : Nat) (h : i < xs.length) (hx : xs.getD i 0 < 32 ∨ 126 < xs.getD i 0) : asciiB xs = false := by
  unfold asciiB
  rw [List.all_eq_false]
  rw [List.getD_eq_getElem?_getD, List.getElem?_eq_getElem h] at hx
  refine ⟨xs[i], List.getElem_mem h, ?_⟩
  simp only [Option.getD_some] at hx
  simp only [decide_eq_true_iff]
  omega

set_option maxHeartbeats 2000000 in
set_option maxRecDepth 100000 in
theorem sgood_2 (w : World) (A K : Option Addr) (n c d : Nat) (hn : n ≤ 1000000000000) :
    Calls Tryd.prog 39 #[.agg #[.int .i64 2, .int .u64 0, .slice A n c, .slice K 0 d]] w (ShapeP true w) := by
  have HR : Hid (Iw w w (w.alloc (.cells #[.int .i64 2, .int .u64 0, .slice A n c, .slice K 0 d] 34)) w.heap.size 2 0 A n c K 0 d) := Lib.hid ⟨past_alloc8 _ _, past_alloc8 _ _, Row.new _ _ _⟩
  go_enter Tryd.func39, Tryd.ntmps39
  go_wp2_with fail
  generalize w.alloc (.cells #[.int .i64 2, .int .u64 0, .slice A n c, .slice K 0 d] 34) = w1 at *
  generalize w.heap.size = g at *
  go_loopg [3] n (fun k s3 wx => ∃ i : Nat, i ≤ n ∧ k = n - i ∧ s3 = .int .i64 (i : Int) ∧ wx = w1)
  case atStart => exact ⟨0, Nat.zero_le _, rfl, rfl, rfl⟩
  case round =>
    obtain ⟨i, hi, hgk, rfl, rfl⟩ := hrel
    have HGK := Lib.hid hgk
    clear hgk
    have f0 : wr.cell? ⟨g, 0, none⟩ = some (.int .i64 2) := HR.out.row.cell 0
    have f2 : wr.cell? ⟨g, 2, none⟩ = some (.slice A n c) := HR.out.row.cell 2
    by_cases hlt : i < n
    · have hi0 : (0 : Int) ≤ (i : Int) := by omega
      have hin : (i : Int) < (n : Int) := by omega
      go_wp2_with fail
      go_roundg (n - (i + 1))
      case rel => exact ⟨i + 1, by omega, rfl, by go_num, rfl⟩
      case measure => have := HGK.out; omega
    · obtain rfl : i = n := by omega
      go_wp2_with fail
      go_loopg [4] 0 (fun k s4 wx => k = 0 ∧ s4 = .int .i64 0 ∧ wx = wr)
      case atStart => exact ⟨rfl, rfl, rfl⟩
      case round =>
        obtain ⟨_, rfl, rfl⟩ := hrel
        have f3 : wr.cell? ⟨g, 3, none⟩ = some (.slice K 0 d) := HR.out.row.cell 3
        go_wp2_with fail
        go_ret
        exact ⟨rfl, HR.out.past⟩

set_option maxHeartbeats 2000000 in
set_option maxRecDepth 100000 in
theorem sgood_3 (w : World) (A K : Option Addr) (n c d : Nat) (xs : List Int) (hn : n ≤ 1000000000000) (hb : Sl w A n c xs) :
    Calls Tryd.prog 39 #[.agg #[.int .i64 3, .int .u64 0, .slice A n c, .slice K 0 d]] w (ShapeP (asciiB xs) w) := by
  have HR : Hid (Iw w w (w.alloc (.cells #[.int .i64 3, .int .u64 0, .slice A n c, .slice K 0 d] 34)) w.heap.size 3 0 A n c K 0 d) := Lib.hid ⟨past_alloc8 _ _, past_alloc8 _ _, Row.new _ _ _⟩
  have HB := Lib.hid (hb.past (past_alloc8 w (.cells #[.int .i64 3, .int .u64 0, .slice A n c, .slice K 0 d] 34)))
  clear hb
  go_enter Tryd.func39, Tryd.ntmps39
  go_wp2_with fail
  generalize w.alloc (.cells #[.int .i64 3, .int .u64 0, .slice A n c, .slice K 0 d] 34) = w1 at *
  generalize w.heap.size = g at *
  go_loopg [3] n (fun k s3 wx => ∃ i : Nat, i ≤ n ∧ k = n - i ∧ s3 = .int .i64 (i : Int) ∧ wx = w1 ∧ Hid (asciiB (xs.take i) = true))
  case atStart => exact ⟨0, Nat.zero_le _, rfl, rfl, rfl, Lib.hid rfl⟩
  case round =>
    obtain ⟨i, hi, hgk, rfl, rfl, HA⟩ := hrel
    have HGK := Lib.hid hgk
    clear hgk
    have f0 : wr.cell? ⟨g, 0, none⟩ = some (.int .i64 3) := HR.out.row.cell 0
    have f2 : wr.cell? ⟨g, 2, none⟩ = some (.slice A n c) := HR.out.row.cell 2
    by_cases hlt : i < n
    · have hi0 : (0 : Int) ≤ (i : Int) := by omega
      have hin : (i : Int) < (n : Int) := by omega
      obtain ⟨b, o, rfl, hc⟩ := HB.out.bytes (by omega)
      have g1 := hc i hlt
      have HX : Hid (asciiB (xs.take (i + 1)) = (asciiB (xs.take i) && decide (32 ≤ xs.getD i 0 ∧ xs.getD i 0 ≤ 126))) := Lib.hid (ascii_take xs i (by rw [HB.out.len]; exact hlt))
      have HF : Hid (xs.getD i 0 < 32 ∨ 126 < xs.getD i 0 → asciiB xs = false) := Lib.hid (fun h => ascii_at xs i (by rw [HB.out.len]; exact hlt) h)
      clear hc
      generalize xs.getD i 0 = x at *
      by_cases hlo : x < 32
      · have HF2 := Lib.hid (HF.out (Or.inl hlo))
        go_wp2_with fail
        go_ret
        rw [HF2.out]
        exact ⟨rfl, HR.out.past⟩
      · by_cases hhi : 126 < x
        · have HF2 := Lib.hid (HF.out (Or.inr hhi))
          go_wp2_with fail
          go_ret
          rw [HF2.out]
          exact ⟨rfl, HR.out.past⟩
        · have HX2 : Hid (asciiB (xs.take (i + 1)) = true) := Lib.hid (by rw [HX.out, HA.out, decide_eq_true (by omega)]; rfl)
          go_wp2_with fail
          go_roundg (n - (i + 1))
          case rel => exact ⟨i + 1, by omega, rfl, by go_num, rfl, HX2⟩
          case measure => have := HGK.out; omega
    · obtain rfl : i = n := by omega
      have HT : Hid (asciiB xs = true) := Lib.hid (by
        have h := HA.out
        rwa [List.take_of_length_le (by rw [HB.out.len]; exact Nat.le_refl _)] at h)
      go_wp2_with fail
      go_loopg [4] 0 (fun k s4 wx => k = 0 ∧ s4 = .int .i64 0 ∧ wx = wr)
      case atStart => exact ⟨rfl, rfl, rfl⟩
      case round =>
        obtain ⟨_, rfl, rfl⟩ := hrel
        have f3 : wr.cell? ⟨g, 3, none⟩ = some (.slice K 0 d) := HR.out.row.cell 3
        go_wp2_with fail
        go_ret
        rw [HT.out]
        exact ⟨rfl, HR.out.past⟩
end Go.Proofs.YtmhgpdfllpgjpaaDoor
