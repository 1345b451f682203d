/- The reference's reader: what it refuses at once. -/
import Derived.Test.YtmhgpdfllpgjpaaDoorRd10E
import Derived.Handy
namespace Go.Proofs.YtmhgpdfllpgjpaaDoor
open Go.RowKit
set_option linter.unusedVariables false

def ReadP (v : Value) (w : World) (e : Ending) (w' : World) : Prop := e = .returned v ∧ Past w w'
/-- A result without an item. -/
def badV (c q : Int) : Value := .agg #[.int .i64 0, .int .u64 0, .slice none 0 0, .slice none 0 0, .int .i64 0, .int .i64 c, .int .i64 q]

set_option maxHeartbeats 2000000 in
set_option maxRecDepth 100000 in
theorem read_end (w : World) (A : Option Addr) (n c p : Nat) (ab : Int) (hn : n ≤ 1000000000000) (hp : n ≤ p) :
    Calls Tryd.prog 34 #[.slice A n c, .int .i64 (p : Int), .int .i64 ab] w (ReadP (badV 3 n) w) := by
  have h1 : (n : Int) ≤ (p : Int) := by omega
  go_enter Tryd.func34, Tryd.ntmps34
  go_wp2_with fail
  go_returns
  exact ⟨rfl, past_alloc8 _ _⟩
/-- Where a reading stands: a byte, and its two parts. -/
structure At10 (w : World) (A : Option Addr) (n c : Nat) (xs : List Int) (p : Nat) (x : Int) (k l : Nat) : Prop where
  sl : Sl w A n c xs
  lt : p < n
  byte : xs.getD p 0 = x
  rng : 0 ≤ x ∧ x < 256
  div : x.tdiv 32 = (k : Int)
  mod : x.tmod 32 = (l : Int)
theorem at10 {w : World} {A : Option Addr} {n c : Nat} {xs : List Int} {p : Nat} (h : Sl w A n c xs) (hp : p < n) : At10 w A n c xs p (xs.getD p 0) ((xs.getD p 0).toNat / 32) ((xs.getD p 0).toNat % 32) := by
  have hr := h.rng (xs.getD p 0) (by rw [List.getD_eq_getElem?_getD, List.getElem?_eq_getElem (by rw [h.len]; exact hp)]; exact List.getElem_mem _)
  exact ⟨h, hp, rfl, hr, by rw [Int.tdiv_eq_ediv_of_nonneg hr.1]; omega, by rw [Int.tmod_eq_emod_of_nonneg hr.1]; omega⟩

set_option maxHeartbeats 2000000 in
set_option maxRecDepth 100000 in
theorem read_kind (w : World) (A : Option Addr) (n c p : Nat) (xs : List Int) (x : Int) (k l : Nat) (ab : Int) (hn : n ≤ 1000000000000) (h : At10 w A n c xs p x k l) (hk : 5 < k ∨ 27 < l) :
    Calls Tryd.prog 34 #[.slice A n c, .int .i64 (p : Int), .int .i64 ab] w (ReadP (badV 5 p) w) := by
  obtain ⟨b, o, rfl, hc⟩ := h.sl.bytes (by have := h.lt; omega)
  have g0 := hc p h.lt
  rw [h.byte] at g0
  have hlt := h.lt
  have hx := h.rng
  have hdv := h.div
  have hmd := h.mod
  have hp0 : (0 : Int) ≤ (p : Int) := by omega
  have hpn : (p : Int) < (n : Int) := by omega
  have hpp : ¬ (n : Int) ≤ (p : Int) := by omega
  have hxw : IntKind.i64.wrap x = x := IntWalk.i64_in _ (by omega)
  have hk7 : k ≤ 7 := by
    have h2 := hdv
    rw [Int.tdiv_eq_ediv_of_nonneg hx.1] at h2
    omega
  have hkw : wrap64 (k : Int) = (k : Int) := IntWalk.wrap64_in _ (by omega)
  have H := Lib.hid h
  clear h hc
  have g1 : (w.alloc (.cells #[.int .i64 0, .int .u64 0, .slice none 0 0, .slice none 0 0, .int .i64 0, .int .i64 0, .int .i64 0] 36)).cell? ⟨b, o + p, none⟩ = some (.int .u8 x) := by
    rw [Below.cell (past_alloc8 w _) (cell_lt g0)]
    exact g0
  go_enter Tryd.func34, Tryd.ntmps34
  rcases hk with hk | hk
  · have hk2 : (5 : Int) < (k : Int) := by omega
    go_wp2_with fail
    go_returns
    exact ⟨rfl, past_alloc8 _ _⟩
  · have hl2 : (27 : Int) < (l : Int) := by omega
    by_cases hk5 : 5 < k
    · have hk2 : (5 : Int) < (k : Int) := by omega
      go_wp2_with fail
      go_returns
      exact ⟨rfl, past_alloc8 _ _⟩
    · have hk2 : ¬ (5 : Int) < (k : Int) := by omega
      go_wp2_with fail
      go_returns
      exact ⟨rfl, past_alloc8 _ _⟩
set_option maxHeartbeats 2000000 in
set_option maxRecDepth 100000 in
theorem read_deep (w : World) (A : Option Addr) (n c p : Nat) (xs : List Int) (x : Int) (k l : Nat) (ab : Int) (hn : n ≤ 1000000000000) (h : At10 w A n c xs p x k l) (hk : k ≤ 5) (hl : l ≤ 27) (hab : 8 ≤ ab) :
    Calls Tryd.prog 34 #[.slice A n c, .int .i64 (p : Int), .int .i64 ab] w (ReadP (badV 2 p) w) := by
  obtain ⟨b, o, rfl, hc⟩ := h.sl.bytes (by have := h.lt; omega)
  have g0 := hc p h.lt
  rw [h.byte] at g0
  have hlt := h.lt
  have hx := h.rng
  have hdv := h.div
  have hmd := h.mod
  have hp0 : (0 : Int) ≤ (p : Int) := by omega
  have hpn : (p : Int) < (n : Int) := by omega
  have hpp : ¬ (n : Int) ≤ (p : Int) := by omega
  have hxw : IntKind.i64.wrap x = x := IntWalk.i64_in _ (by omega)
  have hk7 : k ≤ 7 := by
    have h2 := hdv
    rw [Int.tdiv_eq_ediv_of_nonneg hx.1] at h2
    omega
  have hkw : wrap64 (k : Int) = (k : Int) := IntWalk.wrap64_in _ (by omega)
  have H := Lib.hid h
  clear h hc
  have g1 : (w.alloc (.cells #[.int .i64 0, .int .u64 0, .slice none 0 0, .slice none 0 0, .int .i64 0, .int .i64 0, .int .i64 0] 36)).cell? ⟨b, o + p, none⟩ = some (.int .u8 x) := by
    rw [Below.cell (past_alloc8 w _) (cell_lt g0)]
    exact g0
  go_enter Tryd.func34, Tryd.ntmps34
  have hk2 : ¬ (5 : Int) < (k : Int) := by omega
  have hl2 : ¬ (27 : Int) < (l : Int) := by omega
  go_wp2_with fail
  go_returns
  exact ⟨rfl, past_alloc8 _ _⟩
end Go.Proofs.YtmhgpdfllpgjpaaDoor
