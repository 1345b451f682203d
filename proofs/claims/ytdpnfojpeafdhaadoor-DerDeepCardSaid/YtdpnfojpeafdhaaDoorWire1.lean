/- Contracts of the small functions of package wire: word sizes, At, Left and the cut that Take and Word share. -/
import Derived.Test.YtdpnfojpeafdhaaDoorD8A
import Derived.Deep.QuietTactic
import Derived.BigQuiet
namespace Go.Proofs.YtdpnfojpeafdhaaDoor
open Go.RowKit

def ws (n : Int) : Bool := decide (n = 1 ∨ n = 2 ∨ n = 4 ∨ n = 8)
theorem ws_nat {n : Int} (h : ws n = true) : n = 1 ∨ n = 2 ∨ n = 4 ∨ n = 8 := by simpa [ws] using h
theorem ws_no {n : Int} (h : ws n = false) : n ≠ 1 ∧ n ≠ 2 ∧ n ≠ 4 ∧ n ≠ 8 := by simpa [ws] using h

theorem isWord_any (n : Int) (w : World) :
    Calls Tryd.prog 65 #[.int .i64 n] w fun e w' => e = .returned (.bool (ws n)) ∧ w = w' := by
  cases hr : ws n with
  | true =>
    rcases ws_nat hr with rfl | rfl | rfl | rfl
    all_goals
      clear hr
      go_enter Tryd.func65, Tryd.ntmps65
      go_wp2
      go_ret
      exact ⟨rfl, rfl⟩
  | false =>
    obtain ⟨h1, h2, h4, h8⟩ := ws_no hr
    clear hr
    have e1 : (n == 1) = false := by simpa using h1
    have e2 : (n == 2) = false := by simpa using h2
    have e4 : (n == 4) = false := by simpa using h4
    have e8 : (n == 8) = false := by simpa using h8
    go_enter Tryd.func65, Tryd.ntmps65
    go_wp2
    go_ret
    exact ⟨rfl, rfl⟩

/-- Block g is a reader over the bytes at A (n of them, capacity c) with the offset k. -/
def Rdr (w : World) (g : Nat) (A : Option Addr) (n c k : Nat) : Prop := w.heap[g]? = some (.cells #[.slice A n c, .int .i64 (k : Int)] 76 (0, 0))

section
variable {w w' : World} {g : Nat} {A : Option Addr} {n c k : Nat}
theorem Rdr.c0 (h : Rdr w g A n c k) : w.cell? ⟨g, 0, none⟩ = some (.slice A n c) := cell_of_row w g 0 _ _ (0, 0) h
theorem Rdr.c1 (h : Rdr w g A n c k) : w.cell? ⟨g, 1, none⟩ = some (.int .i64 (k : Int)) := cell_of_row w g 1 _ _ (0, 0) h
theorem Rdr.fr (h : Rdr w g A n c k) (i : Nat) : w.frozen? ⟨g, i, none⟩ = false := by
  unfold Rdr at h
  simp [World.frozen?, h]
theorem Rdr.lt (h : Rdr w g A n c k) : g < w.heap.size := cell_lt h.c0
theorem Rdr.drewN (h : Rdr w g A n c k) (m : Nat) : Rdr (w.drewN m) g A n c k := h
theorem Rdr.past (h : Rdr w g A n c k) (hb : Past w w') : Rdr w' g A n c k := (hb.block g h.lt).trans h
theorem Rdr.set1 (h : Rdr w g A n c k) (m : Nat) : Rdr (w.setCell ⟨g, 1, none⟩ (.int .i64 (m : Int))) g A n c m := by
  unfold Rdr at h ⊢
  simp [World.setCell, Array.getElem?_modify, h]
/-- No byte lies in a reader's block. -/
theorem Rdr.nobyte (h : Rdr w g A n c k) (p : Addr) (x : Int) (hp : p.block = g) : w.cell? p ≠ some (.int .u8 x) := by
  intro hc
  obtain ⟨b, o, s⟩ := p
  subst hp
  unfold Rdr at h
  simp only [World.cell?, h] at hc
  revert hc
  cases s <;> simp
  rcases o with _ | _ | o <;> simp
end

theorem wat_nil (w : World) : Calls Tryd.prog 27 #[.pointer none] w fun e w' => e = .returned (.int .i64 0) ∧ w = w' := by
  go_enter Tryd.func27, Tryd.ntmps27
  go_wp2
  go_ret
  exact ⟨rfl, rfl⟩
theorem wat_any (w : World) (g : Nat) (A : Option Addr) (n c k : Nat) (h : Rdr w g A n c k) :
    Calls Tryd.prog 27 #[.pointer (some ⟨g, 0, none⟩)] w fun e w' => e = .returned (.int .i64 (k : Int)) ∧ w = w' := by
  have h1 := h.c1
  clear h
  go_enter Tryd.func27, Tryd.ntmps27
  go_wp2
  go_ret
  exact ⟨rfl, rfl⟩

theorem left_nil (w : World) : Calls Tryd.prog 26 #[.pointer none] w fun e w' => e = .returned (.int .i64 0) ∧ ∃ m, w' = w.drewN m := by
  go_enter Tryd.func26, Tryd.ntmps26
  go_wp2
  go_ret
  exact ⟨rfl, 0, rfl⟩
theorem left_any (w : World) (g : Nat) (A : Option Addr) (n c k : Nat) (h : Rdr w g A n c k) (hk : k ≤ n) (hn : n ≤ 9223372036854775807) :
    Calls Tryd.prog 26 #[.pointer (some ⟨g, 0, none⟩)] w fun e w' => e = .returned (.int .i64 ((n - k : Nat) : Int)) ∧ ∃ m, w' = w.drewN m := by
  have h0 := h.c0
  have h1 := h.c1
  have e : ((n - k : Nat) : Int) = (n : Int) - (k : Int) := by omega
  rw [e]
  clear h e
  go_enter Tryd.func26, Tryd.ntmps26
  go_wp2
  go_quiet (fail)
  go_wp2
  go_ret
  exact ⟨rfl, _, rfl⟩

end Go.Proofs.YtdpnfojpeafdhaaDoor
