/- The digits of a number as package strconv writes them, whatever its table of powers holds: the same digits each time. -/
import Derived.Test.YtjaklopkammmdaaDoorRows
import Derived.Test.YtjaklopkammmdaaDoorBase
import Derived.Lib.ItoaWalk
import Derived.RegionTactic
import Derived.BigCall
import Derived.BigGuard
import Derived.CellFam
namespace Go.Proofs.YtjaklopkammmdaaDoor
open Go.RowKit Go.Lib

def b8 (x : UInt8) : Value := .int .u8 (x.toNat : Int)
/-- Two digits of x (below 100) at the cells i and i + 1. -/
def pr (cs : Array Value) (i x : Nat) : Array Value := (cs.setIfInBounds (i + 1) (b8 (sm (x * 2 + 1)))).setIfInBounds i (b8 (sm (x * 2)))
theorem pr_size (cs : Array Value) (i x : Nat) : (pr cs i x).size = cs.size := by simp [pr]
section
variable (off : Nat)
def f8 (nd v : Nat) (cs : Array Value) : Array Value :=
  pr (pr (pr (pr cs (off + (nd - 2)) (v % 100)) (off + (nd - 4)) (v % 10000 / 100)) (off + (nd - 6)) (v % 100000000 / 10000 % 100)) (off + (nd - 8)) (v % 100000000 / 10000 / 100)
theorem f8_size (nd v : Nat) (cs : Array Value) : (f8 off nd v cs).size = cs.size := by simp [f8, pr_size]
def f1 (nd y : Nat) (cs : Array Value) : Array Value := if 0 < nd then cs.setIfInBounds off (.int .u8 (((48 + y) % 4294967296 % 256 : Nat) : Int)) else cs
def f2 (nd y : Nat) (cs : Array Value) : Array Value := if 2 ≤ nd then f1 off (nd - 2) (y / 100) (pr cs (off + (nd - 2)) (y % 100)) else f1 off nd y cs
def f4 (nd y : Nat) (cs : Array Value) : Array Value := if 4 ≤ nd then f2 off (nd - 4) (y / 10000) (pr (pr cs (off + (nd - 2)) (y % 100)) (off + (nd - 4)) (y % 10000 / 100)) else f2 off nd y cs
def fRun (nd v : Nat) (cs : Array Value) : Array Value :=
  if 8 ≤ nd then fRun (nd - 8) (v / 100000000) (f8 off nd v cs) else f4 off nd (v % 4294967296) cs
theorem fRun_ge (nd v : Nat) (cs : Array Value) (h : 8 ≤ nd) : fRun off nd v cs = fRun off (nd - 8) (v / 100000000) (f8 off nd v cs) := by rw [fRun, if_pos h]
theorem fRun_lt (nd v : Nat) (cs : Array Value) (h : nd < 8) : fRun off nd v cs = f4 off nd (v % 4294967296) cs := by rw [fRun, if_neg (by omega)]
end

/-- Block g holds the digits so far, and only this block has changed. -/
structure Now (w wr : World) (g : Nat) (c : Array Value) (n : Nat) : Prop where
  row : Row wr g 111 c
  size : n ≤ c.size
  only : w.grownBy wr (some g)
theorem Now.pair {w wr : World} {g n : Nat} {c : Array Value} (h : Now w wr g c n) (i x : Nat) :
    Now w ((wr.setCell ⟨g, i + 1, none⟩ (b8 (sm (x * 2 + 1)))).setCell ⟨g, i, none⟩ (b8 (sm (x * 2)))).drew g (pr c i x) n :=
  ⟨(h.row.set _ _).set _ _, by rw [pr_size]; exact h.size, only_drewN (only_setCell (only_setCell h.only (.inl rfl) _) (.inl rfl) _) 1⟩
theorem Now.one {w wr : World} {g n : Nat} {c : Array Value} (h : Now w wr g c n) (i : Nat) (x : Value) : Now w (wr.setCell ⟨g, i, none⟩ x) g (c.setIfInBounds i x) n :=
  ⟨h.row.set _ _, by simpa using h.size, only_setCell h.only (.inl rfl) _⟩
theorem Now.last {w wr : World} {g n : Nat} {c : Array Value} (h : Now w wr g c n) (i : Nat) (z z' : Int) (hz : z = z') : Now w (wr.setCell ⟨g, i, none⟩ (.int .u8 z)) g (c.setIfInBounds i (.int .u8 z')) n := by
  subst hz
  exact h.one i _
theorem Now.cells {w wr : World} {g off len : Nat} {c : Array Value} (h : Now w wr g c (off + len)) : ∃ G : Nat → Value, ∀ i, i < len → wr.cell? ⟨g, off + i, none⟩ = some (G i) :=
  ⟨fun i => c.getD (off + i) undef, fun i hi => by
    have := h.size
    rw [h.row.cell]
    simp [Array.getD, show off + i < c.size by omega]⟩

theorem last7 (v : Nat) : (48 + (v : Int) % 4294967296 / 10000 / 100) % 256 = (((48 + v % 4294967296 / 10000 / 100) % 4294967296 % 256 : Nat) : Int) := by
  have h : ((v % 4294967296 : Nat) : Int) = (v : Int) % 4294967296 := by omega
  have hb : v % 4294967296 < 4294967296 := by omega
  rw [← h]
  generalize v % 4294967296 = y at hb
  omega

set_option maxHeartbeats 8000000 in
set_option maxRecDepth 100000 in
theorem fmt_any (g off len cap u : Nat) (cs : Array Value) (w : World) (hg : Row w g 111 cs) (hcs : off + len ≤ cs.size) (hl : len ≤ 20) (hu : u < 18446744073709551616) :
    Calls Tryd.prog 52 #[.slice (some ⟨g, off, none⟩) len cap, .int .u64 (u : Int)] w fun e w' =>
      e = .returned (.tuple #[]) ∧ Now w w' g (fRun off len u cs) (off + len) := by
  have HG : Hid (Now w w g cs (off + len)) := ⟨hg, hcs, World.grownBy.refl w _⟩
  generalize hR : fRun off len u cs = R
  have HR := Lib.hid hR
  clear hg hcs hR
  go_enter Tryd.func52, Tryd.ntmps52
  go_name_bytes SM hSM
  have eSM : SM = Lib.smalls := by rw [← hSM]; decide +kernel
  subst eSM
  clear hSM
  go_wp2
  go_loopw [1, 4] (fun vu vn wr => ∃ (nd v : Nat) (c : Array Value), nd ≤ len ∧ v < 18446744073709551616 ∧ vu = .int .u64 (v : Int) ∧ vn = .int .i64 (nd : Int) ∧ Hid (fRun off nd v c = R) ∧ Hid (Now w wr g c (off + len))) (fun _ vn _ => (RowKit.intOf vn).toNat)
  case atStart => exact ⟨len, u, cs, Nat.le_refl _, hu, rfl, rfl, HR, HG⟩
  case round =>
    clear HG HR hu
    obtain ⟨nd, v, c, hnd, hv, rfl, rfl, HI, HN⟩ := hrel
    by_cases h8 : 8 ≤ nd
    · obtain ⟨m, rfl⟩ : ∃ m, nd = m + 8 := ⟨nd - 8, by omega⟩
      have HI2 : Hid (fRun off m (v / 100000000) (f8 off (m + 8) v c) = R) := by
        have h := HI.out
        rw [fRun_ge _ _ _ _ (by omega)] at h
        exact h
      clear HI
      go_wp2
      obtain ⟨G0, hc0⟩ := HN.out.cells
      have hf0 : ∀ t, t < len → (wr).frozen? ⟨g, off + t, none⟩ = false := fun t _ => HN.out.row.fr _
      go_name_slot 9 x0 hx0
      have hxe0 : x0 = (((v % 100) * 2 : Nat) : Int) := by omega
      have hXa0 : ∀ w, (Instr.index 9 (.string Lib.smalls) (.int .u32 (x0 + 1))).run Tryd.prog w = .ok (.int .u8 ((sm ((v % 100) * 2 + 1)).toNat : Int)) w := idx_smalls 9 Tryd.underlying9 .u32 _ _ (by omega) (by omega)
      have hXb0 : ∀ w, (Instr.index 9 (.string Lib.smalls) (.int .u32 x0)).run Tryd.prog w = .ok (.int .u8 ((sm ((v % 100) * 2)).toNat : Int)) w := idx_smalls 9 Tryd.underlying9 .u32 _ _ (by omega) (by omega)
      have hlo0 : 0 ≤ x0 := by omega
      have hhi0 : x0 ≤ 198 := by omega
      clear hx0 hxe0
      go_region
      go_wp2
      go_name_world W0 hW0
      have HN0 : Hid (Now w W0 g (pr c (off + (m + 6)) (v % 100)) (off + len)) := by
        rw [← hW0]
        exact HN.out.pair (off + (m + 6)) ((v % 100))
      clear hW0 hc0 hf0 HN hXa0 hXb0
      obtain ⟨G1, hc1⟩ := HN0.out.cells
      have hf1 : ∀ t, t < len → (W0).frozen? ⟨g, off + t, none⟩ = false := fun t _ => HN0.out.row.fr _
      go_name_slot 8 x1 hx1
      have hxe1 : x1 = (((v % 10000 / 100) * 2 : Nat) : Int) := by omega
      have hXa1 : ∀ w, (Instr.index 9 (.string Lib.smalls) (.int .u32 (x1 + 1))).run Tryd.prog w = .ok (.int .u8 ((sm ((v % 10000 / 100) * 2 + 1)).toNat : Int)) w := idx_smalls 9 Tryd.underlying9 .u32 _ _ (by omega) (by omega)
      have hXb1 : ∀ w, (Instr.index 9 (.string Lib.smalls) (.int .u32 x1)).run Tryd.prog w = .ok (.int .u8 ((sm ((v % 10000 / 100) * 2)).toNat : Int)) w := idx_smalls 9 Tryd.underlying9 .u32 _ _ (by omega) (by omega)
      have hlo1 : 0 ≤ x1 := by omega
      have hhi1 : x1 ≤ 198 := by omega
      clear hx1 hxe1
      go_region
      go_wp2
      go_name_world W1 hW1
      have HN1 : Hid (Now w W1 g (pr (pr c (off + (m + 6)) (v % 100)) (off + (m + 4)) (v % 10000 / 100)) (off + len)) := by
        rw [← hW1]
        exact HN0.out.pair (off + (m + 4)) ((v % 10000 / 100))
      clear hW1 hc1 hf1 HN0 hXa1 hXb1
      obtain ⟨G2, hc2⟩ := HN1.out.cells
      have hf2 : ∀ t, t < len → (W1).frozen? ⟨g, off + t, none⟩ = false := fun t _ => HN1.out.row.fr _
      go_name_slot 11 x2 hx2
      have hxe2 : x2 = (((v % 100000000 / 10000 % 100) * 2 : Nat) : Int) := by omega
      have hXa2 : ∀ w, (Instr.index 9 (.string Lib.smalls) (.int .u32 (x2 + 1))).run Tryd.prog w = .ok (.int .u8 ((sm ((v % 100000000 / 10000 % 100) * 2 + 1)).toNat : Int)) w := idx_smalls 9 Tryd.underlying9 .u32 _ _ (by omega) (by omega)
      have hXb2 : ∀ w, (Instr.index 9 (.string Lib.smalls) (.int .u32 x2)).run Tryd.prog w = .ok (.int .u8 ((sm ((v % 100000000 / 10000 % 100) * 2)).toNat : Int)) w := idx_smalls 9 Tryd.underlying9 .u32 _ _ (by omega) (by omega)
      have hlo2 : 0 ≤ x2 := by omega
      have hhi2 : x2 ≤ 198 := by omega
      clear hx2 hxe2
      go_region
      go_wp2
      go_name_world W2 hW2
      have HN2 : Hid (Now w W2 g (pr (pr (pr c (off + (m + 6)) (v % 100)) (off + (m + 4)) (v % 10000 / 100)) (off + (m + 2)) (v % 100000000 / 10000 % 100)) (off + len)) := by
        rw [← hW2]
        exact HN1.out.pair (off + (m + 2)) ((v % 100000000 / 10000 % 100))
      clear hW2 hc2 hf2 HN1 hXa2 hXb2
      obtain ⟨G3, hc3⟩ := HN2.out.cells
      have hf3 : ∀ t, t < len → (W2).frozen? ⟨g, off + t, none⟩ = false := fun t _ => HN2.out.row.fr _
      go_name_slot 10 x3 hx3
      have hxe3 : x3 = (((v % 100000000 / 10000 / 100) * 2 : Nat) : Int) := by omega
      have hXa3 : ∀ w, (Instr.index 9 (.string Lib.smalls) (.int .u32 (x3 + 1))).run Tryd.prog w = .ok (.int .u8 ((sm ((v % 100000000 / 10000 / 100) * 2 + 1)).toNat : Int)) w := idx_smalls 9 Tryd.underlying9 .u32 _ _ (by omega) (by omega)
      have hXb3 : ∀ w, (Instr.index 9 (.string Lib.smalls) (.int .u32 x3)).run Tryd.prog w = .ok (.int .u8 ((sm ((v % 100000000 / 10000 / 100) * 2)).toNat : Int)) w := idx_smalls 9 Tryd.underlying9 .u32 _ _ (by omega) (by omega)
      have hlo3 : 0 ≤ x3 := by omega
      have hhi3 : x3 ≤ 198 := by omega
      clear hx3 hxe3
      go_region
      go_wp2
      go_roundw
      case rel => exact ⟨m, v / 100000000, _, by omega, by omega, by first | rfl | go_num | (congr 1; omega), by first | rfl | go_num | (congr 1; omega), HI2, HN2.out.pair (off + m) (v % 100000000 / 10000 / 100)⟩
      case measure => simp [RowKit.intOf]; omega
    · have HI2 : Hid (f4 off nd (v % 4294967296) c = R) := by
        have h := HI.out
        rw [fRun_lt _ _ _ _ (by omega)] at h
        exact h
      clear HI
      have hc8 : nd = 0 ∨ nd = 1 ∨ nd = 2 ∨ nd = 3 ∨ nd = 4 ∨ nd = 5 ∨ nd = 6 ∨ nd = 7 := by omega
      clear h8
      rcases hc8 with rfl | rfl | rfl | rfl | rfl | rfl | rfl | rfl
      · have HI3 : Hid (c = R) := by
          have h := HI2.out
          rw [f4, if_neg (by decide), f2, if_neg (by decide), f1, if_neg (by decide)] at h
          exact h
        clear HI2
        go_wp2
        go_end0
        exact ⟨rfl, by rw [← HI3.out]; exact HN.out⟩
      · have HI3 : Hid ((c).setIfInBounds off (.int .u8 (((48 + v % 4294967296) % 4294967296 % 256 : Nat) : Int)) = R) := by
          have h := HI2.out
          rw [f4, if_neg (by decide), f2, if_neg (by decide), f1, if_pos (by decide)] at h
          exact h
        clear HI2
        obtain ⟨G0, hc0⟩ := HN.out.cells
        have hz0 : wr.cell? ⟨g, off, none⟩ = some (G0 0) := hc0 0 (by omega)
        have fz0 : wr.frozen? ⟨g, off, none⟩ = false := HN.out.row.fr _
        clear hc0
        go_wp2
        go_end0
        exact ⟨rfl, by rw [← HI3.out]; exact (HN.out.last off _ _ (by first | omega | exact last7 v))⟩
      · have HI3 : Hid (pr (c) (off + 0) (v % 4294967296 % 100) = R) := by
          have h := HI2.out
          rw [f4, if_neg (by decide), f2, if_pos (by decide), f1, if_neg (by decide)] at h
          exact h
        clear HI2
        go_wp2
        obtain ⟨G0, hc0⟩ := HN.out.cells
        have hf0 : ∀ t, t < len → (wr).frozen? ⟨g, off + t, none⟩ = false := fun t _ => HN.out.row.fr _
        go_name_slot 16 x0 hx0
        have hxe0 : x0 = (((v % 4294967296 % 100) * 2 : Nat) : Int) := by omega
        have hXa0 : ∀ w, (Instr.index 9 (.string Lib.smalls) (.int .u32 (x0 + 1))).run Tryd.prog w = .ok (.int .u8 ((sm ((v % 4294967296 % 100) * 2 + 1)).toNat : Int)) w := idx_smalls 9 Tryd.underlying9 .u32 _ _ (by omega) (by omega)
        have hXb0 : ∀ w, (Instr.index 9 (.string Lib.smalls) (.int .u32 x0)).run Tryd.prog w = .ok (.int .u8 ((sm ((v % 4294967296 % 100) * 2)).toNat : Int)) w := idx_smalls 9 Tryd.underlying9 .u32 _ _ (by omega) (by omega)
        have hlo0 : 0 ≤ x0 := by omega
        have hhi0 : x0 ≤ 198 := by omega
        clear hx0 hxe0
        go_region
        go_wp2
        go_end0
        exact ⟨rfl, by rw [← HI3.out]; exact (HN.out.pair (off + 0) (v % 4294967296 % 100))⟩
      · have HI3 : Hid ((pr (c) (off + 1) (v % 4294967296 % 100)).setIfInBounds off (.int .u8 (((48 + v % 4294967296 / 100) % 4294967296 % 256 : Nat) : Int)) = R) := by
          have h := HI2.out
          rw [f4, if_neg (by decide), f2, if_pos (by decide), f1, if_pos (by decide)] at h
          exact h
        clear HI2
        go_wp2
        obtain ⟨G0, hc0⟩ := HN.out.cells
        have hf0 : ∀ t, t < len → (wr).frozen? ⟨g, off + t, none⟩ = false := fun t _ => HN.out.row.fr _
        have hz0 : (wr).cell? ⟨g, off, none⟩ = some (G0 0) := hc0 0 (by omega)
        have fz0 : (wr).frozen? ⟨g, off, none⟩ = false := hf0 0 (by omega)
        go_name_slot 16 x0 hx0
        have hxe0 : x0 = (((v % 4294967296 % 100) * 2 : Nat) : Int) := by omega
        have hXa0 : ∀ w, (Instr.index 9 (.string Lib.smalls) (.int .u32 (x0 + 1))).run Tryd.prog w = .ok (.int .u8 ((sm ((v % 4294967296 % 100) * 2 + 1)).toNat : Int)) w := idx_smalls 9 Tryd.underlying9 .u32 _ _ (by omega) (by omega)
        have hXb0 : ∀ w, (Instr.index 9 (.string Lib.smalls) (.int .u32 x0)).run Tryd.prog w = .ok (.int .u8 ((sm ((v % 4294967296 % 100) * 2)).toNat : Int)) w := idx_smalls 9 Tryd.underlying9 .u32 _ _ (by omega) (by omega)
        have hlo0 : 0 ≤ x0 := by omega
        have hhi0 : x0 ≤ 198 := by omega
        clear hx0 hxe0
        go_region
        go_wp2
        go_end0
        exact ⟨rfl, by rw [← HI3.out]; exact ((HN.out.pair (off + 1) (v % 4294967296 % 100)).last off _ _ (by first | omega | exact last7 v))⟩
      · have HI3 : Hid (pr (pr (c) (off + 2) (v % 4294967296 % 100)) (off + 0) (v % 4294967296 % 10000 / 100) = R) := by
          have h := HI2.out
          rw [f4, if_pos (by decide), f2, if_neg (by decide), f1, if_neg (by decide)] at h
          exact h
        clear HI2
        go_wp2
        obtain ⟨G0, hc0⟩ := HN.out.cells
        have hf0 : ∀ t, t < len → (wr).frozen? ⟨g, off + t, none⟩ = false := fun t _ => HN.out.row.fr _
        go_name_slot 15 x0 hx0
        have hxe0 : x0 = (((v % 4294967296 % 100) * 2 : Nat) : Int) := by omega
        have hXa0 : ∀ w, (Instr.index 9 (.string Lib.smalls) (.int .u32 (x0 + 1))).run Tryd.prog w = .ok (.int .u8 ((sm ((v % 4294967296 % 100) * 2 + 1)).toNat : Int)) w := idx_smalls 9 Tryd.underlying9 .u32 _ _ (by omega) (by omega)
        have hXb0 : ∀ w, (Instr.index 9 (.string Lib.smalls) (.int .u32 x0)).run Tryd.prog w = .ok (.int .u8 ((sm ((v % 4294967296 % 100) * 2)).toNat : Int)) w := idx_smalls 9 Tryd.underlying9 .u32 _ _ (by omega) (by omega)
        have hlo0 : 0 ≤ x0 := by omega
        have hhi0 : x0 ≤ 198 := by omega
        clear hx0 hxe0
        go_region
        go_wp2
        go_name_world W0 hW0
        have HN0 : Hid (Now w W0 g (pr (c) (off + 2) ((v % 4294967296 % 100))) (off + len)) := by
          rw [← hW0]
          exact HN.out.pair (off + (2)) ((v % 4294967296 % 100))
        clear hW0 hc0 hf0 HN hXa0 hXb0
        obtain ⟨G1, hc1⟩ := HN0.out.cells
        have hf1 : ∀ t, t < len → (W0).frozen? ⟨g, off + t, none⟩ = false := fun t _ => HN0.out.row.fr _
        go_name_slot 14 x1 hx1
        have hxe1 : x1 = (((v % 4294967296 % 10000 / 100) * 2 : Nat) : Int) := by omega
        have hXa1 : ∀ w, (Instr.index 9 (.string Lib.smalls) (.int .u32 (x1 + 1))).run Tryd.prog w = .ok (.int .u8 ((sm ((v % 4294967296 % 10000 / 100) * 2 + 1)).toNat : Int)) w := idx_smalls 9 Tryd.underlying9 .u32 _ _ (by omega) (by omega)
        have hXb1 : ∀ w, (Instr.index 9 (.string Lib.smalls) (.int .u32 x1)).run Tryd.prog w = .ok (.int .u8 ((sm ((v % 4294967296 % 10000 / 100) * 2)).toNat : Int)) w := idx_smalls 9 Tryd.underlying9 .u32 _ _ (by omega) (by omega)
        have hlo1 : 0 ≤ x1 := by omega
        have hhi1 : x1 ≤ 198 := by omega
        clear hx1 hxe1
        go_region
        go_wp2
        go_end0
        exact ⟨rfl, by rw [← HI3.out]; exact (HN0.out.pair (off + 0) (v % 4294967296 % 10000 / 100))⟩
      · have HI3 : Hid ((pr (pr (c) (off + 3) (v % 4294967296 % 100)) (off + 1) (v % 4294967296 % 10000 / 100)).setIfInBounds off (.int .u8 (((48 + v % 4294967296 / 10000) % 4294967296 % 256 : Nat) : Int)) = R) := by
          have h := HI2.out
          rw [f4, if_pos (by decide), f2, if_neg (by decide), f1, if_pos (by decide)] at h
          exact h
        clear HI2
        go_wp2
        obtain ⟨G0, hc0⟩ := HN.out.cells
        have hf0 : ∀ t, t < len → (wr).frozen? ⟨g, off + t, none⟩ = false := fun t _ => HN.out.row.fr _
        go_name_slot 15 x0 hx0
        have hxe0 : x0 = (((v % 4294967296 % 100) * 2 : Nat) : Int) := by omega
        have hXa0 : ∀ w, (Instr.index 9 (.string Lib.smalls) (.int .u32 (x0 + 1))).run Tryd.prog w = .ok (.int .u8 ((sm ((v % 4294967296 % 100) * 2 + 1)).toNat : Int)) w := idx_smalls 9 Tryd.underlying9 .u32 _ _ (by omega) (by omega)
        have hXb0 : ∀ w, (Instr.index 9 (.string Lib.smalls) (.int .u32 x0)).run Tryd.prog w = .ok (.int .u8 ((sm ((v % 4294967296 % 100) * 2)).toNat : Int)) w := idx_smalls 9 Tryd.underlying9 .u32 _ _ (by omega) (by omega)
        have hlo0 : 0 ≤ x0 := by omega
        have hhi0 : x0 ≤ 198 := by omega
        clear hx0 hxe0
        go_region
        go_wp2
        go_name_world W0 hW0
        have HN0 : Hid (Now w W0 g (pr (c) (off + 3) ((v % 4294967296 % 100))) (off + len)) := by
          rw [← hW0]
          exact HN.out.pair (off + (3)) ((v % 4294967296 % 100))
        clear hW0 hc0 hf0 HN hXa0 hXb0
        obtain ⟨G1, hc1⟩ := HN0.out.cells
        have hf1 : ∀ t, t < len → (W0).frozen? ⟨g, off + t, none⟩ = false := fun t _ => HN0.out.row.fr _
        have hz1 : (W0).cell? ⟨g, off, none⟩ = some (G1 0) := hc1 0 (by omega)
        have fz1 : (W0).frozen? ⟨g, off, none⟩ = false := hf1 0 (by omega)
        go_name_slot 14 x1 hx1
        have hxe1 : x1 = (((v % 4294967296 % 10000 / 100) * 2 : Nat) : Int) := by omega
        have hXa1 : ∀ w, (Instr.index 9 (.string Lib.smalls) (.int .u32 (x1 + 1))).run Tryd.prog w = .ok (.int .u8 ((sm ((v % 4294967296 % 10000 / 100) * 2 + 1)).toNat : Int)) w := idx_smalls 9 Tryd.underlying9 .u32 _ _ (by omega) (by omega)
        have hXb1 : ∀ w, (Instr.index 9 (.string Lib.smalls) (.int .u32 x1)).run Tryd.prog w = .ok (.int .u8 ((sm ((v % 4294967296 % 10000 / 100) * 2)).toNat : Int)) w := idx_smalls 9 Tryd.underlying9 .u32 _ _ (by omega) (by omega)
        have hlo1 : 0 ≤ x1 := by omega
        have hhi1 : x1 ≤ 198 := by omega
        clear hx1 hxe1
        go_region
        go_wp2
        go_end0
        exact ⟨rfl, by rw [← HI3.out]; exact ((HN0.out.pair (off + 1) (v % 4294967296 % 10000 / 100)).last off _ _ (by first | omega | exact last7 v))⟩
      · have HI3 : Hid (pr (pr (pr (c) (off + 4) (v % 4294967296 % 100)) (off + 2) (v % 4294967296 % 10000 / 100)) (off + 0) (v % 4294967296 / 10000 % 100) = R) := by
          have h := HI2.out
          rw [f4, if_pos (by decide), f2, if_pos (by decide), f1, if_neg (by decide)] at h
          exact h
        clear HI2
        go_wp2
        obtain ⟨G0, hc0⟩ := HN.out.cells
        have hf0 : ∀ t, t < len → (wr).frozen? ⟨g, off + t, none⟩ = false := fun t _ => HN.out.row.fr _
        go_name_slot 15 x0 hx0
        have hxe0 : x0 = (((v % 4294967296 % 100) * 2 : Nat) : Int) := by omega
        have hXa0 : ∀ w, (Instr.index 9 (.string Lib.smalls) (.int .u32 (x0 + 1))).run Tryd.prog w = .ok (.int .u8 ((sm ((v % 4294967296 % 100) * 2 + 1)).toNat : Int)) w := idx_smalls 9 Tryd.underlying9 .u32 _ _ (by omega) (by omega)
        have hXb0 : ∀ w, (Instr.index 9 (.string Lib.smalls) (.int .u32 x0)).run Tryd.prog w = .ok (.int .u8 ((sm ((v % 4294967296 % 100) * 2)).toNat : Int)) w := idx_smalls 9 Tryd.underlying9 .u32 _ _ (by omega) (by omega)
        have hlo0 : 0 ≤ x0 := by omega
        have hhi0 : x0 ≤ 198 := by omega
        clear hx0 hxe0
        go_region
        go_wp2
        go_name_world W0 hW0
        have HN0 : Hid (Now w W0 g (pr (c) (off + 4) ((v % 4294967296 % 100))) (off + len)) := by
          rw [← hW0]
          exact HN.out.pair (off + (4)) ((v % 4294967296 % 100))
        clear hW0 hc0 hf0 HN hXa0 hXb0
        obtain ⟨G1, hc1⟩ := HN0.out.cells
        have hf1 : ∀ t, t < len → (W0).frozen? ⟨g, off + t, none⟩ = false := fun t _ => HN0.out.row.fr _
        go_name_slot 14 x1 hx1
        have hxe1 : x1 = (((v % 4294967296 % 10000 / 100) * 2 : Nat) : Int) := by omega
        have hXa1 : ∀ w, (Instr.index 9 (.string Lib.smalls) (.int .u32 (x1 + 1))).run Tryd.prog w = .ok (.int .u8 ((sm ((v % 4294967296 % 10000 / 100) * 2 + 1)).toNat : Int)) w := idx_smalls 9 Tryd.underlying9 .u32 _ _ (by omega) (by omega)
        have hXb1 : ∀ w, (Instr.index 9 (.string Lib.smalls) (.int .u32 x1)).run Tryd.prog w = .ok (.int .u8 ((sm ((v % 4294967296 % 10000 / 100) * 2)).toNat : Int)) w := idx_smalls 9 Tryd.underlying9 .u32 _ _ (by omega) (by omega)
        have hlo1 : 0 ≤ x1 := by omega
        have hhi1 : x1 ≤ 198 := by omega
        clear hx1 hxe1
        go_region
        go_wp2
        go_name_world W1 hW1
        have HN1 : Hid (Now w W1 g (pr (pr (c) (off + 4) ((v % 4294967296 % 100))) (off + 2) ((v % 4294967296 % 10000 / 100))) (off + len)) := by
          rw [← hW1]
          exact HN0.out.pair (off + (2)) ((v % 4294967296 % 10000 / 100))
        clear hW1 hc1 hf1 HN0 hXa1 hXb1
        obtain ⟨G2, hc2⟩ := HN1.out.cells
        have hf2 : ∀ t, t < len → (W1).frozen? ⟨g, off + t, none⟩ = false := fun t _ => HN1.out.row.fr _
        go_name_slot 16 x2 hx2
        have hxe2 : x2 = (((v % 4294967296 / 10000 % 100) * 2 : Nat) : Int) := by omega
        have hXa2 : ∀ w, (Instr.index 9 (.string Lib.smalls) (.int .u32 (x2 + 1))).run Tryd.prog w = .ok (.int .u8 ((sm ((v % 4294967296 / 10000 % 100) * 2 + 1)).toNat : Int)) w := idx_smalls 9 Tryd.underlying9 .u32 _ _ (by omega) (by omega)
        have hXb2 : ∀ w, (Instr.index 9 (.string Lib.smalls) (.int .u32 x2)).run Tryd.prog w = .ok (.int .u8 ((sm ((v % 4294967296 / 10000 % 100) * 2)).toNat : Int)) w := idx_smalls 9 Tryd.underlying9 .u32 _ _ (by omega) (by omega)
        have hlo2 : 0 ≤ x2 := by omega
        have hhi2 : x2 ≤ 198 := by omega
        clear hx2 hxe2
        go_region
        go_wp2
        go_end0
        exact ⟨rfl, by rw [← HI3.out]; exact (HN1.out.pair (off + 0) (v % 4294967296 / 10000 % 100))⟩
      · have HI3 : Hid ((pr (pr (pr (c) (off + 5) (v % 4294967296 % 100)) (off + 3) (v % 4294967296 % 10000 / 100)) (off + 1) (v % 4294967296 / 10000 % 100)).setIfInBounds off (.int .u8 (((48 + v % 4294967296 / 10000 / 100) % 4294967296 % 256 : Nat) : Int)) = R) := by
          have h := HI2.out
          rw [f4, if_pos (by decide), f2, if_pos (by decide), f1, if_pos (by decide)] at h
          exact h
        clear HI2
        go_wp2
        obtain ⟨G0, hc0⟩ := HN.out.cells
        have hf0 : ∀ t, t < len → (wr).frozen? ⟨g, off + t, none⟩ = false := fun t _ => HN.out.row.fr _
        go_name_slot 15 x0 hx0
        have hxe0 : x0 = (((v % 4294967296 % 100) * 2 : Nat) : Int) := by omega
        have hXa0 : ∀ w, (Instr.index 9 (.string Lib.smalls) (.int .u32 (x0 + 1))).run Tryd.prog w = .ok (.int .u8 ((sm ((v % 4294967296 % 100) * 2 + 1)).toNat : Int)) w := idx_smalls 9 Tryd.underlying9 .u32 _ _ (by omega) (by omega)
        have hXb0 : ∀ w, (Instr.index 9 (.string Lib.smalls) (.int .u32 x0)).run Tryd.prog w = .ok (.int .u8 ((sm ((v % 4294967296 % 100) * 2)).toNat : Int)) w := idx_smalls 9 Tryd.underlying9 .u32 _ _ (by omega) (by omega)
        have hlo0 : 0 ≤ x0 := by omega
        have hhi0 : x0 ≤ 198 := by omega
        clear hx0 hxe0
        go_region
        go_wp2
        go_name_world W0 hW0
        have HN0 : Hid (Now w W0 g (pr (c) (off + 5) ((v % 4294967296 % 100))) (off + len)) := by
          rw [← hW0]
          exact HN.out.pair (off + (5)) ((v % 4294967296 % 100))
        clear hW0 hc0 hf0 HN hXa0 hXb0
        obtain ⟨G1, hc1⟩ := HN0.out.cells
        have hf1 : ∀ t, t < len → (W0).frozen? ⟨g, off + t, none⟩ = false := fun t _ => HN0.out.row.fr _
        go_name_slot 14 x1 hx1
        have hxe1 : x1 = (((v % 4294967296 % 10000 / 100) * 2 : Nat) : Int) := by omega
        have hXa1 : ∀ w, (Instr.index 9 (.string Lib.smalls) (.int .u32 (x1 + 1))).run Tryd.prog w = .ok (.int .u8 ((sm ((v % 4294967296 % 10000 / 100) * 2 + 1)).toNat : Int)) w := idx_smalls 9 Tryd.underlying9 .u32 _ _ (by omega) (by omega)
        have hXb1 : ∀ w, (Instr.index 9 (.string Lib.smalls) (.int .u32 x1)).run Tryd.prog w = .ok (.int .u8 ((sm ((v % 4294967296 % 10000 / 100) * 2)).toNat : Int)) w := idx_smalls 9 Tryd.underlying9 .u32 _ _ (by omega) (by omega)
        have hlo1 : 0 ≤ x1 := by omega
        have hhi1 : x1 ≤ 198 := by omega
        clear hx1 hxe1
        go_region
        go_wp2
        go_name_world W1 hW1
        have HN1 : Hid (Now w W1 g (pr (pr (c) (off + 5) ((v % 4294967296 % 100))) (off + 3) ((v % 4294967296 % 10000 / 100))) (off + len)) := by
          rw [← hW1]
          exact HN0.out.pair (off + (3)) ((v % 4294967296 % 10000 / 100))
        clear hW1 hc1 hf1 HN0 hXa1 hXb1
        obtain ⟨G2, hc2⟩ := HN1.out.cells
        have hf2 : ∀ t, t < len → (W1).frozen? ⟨g, off + t, none⟩ = false := fun t _ => HN1.out.row.fr _
        have hz2 : (W1).cell? ⟨g, off, none⟩ = some (G2 0) := hc2 0 (by omega)
        have fz2 : (W1).frozen? ⟨g, off, none⟩ = false := hf2 0 (by omega)
        go_name_slot 16 x2 hx2
        have hxe2 : x2 = (((v % 4294967296 / 10000 % 100) * 2 : Nat) : Int) := by omega
        have hXa2 : ∀ w, (Instr.index 9 (.string Lib.smalls) (.int .u32 (x2 + 1))).run Tryd.prog w = .ok (.int .u8 ((sm ((v % 4294967296 / 10000 % 100) * 2 + 1)).toNat : Int)) w := idx_smalls 9 Tryd.underlying9 .u32 _ _ (by omega) (by omega)
        have hXb2 : ∀ w, (Instr.index 9 (.string Lib.smalls) (.int .u32 x2)).run Tryd.prog w = .ok (.int .u8 ((sm ((v % 4294967296 / 10000 % 100) * 2)).toNat : Int)) w := idx_smalls 9 Tryd.underlying9 .u32 _ _ (by omega) (by omega)
        have hlo2 : 0 ≤ x2 := by omega
        have hhi2 : x2 ≤ 198 := by omega
        clear hx2 hxe2
        go_region
        go_wp2
        go_end0
        exact ⟨rfl, by rw [← HI3.out]; exact ((HN1.out.pair (off + 1) (v % 4294967296 / 10000 % 100)).last off _ _ (by first | omega | exact last7 v))⟩

end Go.Proofs.YtjaklopkammmdaaDoor
