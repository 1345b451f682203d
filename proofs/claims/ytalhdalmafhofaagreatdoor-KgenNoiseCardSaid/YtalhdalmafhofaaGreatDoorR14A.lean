/- The reference's Root. Arrays of 256 numbers in blocks of a call's own; the reference's transform. The reference's Add and Reduced. The laws' own polynomials: Spread. -/
import Derived.Test.YtalhdalmafhofaaGreatDoorArr
import Derived.Test.YtalhdalmafhofaaGreatDoorK14A
import Derived.Deep.LoopGhost
import Derived.Laws.CopyOwn
import Derived.Deep.Cut
import Derived.Handy
import Derived.Laws.ResultCell
namespace Go.Proofs.YtalhdalmafhofaaGreatDoor
set_option maxRecDepth 100000
open Go.RowKit
set_option linter.unusedVariables false

/-- The k lowest bits of i in reverse order. -/
def rvp (i : Nat) : Nat → Nat
  | 0 => 0
  | k + 1 => 2 * rvp i k + i / 2 ^ k % 2
theorem rvp_lt (i k : Nat) : rvp i k < 2 ^ k := by
  induction k with
  | zero => exact Nat.one_pos
  | succ k ih => rw [rvp, Nat.pow_succ]; omega
theorem rvp_7 (i : Nat) : rvp i 7 = rv7 i := by
  simp only [rvp, rv7, Nat.pow_zero, Nat.div_one, Nat.pow_one, Nat.reducePow]
  generalize i % 2 = a
  generalize i / 2 % 2 = b
  generalize i / 4 % 2 = c
  generalize i / 8 % 2 = d
  generalize i / 16 % 2 = e
  generalize i / 32 % 2 = f
  generalize i / 64 % 2 = g
  omega
end Go.Proofs.YtalhdalmafhofaaGreatDoor

namespace Go.Proofs.YtalhdalmafhofaaGreatDoor
open Go.RowKit
set_option linter.unusedVariables false

theorem zero256 (w : World) : (zeroValue 29).run Tryz.prog w = .ok (.agg (arr .u16 256 fun _ => 0)) w := by kernel_rfl
theorem inf256 (f : Nat → Int) : (Tryz.prog.info? 29).map (·.size) = some (arr .u16 256 f).size := by rw [arr_size]; kernel_rfl
/-- Three14 blocks of a call's own. -/
def Three14 (k : IntKind) (n : Nat) (w wx : World) (g : Nat) (t0 t1 t2 : TypeId) (cs c1 : Array Value) (f : Nat → Int) : Prop :=
  Past w wx ∧ Row wx g t0 cs ∧ Row wx (g + 1) t1 c1 ∧ LM k wx (g + 1 + 1) t2 n f
theorem Three14.new (k : IntKind) (n : Nat) (w : World) (t0 t1 t2 : TypeId) (cs c1 : Array Value) (f : Nat → Int) :
    Three14 k n w (((w.alloc (.cells cs t0)).alloc (.cells c1 t1)).alloc (.cells (arr k n f) t2)) w.heap.size t0 t1 t2 cs c1 f := by
  refine ⟨(((Below.refl _ _).alloc (Nat.le_refl _) _).alloc (by simp) _).alloc (by simp; omega) _, ((Row.new w t0 cs).alloc _).alloc _, ?_, ?_⟩
  · have := (Row.new (w.alloc (.cells cs t0)) t1 c1).alloc (.cells (arr k n f) t2)
    simpa using this
  · have := Row.new ((w.alloc (.cells cs t0)).alloc (.cells c1 t1)) t2 (arr k n f)
    simpa using this
theorem Three14.put {k : IntKind} {n : Nat} {w wx : World} {t0 t1 t2 : TypeId} {cs c1 : Array Value} {f : Nat → Int} {g : Nat} (h : Three14 k n w wx g t0 t1 t2 cs c1 f) (hg : w.heap.size ≤ g) (i : Nat) (hi : i < n) (v : Int) :
    Three14 k n w (wx.setCell ⟨g + 1 + 1, i, none⟩ (.int k v)) g t0 t1 t2 cs c1 (upd f i v) :=
  ⟨h.1.set (by show _ ≤ g + 1 + 1; omega) _, h.2.1.setOther (by omega) _ _, h.2.2.1.setOther (by omega) _ _, h.2.2.2.put i hi v⟩
theorem Three14.drewN {k : IntKind} {n : Nat} {w wx : World} {t0 t1 t2 : TypeId} {cs c1 : Array Value} {f : Nat → Int} {g : Nat} (h : Three14 k n w wx g t0 t1 t2 cs c1 f) (m : Nat) : Three14 k n w (wx.drewN m) g t0 t1 t2 cs c1 f :=
  ⟨h.1.drewN m, h.2.1, h.2.2.1, h.2.2.2⟩

/-- Rows that stay, and a block of numbers that is written to. -/
def Fx (L : List (Nat × TypeId × Array Value)) (k : IntKind) (n : Nat) (w wx : World) (g : Nat) (t : TypeId) (f : Nat → Int) : Prop :=
  Past w wx ∧ (∀ x ∈ L, Row wx x.1 x.2.1 x.2.2) ∧ LM k wx g t n f
theorem Fx.put {L : List (Nat × TypeId × Array Value)} {k : IntKind} {n : Nat} {w wx : World} {g : Nat} {t : TypeId} {f : Nat → Int} (h : Fx L k n w wx g t f) (hg : w.heap.size ≤ g) (hL : ∀ x ∈ L, x.1 < g) (i : Nat) (hi : i < n) (v : Int) :
    Fx L k n w (wx.setCell ⟨g, i, none⟩ (.int k v)) g t (upd f i v) :=
  ⟨h.1.set hg _, fun x hx => (h.2.1 x hx).setOther (by have := hL x hx; omega) _ _, h.2.2.put i hi v⟩
theorem Three14.fx {k : IntKind} {n : Nat} {w wx : World} {t0 t1 t2 : TypeId} {cs c1 : Array Value} {f : Nat → Int} {g : Nat} (h : Three14 k n w wx g t0 t1 t2 cs c1 f) : Fx [(g, t0, cs), (g + 1, t1, c1)] k n w wx (g + 1 + 1) t2 f := by
  refine ⟨h.1, ?_, h.2.2.2⟩
  intro x hx
  rcases List.mem_cons.1 hx with rfl | hx
  · exact h.2.1
  · rcases List.mem_cons.1 hx with rfl | hx
    · exact h.2.2.1
    · cases hx
theorem mul_bd {a b : Int} (a0 : 0 ≤ a) (a1 : a < 3329) (b0 : 0 ≤ b) (b1 : b < 3329) : 0 ≤ a * b ∧ a * b ≤ 11075584 :=
  ⟨Int.mul_nonneg a0 b0, Int.le_trans (Int.mul_le_mul (show a ≤ 3328 by omega) (show b ≤ 3328 by omega) b0 (by decide)) (by decide)⟩
theorem rt_lt (i : Nat) : 0 ≤ rt i ∧ rt i < 3329 := pw_lt _

end Go.Proofs.YtalhdalmafhofaaGreatDoor

namespace Go.Proofs.YtalhdalmafhofaaGreatDoor
open Go.RowKit
set_option linter.unusedVariables false

theorem Fx.drewN {L : List (Nat × TypeId × Array Value)} {k : IntKind} {n : Nat} {w wx : World} {g : Nat} {t : TypeId} {f : Nat → Int} (h : Fx L k n w wx g t f) (m : Nat) : Fx L k n w (wx.drewN m) g t f :=
  ⟨h.1.drewN m, h.2.1, h.2.2⟩
/-- Two arguments, the result and one more block. -/
theorem four_fx (w : World) (t0 t1 t2 t3 : TypeId) (ca cb cz : Array Value) (k : IntKind) (n : Nat) (f : Nat → Int) :
    Fx [(w.heap.size, t0, ca), (w.heap.size + 1, t1, cb), (w.heap.size + 1 + 1, t2, cz)] k n w ((((w.alloc (.cells ca t0)).alloc (.cells cb t1)).alloc (.cells cz t2)).alloc (.cells (arr k n f) t3)) (w.heap.size + 1 + 1 + 1) t3 f := by
  have p0 : Past w w := Below.refl _ _
  have p1 : Past w (w.alloc (.cells ca t0)) := p0.alloc (Nat.le_refl _) _
  have r1 := Row.new w t0 ca
  have r2 := Row.new (w.alloc (.cells ca t0)) t1 cb
  have r3 := Row.new ((w.alloc (.cells ca t0)).alloc (.cells cb t1)) t2 cz
  have r4 := Row.new (((w.alloc (.cells ca t0)).alloc (.cells cb t1)).alloc (.cells cz t2)) t3 (arr k n f)
  simp only [World.size_alloc] at r2 r3 r4
  refine ⟨((((p1.alloc (by simp) _).alloc (by simp; omega) _).alloc (by simp; omega) _)), ?_, r4⟩
  intro x hx
  rcases List.mem_cons.1 hx with rfl | hx
  · exact ((r1.alloc _).alloc _).alloc _
  · rcases List.mem_cons.1 hx with rfl | hx
    · exact (r2.alloc _).alloc _
    · rcases List.mem_cons.1 hx with rfl | hx
      · exact r3.alloc _
      · cases hx
end Go.Proofs.YtalhdalmafhofaaGreatDoor

namespace Go.Proofs.YtalhdalmafhofaaGreatDoor
open Go.RowKit
set_option linter.unusedVariables false

def nxt (s1 x : Int) : Int := ((x * 6364136223846793005 % 18446744073709551616 + s1) % 18446744073709551616 + 1442695040888963407) % 18446744073709551616
def sqX (s0 s1 : Int) : Nat → Int
  | 0 => s0
  | i + 1 => nxt s1 (sqX s0 s1 i)
def sprA (s2 y : Int) : Int := if s2 % 3 = 0 then y / 1099511627776 % 65536 % 3329 else y / 1099511627776 % 65536
/-- The coefficient i of the polynomial of three numbers. -/
def spr (s0 s1 s2 : Int) (i : Nat) : Int := if s2 % 3 = 1 ∧ s1 % 5 < (i : Int) then 0 else sprA s2 (sqX s0 s1 (i + 1))
theorem spr_rng (s0 s1 s2 : Int) (i : Nat) : 0 ≤ spr s0 s1 s2 i ∧ spr s0 s1 s2 i < 65536 := by
  unfold spr sprA
  split
  · omega
  · split <;> omega
/-- An array of three numbers. -/
abbrev arr3 (a b c : Int) : Array Value := #[.int .u32 a, .int .u32 b, .int .u32 c]
end Go.Proofs.YtalhdalmafhofaaGreatDoor
