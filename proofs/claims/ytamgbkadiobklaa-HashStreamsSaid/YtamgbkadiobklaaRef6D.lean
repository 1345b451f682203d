/- The round of Keccak as a plain function of lanes, and what stands in memory while the reference makes it. -/
import Derived.Test.YtamgbkadiobklaaRef6C
namespace Go.Proofs.Ytamgbkadiobklaa
open Go.RowKit

theorem arr_zero5 : (#[Value.int IntKind.u64 0, .int .u64 0, .int .u64 0, .int .u64 0, .int .u64 0] : Array Value) = arr .u64 5 fun _ => 0 := rfl

/-- Lanes by the place x * 5 + y. The parity of the first n lanes with one x. -/
def cP (A : Nat → Lane) (x : Nat) : Nat → Lane
  | 0 => 0
  | n + 1 => cP A x n ^^^ A (x * 5 + n)
def cC (A : Nat → Lane) (x : Nat) : Lane := cP A x 5
def th (A : Nat → Lane) (i : Nat) : Lane := A i ^^^ cC A ((i / 5 + 4) % 5) ^^^ rotN (cC A ((i / 5 + 1) % 5)) 1
def srcI (j : Nat) : Nat := ((3 * (j % 5) + j / 5) % 5) * 5 + j / 5
def dstI (i : Nat) : Nat := (i % 5) * 5 + (2 * (i / 5) + 3 * (i % 5)) % 5
theorem src_dst : ∀ i : Fin 25, srcI (dstI i.val) = i.val ∧ dstI i.val < 25 := by decide +kernel
theorem dst_src : ∀ j : Fin 25, dstI (srcI j.val) = j.val ∧ srcI j.val < 25 := by decide +kernel
def rho (A : Nat → Lane) (r : Nat → Nat) (j : Nat) : Lane := rotN (A (srcI j)) (r (srcI j))
def chi (B : Nat → Lane) (i : Nat) : Lane := B i ^^^ (~~~ B ((i / 5 + 1) % 5 * 5 + i % 5) &&& B ((i / 5 + 2) % 5 * 5 + i % 5))
def iota (A : Nat → Lane) (rc : Lane) (i : Nat) : Lane := if i = 0 then A 0 ^^^ rc else A i
/-- A round. -/
def kround (A : Nat → Lane) (rc : Lane) (r : Nat → Nat) : Nat → Lane := iota (chi (rho (th A) r)) rc

/-- The blocks of a round: the lanes, the offsets, the result, the parities. -/
def RW (w wx : World) (g : Nat) (fa R fc : Nat → Int) : Prop :=
  Past w wx ∧ LM .u64 wx g 67 25 fa ∧ LM .i64 wx (g + 1) 77 25 R ∧ Row wx (g + 1 + 1) 67 (arr .u64 25 fun _ => 0) ∧ LM .u64 wx (g + 1 + 1 + 1) 65 5 fc
section
variable {w wx wy : World} {g : Nat} {fa R fc : Nat → Int}
theorem RW.new (w : World) (fa R : Nat → Int) : RW w ((((w.alloc (.cells (arr .u64 25 fa) 67)).alloc (.cells (arr .i64 25 R) 77)).alloc (.cells (arr .u64 25 fun _ => 0) 67)).alloc (.cells (arr .u64 5 fun _ => 0) 65)) w.heap.size fa R fun _ => 0 := by
  refine ⟨((((Below.refl _ _).alloc (Nat.le_refl _) _).alloc (by simp) _).alloc (by simp; omega) _).alloc (by simp; omega) _, (((Row.new w _ _).alloc _).alloc _).alloc _, ?_, ?_, ?_⟩
  · have := ((Row.new (w.alloc (.cells (arr .u64 25 fa) 67)) 77 (arr .i64 25 R)).alloc (.cells (arr .u64 25 fun _ => 0) 67)).alloc (.cells (arr .u64 5 fun _ => 0) 65)
    simpa using this
  · have := (Row.new ((w.alloc (.cells (arr .u64 25 fa) 67)).alloc (.cells (arr .i64 25 R) 77)) 67 (arr .u64 25 fun _ => 0)).alloc (.cells (arr .u64 5 fun _ => 0) 65)
    simpa using this
  · have := Row.new (((w.alloc (.cells (arr .u64 25 fa) 67)).alloc (.cells (arr .i64 25 R) 77)).alloc (.cells (arr .u64 25 fun _ => 0) 67)) 65 (arr .u64 5 fun _ => 0)
    simpa using this
theorem RW.putC (h : RW w wx g fa R fc) (hg : w.heap.size ≤ g) (i : Nat) (hi : i < 5) (v : Int) : RW w (wx.setCell ⟨g + 1 + 1 + 1, i, none⟩ (.int .u64 v)) g fa R (upd fc i v) :=
  ⟨h.1.set (by show _ ≤ g + 1 + 1 + 1; omega) _, h.2.1.setOther (by omega) _ _, h.2.2.1.setOther (by omega) _ _, h.2.2.2.1.setOther (by omega) _ _, h.2.2.2.2.put i hi v⟩
theorem RW.putA (h : RW w wx g fa R fc) (hg : w.heap.size ≤ g) (i : Nat) (hi : i < 25) (v : Int) : RW w (wx.setCell ⟨g, i, none⟩ (.int .u64 v)) g (upd fa i v) R fc :=
  ⟨h.1.set hg _, h.2.1.put i hi v, h.2.2.1.setOther (by omega) _ _, h.2.2.2.1.setOther (by omega) _ _, h.2.2.2.2.setOther (by omega) _ _⟩
theorem RW.far (h : RW w wx g fa R fc) (hg : w.heap.size ≤ g) {b : Nat} (hb : g + 1 + 1 + 1 < b) (o : Nat) (v : Value) : RW w (wx.setCell ⟨b, o, none⟩ v) g fa R fc :=
  ⟨h.1.set (by show _ ≤ b; omega) _, h.2.1.setOther (by omega) _ _, h.2.2.1.setOther (by omega) _ _, h.2.2.2.1.setOther (by omega) _ _, h.2.2.2.2.setOther (by omega) _ _⟩
theorem RW.alloc (h : RW w wx g fa R fc) (o : Obj) : RW w (wx.alloc o) g fa R fc := ⟨h.1.alloc h.1.size _, Row.alloc h.2.1 _, Row.alloc h.2.2.1 _, h.2.2.2.1.alloc _, Row.alloc h.2.2.2.2 _⟩
theorem RW.drewN (h : RW w wx g fa R fc) (m : Nat) : RW w (wx.drewN m) g fa R fc := ⟨h.1.drewN m, h.2⟩
theorem RW.same {fa' fc' : Nat → Int} (h : RW w wx g fa R fc) (ha : ∀ i, i < 25 → fa i = fa' i) (hc : ∀ i, i < 5 → fc i = fc' i) : RW w wx g fa' R fc' := ⟨h.1, h.2.1.same ha, h.2.2.1, h.2.2.2.1, h.2.2.2.2.same hc⟩
end

/-- What the first double loop has made of the parities at x, y. -/
def fcP (A : Nat → Lane) (x y : Nat) (i : Nat) : Int := ln (cP A i (if i < x then 5 else if i = x then y else 0))
theorem fcP_zero (A : Nat → Lane) : fcP A 0 0 = fun _ => 0 := by
  funext i
  unfold fcP
  have : (if i < 0 then 5 else if i = 0 then 0 else 0) = 0 := by split <;> (try split) <;> first | rfl | omega
  rw [this]
  rfl
theorem fcP_next (A : Nat → Lane) (x i : Nat) : fcP A x 5 i = fcP A (x + 1) 0 i := by
  unfold fcP
  congr 2
  split <;> (try split) <;> (try split) <;> (try split) <;> first | rfl | omega
theorem fcP_put (A : Nat → Lane) (x y i : Nat) : upd (fcP A x y) x (ln (cP A x (y + 1))) i = fcP A x (y + 1) i := by
  by_cases e : i = x
  · subst e
    rw [upd_at]
    unfold fcP
    simp
  · rw [upd_ne _ _ e]
    unfold fcP
    rw [if_neg e, if_neg e]
theorem fcP_at (A : Nat → Lane) (x y : Nat) : fcP A x y x = ln (cP A x y) := by
  unfold fcP
  simp
/-- What the second double loop has made of the lanes. -/
def faP (A : Nat → Lane) (k : Nat) (i : Nat) : Int := if i < k then ln (th A i) else ln (A i)
theorem faP_put (A : Nat → Lane) (k i : Nat) : upd (faP A k) k (ln (th A k)) i = faP A (k + 1) i := by
  by_cases e : i = k
  · subst e
    rw [upd_at]
    unfold faP
    rw [if_pos (by omega)]
  · rw [upd_ne _ _ e]
    unfold faP
    by_cases h : i < k
    · rw [if_pos h, if_pos (by omega)]
    · rw [if_neg h, if_neg (by omega)]
def fbP (A : Nat → Lane) (r : Nat → Nat) (k : Nat) (j : Nat) : Int := if srcI j < k then ln (rho (th A) r j) else 0
theorem fbP_put (A : Nat → Lane) (r : Nat → Nat) (k j : Nat) (hk : k < 25) (hj : j < 25) : upd (fbP A r k) (dstI k) (ln (rotN (th A k) (r k))) j = fbP A r (k + 1) j := by
  have h1 := src_dst ⟨k, hk⟩
  have h2 := dst_src ⟨j, hj⟩
  simp only at h1 h2
  by_cases e : j = dstI k
  · subst e
    rw [upd_at]
    unfold fbP rho
    rw [h1.1, if_pos (by omega)]
  · rw [upd_ne _ _ e]
    have hne : srcI j ≠ k := fun h => e (by rw [← h, h2.1])
    unfold fbP
    by_cases h : srcI j < k
    · rw [if_pos h, if_pos (by omega)]
    · rw [if_neg h, if_neg (by omega)]

end Go.Proofs.Ytamgbkadiobklaa
