/- Contracts of the reference of Keccak: lanes of numbers and back. Plain facts about lanes: rotation, and what the operations on 64 bits are in numbers. Contracts of the reference of Keccak: the constants of rounds. Contracts of the reference of Keccak: the offsets of rotation. The round of Keccak as a plain function of lanes, and what stands in memory while the reference makes it. -/
import Derived.Test.YtalhdalmafhofaaGreatDoorArr
import Derived.Laws.CopyOwn
namespace Go.Proofs.YtalhdalmafhofaaGreatDoor
set_option maxRecDepth 100000
open Go.RowKit

theorem arr_zero25 : (#[Value.int IntKind.u64 0, .int .u64 0, .int .u64 0, .int .u64 0, .int .u64 0, .int .u64 0, .int .u64 0, .int .u64 0, .int .u64 0, .int .u64 0, .int .u64 0, .int .u64 0, .int .u64 0, .int .u64 0, .int .u64 0, .int .u64 0, .int .u64 0, .int .u64 0, .int .u64 0, .int .u64 0, .int .u64 0, .int .u64 0, .int .u64 0, .int .u64 0, .int .u64 0] : Array Value) = arr .u64 25 fun _ => 0 := rfl

/-- Three blocks of a call's own. -/
def Three (k : IntKind) (n : Nat) (w wx : World) (g : Nat) (t0 t1 t2 : TypeId) (cs c1 : Array Value) (f : Nat → Int) : Prop :=
  Past w wx ∧ Row wx g t0 cs ∧ Row wx (g + 1) t1 c1 ∧ LM k wx (g + 1 + 1) t2 n f
theorem Three.new (k : IntKind) (n : Nat) (w : World) (t0 t1 t2 : TypeId) (cs c1 : Array Value) (f : Nat → Int) :
    Three k n w (((w.alloc (.cells cs t0)).alloc (.cells c1 t1)).alloc (.cells (arr k n f) t2)) w.heap.size t0 t1 t2 cs c1 f := by
  refine ⟨(((Below.refl _ _).alloc (Nat.le_refl _) _).alloc (by simp) _).alloc (by simp; omega) _, ((Row.new w t0 cs).alloc _).alloc _, ?_, ?_⟩
  · have := (Row.new (w.alloc (.cells cs t0)) t1 c1).alloc (.cells (arr k n f) t2)
    simpa using this
  · have := Row.new ((w.alloc (.cells cs t0)).alloc (.cells c1 t1)) t2 (arr k n f)
    simpa using this
theorem Three.put {k : IntKind} {n : Nat} {w wx : World} {t0 t1 t2 : TypeId} {cs c1 : Array Value} {f : Nat → Int} {g : Nat} (h : Three k n w wx g t0 t1 t2 cs c1 f) (hg : w.heap.size ≤ g) (i : Nat) (hi : i < n) (v : Int) :
    Three k n w (wx.setCell ⟨g + 1 + 1, i, none⟩ (.int k v)) g t0 t1 t2 cs c1 (upd f i v) :=
  ⟨h.1.set (by show _ ≤ g + 1 + 1; omega) _, h.2.1.setOther (by omega) _ _, h.2.2.1.setOther (by omega) _ _, h.2.2.2.put i hi v⟩
theorem Three.drewN {k : IntKind} {n : Nat} {w wx : World} {t0 t1 t2 : TypeId} {cs c1 : Array Value} {f : Nat → Int} {g : Nat} (h : Three k n w wx g t0 t1 t2 cs c1 f) (m : Nat) : Three k n w (wx.drewN m) g t0 t1 t2 cs c1 f :=
  ⟨h.1.drewN m, h.2.1, h.2.2.1, h.2.2.2⟩

end Go.Proofs.YtalhdalmafhofaaGreatDoor

namespace Go.Proofs.YtalhdalmafhofaaGreatDoor
open Go.RowKit

abbrev Lane := BitVec 64
def ln (x : Lane) : Int := (x.toNat : Int)
theorem ln_rng (x : Lane) : 0 ≤ ln x ∧ ln x < 18446744073709551616 := by
  have := x.isLt
  unfold ln
  omega
theorem ln_inj {x y : Lane} (h : ln x = ln y) : x = y := BitVec.eq_of_toNat_eq (by unfold ln at h; omega)
theorem xor_ln (x y : Lane) : bits .xor .u64 (ln x) (ln y) = ln (x ^^^ y) := by
  unfold ln
  rw [u64_xor_nat _ _ x.isLt y.isLt, BitVec.toNat_xor]
theorem and_ln (x y : Lane) : bits .and .u64 (ln x) (ln y) = ln (x &&& y) := by
  unfold ln
  rw [u64_and_nat _ _ x.isLt y.isLt, BitVec.toNat_and]
theorem or_ln (x y : Lane) : bits .or .u64 (ln x) (ln y) = ln (x ||| y) := by
  unfold ln
  rw [u64_or_nat _ _ x.isLt y.isLt, BitVec.toNat_or]
def rot1 (x : Lane) : Lane := (x <<< (1 : Nat)) ||| (x >>> (63 : Nat))
theorem shl1_ln (x : Lane) : (ln x * (2 : Int) % (18446744073709551616 : Int) : Int) = ln (x <<< (1 : Nat)) := by
  unfold ln
  rw [BitVec.toNat_shiftLeft, Nat.shiftLeft_eq]
  omega
theorem shr63_ln (x : Lane) : (ln x / (9223372036854775808 : Int) : Int) = ln (x >>> (63 : Nat)) := by
  unfold ln
  rw [BitVec.toNat_ushiftRight, Nat.shiftRight_eq_div_pow]
  omega
theorem rot1_ln (x : Lane) : bits .or .u64 (IntKind.u64.wrap (ln x * (2 : Int))) (ln x / (9223372036854775808 : Int)) = ln (rot1 x) := by
  rw [IntKind.wrap_u64, shl1_ln, shr63_ln, or_ln]
  rfl
def rotN (x : Lane) : Nat → Lane
  | 0 => x
  | n + 1 => rot1 (rotN x n)
theorem rot1_bit (x : Lane) (i : Nat) (h : i < 64) : (rot1 x).getLsbD i = x.getLsbD ((i + 63) % 64) := by
  unfold rot1
  rw [BitVec.getLsbD_or, BitVec.getLsbD_shiftLeft, BitVec.getLsbD_ushiftRight]
  by_cases h0 : i = 0
  · subst h0
    simp
  · have e : (i + 63) % 64 = i - 1 := by omega
    rw [e]
    have h1 : x.getLsbD (63 + i) = false := BitVec.getLsbD_of_ge x _ (by omega)
    simp [h, h1]
    intro h2
    omega
theorem rotN_bit (x : Lane) (n i : Nat) (h : i < 64) : (rotN x n).getLsbD i = x.getLsbD ((i + 63 * n) % 64) := by
  induction n generalizing i with
  | zero => rw [rotN, Nat.mul_zero, Nat.add_zero, Nat.mod_eq_of_lt h]
  | succ n ih =>
    rw [rotN, rot1_bit _ _ h, ih _ (Nat.mod_lt _ (by decide))]
    congr 1
    omega
theorem lane_ext {x y : Lane} (h : ∀ i, i < 64 → x.getLsbD i = y.getLsbD i) : x = y := BitVec.eq_of_getLsbD_eq h
theorem rotN_xor (x y : Lane) (n : Nat) : rotN (x ^^^ y) n = rotN x n ^^^ rotN y n := lane_ext fun i h => by
  rw [BitVec.getLsbD_xor, rotN_bit _ _ _ h, rotN_bit _ _ _ h, rotN_bit _ _ _ h, BitVec.getLsbD_xor]
theorem rotN_rotN (x : Lane) (n m : Nat) : rotN (rotN x n) m = rotN x (n + m) := lane_ext fun i h => by
  rw [rotN_bit _ _ _ h, rotN_bit _ _ _ (Nat.mod_lt _ (by decide)), rotN_bit _ _ _ h]
  congr 1
  omega
theorem rotN_64 (x : Lane) : rotN x 64 = x := lane_ext fun i h => by
  rw [rotN_bit _ _ _ h]
  congr 1
  omega
theorem rotN_inj {x y : Lane} {n : Nat} (h : rotN x n = rotN y n) : x = y := by
  have e : ∀ z : Lane, rotN (rotN z n) (63 * n) = z := fun z => lane_ext fun i hi => by
    rw [rotN_rotN, rotN_bit _ _ _ hi]
    congr 1
    omega
  rw [← e x, h, e y]
theorem rotN_left (x : Lane) (n : Nat) (h : n < 64) : rotN x n = x.rotateLeft n := lane_ext fun i hi => by
  rw [rotN_bit _ _ _ hi, BitVec.getLsbD_rotateLeft]
  rw [Nat.mod_eq_of_lt h]
  by_cases h2 : i < n
  · rw [decide_eq_true h2, cond_true]
    congr 1
    omega
  · rw [decide_eq_false h2, cond_false, decide_eq_true hi, Bool.true_and]
    congr 1
    omega

end Go.Proofs.YtalhdalmafhofaaGreatDoor

namespace Go.Proofs.YtalhdalmafhofaaGreatDoor
open Go.RowKit

def pl (i : Nat) : Nat := [0, 1, 3, 7, 15, 31, 63].getD i 0
def cstep (s : Nat × List Nat) (t : Nat) : Nat × List Nat :=
  (if 256 ≤ 2 * s.1 then (2 * s.1) ^^^ 369 else 2 * s.1, if s.1 % 2 = 1 then s.2.set (t / 7) (s.2.getD (t / 7) 0 + 2 ^ pl (t % 7)) else s.2)
def cS (n : Nat) : Nat × List Nat := (List.range n).foldl cstep (1, List.replicate 24 0)
theorem cS_succ (n : Nat) : cS (n + 1) = cstep (cS n) n := by simp [cS, List.range_succ]
theorem cS_ok : ∀ t : Fin 168, (cS t.val).1 < 256 ∧ (cS t.val).2.length = 24 ∧ (cS t.val).2.getD (t.val / 7) 0 + 2 ^ pl (t.val % 7) < 18446744073709551616 := by decide +kernel
def rcs : List Nat := [0x1, 0x8082, 0x800000000000808a, 0x8000000080008000, 0x808b, 0x80000001, 0x8000000080008081, 0x8000000000008009, 0x8a, 0x88, 0x80008009, 0x8000000a, 0x8000808b, 0x800000000000008b, 0x8000000000008089, 0x8000000000008003, 0x8000000000008002, 0x8000000000000080, 0x800a, 0x800000008000000a, 0x8000000080008081, 0x8000000000008080, 0x80000001, 0x8000000080008008]
theorem cS_all : (cS 168).2 = rcs := by decide +kernel
def rcF (i : Nat) : Int := (rcs.getD i 0 : Nat)

theorem arr_zero24 : (#[Value.int IntKind.u64 0, .int .u64 0, .int .u64 0, .int .u64 0, .int .u64 0, .int .u64 0, .int .u64 0, .int .u64 0, .int .u64 0, .int .u64 0, .int .u64 0, .int .u64 0, .int .u64 0, .int .u64 0, .int .u64 0, .int .u64 0, .int .u64 0, .int .u64 0, .int .u64 0, .int .u64 0, .int .u64 0, .int .u64 0, .int .u64 0, .int .u64 0] : Array Value) = arr .u64 24 fun _ => 0 := rfl

/-- What stands while the constants are made. -/
def CW (w wx : World) (g : Nat) (s : List Nat) : Prop :=
  Past w wx ∧ Row wx g 122 (arr .u64 24 fun _ => 0) ∧ LM .u64 wx (g + 1) 122 24 (fun i => (s.getD i 0 : Nat)) ∧ LM .u64 wx (g + 1 + 1) 46 7 fun i => (pl i : Nat)
theorem CW.new (w : World) : CW w (((w.alloc (.cells (arr .u64 24 fun _ => 0) 122)).alloc (.cells (arr .u64 24 fun _ => 0) 122)).alloc (.cells #[.int .u64 0, .int .u64 1, .int .u64 3, .int .u64 7, .int .u64 15, .int .u64 31, .int .u64 63] 46)) w.heap.size (cS 0).2 := by
  refine ⟨(((Below.refl _ _).alloc (Nat.le_refl _) _).alloc (by simp) _).alloc (by simp; omega) _, ((Row.new w _ _).alloc _).alloc _, ?_, ?_⟩
  · have e : arr .u64 24 (fun _ => 0) = arr .u64 24 fun i => ((cS 0).2.getD i 0 : Nat) := by rfl
    have := (Row.new (w.alloc (.cells (arr .u64 24 fun _ => 0) 122)) 122 (arr .u64 24 fun _ => 0)).alloc (.cells #[.int .u64 0, .int .u64 1, .int .u64 3, .int .u64 7, .int .u64 15, .int .u64 31, .int .u64 63] 46)
    unfold LM
    rw [← e]
    simpa using this
  · have e : #[Value.int IntKind.u64 0, .int .u64 1, .int .u64 3, .int .u64 7, .int .u64 15, .int .u64 31, .int .u64 63] = arr .u64 7 fun i => (pl i : Nat) := by rfl
    have := Row.new ((w.alloc (.cells (arr .u64 24 fun _ => 0) 122)).alloc (.cells (arr .u64 24 fun _ => 0) 122)) 46 #[.int .u64 0, .int .u64 1, .int .u64 3, .int .u64 7, .int .u64 15, .int .u64 31, .int .u64 63]
    unfold LM
    rw [← e]
    simpa using this
theorem CW.put {w wx : World} {g : Nat} {s : List Nat} (h : CW w wx g s) (hg : w.heap.size ≤ g) (i : Nat) (hi : i < 24) (hs : s.length = 24) (v : Nat) : CW w (wx.setCell ⟨g + 1, i, none⟩ (.int .u64 (v : Int))) g (s.set i v) :=
  ⟨h.1.set (by show _ ≤ g + 1; omega) _, h.2.1.setOther (by omega) _ _, (h.2.2.1.put i hi v).same fun j hj => by
    by_cases e : j = i
    · subst e
      rw [upd_at, List.getD_eq_getElem?_getD, List.getElem?_set_self (by omega)]
      rfl
    · rw [upd_ne _ _ e, List.getD_eq_getElem?_getD, List.getD_eq_getElem?_getD, List.getElem?_set_ne (by omega)], h.2.2.2.setOther (by omega) _ _⟩
theorem CW.drewN {w wx : World} {g : Nat} {s : List Nat} (h : CW w wx g s) (m : Nat) : CW w (wx.drewN m) g s := ⟨h.1.drewN m, h.2.1, h.2.2.1, h.2.2.2⟩
theorem pl_lt (i : Nat) (h : i < 7) : pl i < 64 := by
  have : i = 0 ∨ i = 1 ∨ i = 2 ∨ i = 3 ∨ i = 4 ∨ i = 5 ∨ i = 6 := by omega
  rcases this with rfl | rfl | rfl | rfl | rfl | rfl | rfl <;> decide
theorem pow_cast (p : Nat) : ((2 ^ p : Nat) : Int) = (2 : Int) ^ p := Int.natCast_pow 2 p

theorem x369 : ∀ r : Fin 256, bits .xor .i64 (2 * (r.val : Int)) 369 = (((2 * r.val) ^^^ 369 : Nat) : Int) := by decide +kernel

end Go.Proofs.YtalhdalmafhofaaGreatDoor

namespace Go.Proofs.YtalhdalmafhofaaGreatDoor
open Go.RowKit

structure OSt where
  x : Nat
  y : Nat
  sum : Nat
  out : List Nat
def ostep (s : OSt) (t : Nat) : OSt := ⟨s.y, (2 * s.x + 3 * s.y) % 5, s.sum + (t + 1), s.out.set (s.x * 5 + s.y) ((s.sum + (t + 1)) % 64)⟩
def oS (n : Nat) : OSt := (List.range n).foldl ostep ⟨1, 0, 0, List.replicate 25 0⟩
theorem oS_succ (n : Nat) : oS (n + 1) = ostep (oS n) n := by simp [oS, List.range_succ]
theorem oS_ok : ∀ t : Fin 24, (oS t.val).x < 5 ∧ (oS t.val).y < 5 ∧ (oS t.val).sum < 1000 ∧ (oS t.val).out.length = 25 := by decide +kernel
def offs : List Nat := [0, 36, 3, 41, 18, 1, 44, 10, 45, 2, 62, 6, 43, 15, 61, 28, 55, 25, 21, 56, 27, 20, 39, 8, 14]
theorem oS_all : (oS 24).out = offs := by decide +kernel
def offF (i : Nat) : Int := (offs.getD i 0 : Nat)
theorem arr_izero25 : (#[Value.int IntKind.i64 0, .int .i64 0, .int .i64 0, .int .i64 0, .int .i64 0, .int .i64 0, .int .i64 0, .int .i64 0, .int .i64 0, .int .i64 0, .int .i64 0, .int .i64 0, .int .i64 0, .int .i64 0, .int .i64 0, .int .i64 0, .int .i64 0, .int .i64 0, .int .i64 0, .int .i64 0, .int .i64 0, .int .i64 0, .int .i64 0, .int .i64 0, .int .i64 0] : Array Value) = arr .i64 25 fun _ => 0 := rfl

end Go.Proofs.YtalhdalmafhofaaGreatDoor

namespace Go.Proofs.YtalhdalmafhofaaGreatDoor
open Go.RowKit

theorem arr_zero5 : (#[Value.int IntKind.u64 0, .int .u64 0, .int .u64 0, .int .u64 0, .int .u64 0] : Array Value) = arr .u64 5 fun _ => 0 := rfl

/-- Lanes by the place x * 5 + y. The parity of the first n lanes with one x. -/
def cP (A : Nat → Lane) (x : Nat) : Nat → Lane
  | 0 => 0
  | n + 1 => cP A x n ^^^ A (x * 5 + n)
def cC (A : Nat → Lane) (x : Nat) : Lane := cP A x 5
def th (A : Nat → Lane) (i : Nat) : Lane := A i ^^^ cC A ((i / 5 + 4) % 5) ^^^ rotN (cC A ((i / 5 + 1) % 5)) 1
def srcI (j : Nat) : Nat := ((3 * (j % 5) + j / 5) % 5) * 5 + j / 5
def dstI (i : Nat) : Nat := (i % 5) * 5 + (2 * (i / 5) + 3 * (i % 5)) % 5
theorem src_dst : ∀ i : Fin 25, srcI (dstI i.val) = i.val ∧ dstI i.val < 25 := by decide +kernel
theorem dst_src : ∀ j : Fin 25, dstI (srcI j.val) = j.val ∧ srcI j.val < 25 := by decide +kernel
def rho (A : Nat → Lane) (r : Nat → Nat) (j : Nat) : Lane := rotN (A (srcI j)) (r (srcI j))
def chi (B : Nat → Lane) (i : Nat) : Lane := B i ^^^ (~~~ B ((i / 5 + 1) % 5 * 5 + i % 5) &&& B ((i / 5 + 2) % 5 * 5 + i % 5))
def iota (A : Nat → Lane) (rc : Lane) (i : Nat) : Lane := if i = 0 then A 0 ^^^ rc else A i
/-- A round. -/
def kround (A : Nat → Lane) (rc : Lane) (r : Nat → Nat) : Nat → Lane := iota (chi (rho (th A) r)) rc

section
variable {w wx wy : World} {g : Nat} {fa R fc : Nat → Int}
end

/-- What the first double loop has made of the parities at x, y. -/
def fcP (A : Nat → Lane) (x y : Nat) (i : Nat) : Int := ln (cP A i (if i < x then 5 else if i = x then y else 0))
theorem fcP_zero (A : Nat → Lane) : fcP A 0 0 = fun _ => 0 := by
  funext i
  unfold fcP
  have : (if i < 0 then 5 else if i = 0 then 0 else 0) = 0 := by split <;> (try split) <;> first | rfl | omega
  rw [this]
  rfl
theorem fcP_next (A : Nat → Lane) (x i : Nat) : fcP A x 5 i = fcP A (x + 1) 0 i := by
  unfold fcP
  congr 2
  split <;> (try split) <;> (try split) <;> (try split) <;> first | rfl | omega
theorem fcP_put (A : Nat → Lane) (x y i : Nat) : upd (fcP A x y) x (ln (cP A x (y + 1))) i = fcP A x (y + 1) i := by
  by_cases e : i = x
  · subst e
    rw [upd_at]
    unfold fcP
    simp
  · rw [upd_ne _ _ e]
    unfold fcP
    rw [if_neg e, if_neg e]
theorem fcP_at (A : Nat → Lane) (x y : Nat) : fcP A x y x = ln (cP A x y) := by
  unfold fcP
  simp
/-- What the second double loop has made of the lanes. -/
def faP (A : Nat → Lane) (k : Nat) (i : Nat) : Int := if i < k then ln (th A i) else ln (A i)
theorem faP_put (A : Nat → Lane) (k i : Nat) : upd (faP A k) k (ln (th A k)) i = faP A (k + 1) i := by
  by_cases e : i = k
  · subst e
    rw [upd_at]
    unfold faP
    rw [if_pos (by omega)]
  · rw [upd_ne _ _ e]
    unfold faP
    by_cases h : i < k
    · rw [if_pos h, if_pos (by omega)]
    · rw [if_neg h, if_neg (by omega)]
def fbP (A : Nat → Lane) (r : Nat → Nat) (k : Nat) (j : Nat) : Int := if srcI j < k then ln (rho (th A) r j) else 0
theorem fbP_put (A : Nat → Lane) (r : Nat → Nat) (k j : Nat) (hk : k < 25) (hj : j < 25) : upd (fbP A r k) (dstI k) (ln (rotN (th A k) (r k))) j = fbP A r (k + 1) j := by
  have h1 := src_dst ⟨k, hk⟩
  have h2 := dst_src ⟨j, hj⟩
  simp only at h1 h2
  by_cases e : j = dstI k
  · subst e
    rw [upd_at]
    unfold fbP rho
    rw [h1.1, if_pos (by omega)]
  · rw [upd_ne _ _ e]
    have hne : srcI j ≠ k := fun h => e (by rw [← h, h2.1])
    unfold fbP
    by_cases h : srcI j < k
    · rw [if_pos h, if_pos (by omega)]
    · rw [if_neg h, if_neg (by omega)]

end Go.Proofs.YtalhdalmafhofaaGreatDoor
