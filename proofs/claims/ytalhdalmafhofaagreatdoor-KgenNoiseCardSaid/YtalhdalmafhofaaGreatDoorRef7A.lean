/- Contract of the reference of the hashes: the padding. Contract of the reference of the hashes: a block is combined with a state. Contract of the reference of the hashes: the permutation of a state. Contract of the reference of the hashes: the output of a sponge. Contracts of the reference of the hashes: the four functions. -/
import Derived.Test.YtalhdalmafhofaaGreatDoorRef5A
import Derived.Test.YtalhdalmafhofaaGreatDoorArr
import Derived.Test.YtalhdalmafhofaaGreatDoorRef6F
namespace Go.Proofs.YtalhdalmafhofaaGreatDoor
open Go.RowKit
set_option maxRecDepth 100000

/-- The first m numbers of f. -/
def bl (f : Nat → Int) (m : Nat) : List Int := (List.range m).map f
theorem bl_len (f : Nat → Int) (m : Nat) : (bl f m).length = m := by simp [bl]
theorem bl_succ (f : Nat → Int) (m : Nat) : bl f (m + 1) = bl f m ++ [f m] := by simp [bl, List.range_succ]
theorem bl_getD (f : Nat → Int) (m i : Nat) (h : i < m) : (bl f m).getD i 0 = f i := by simp [bl, List.getD, h]
theorem bl_ext {f g : Nat → Int} {m : Nat} (h : ∀ i, i < m → f i = g i) : bl f m = bl g m := by
  unfold bl
  exact List.map_congr_left fun i hi => h i (List.mem_range.1 hi)
theorem bl_of (xs : List Int) (f : Nat → Int) (h : ∀ i, i < xs.length → f i = xs.getD i 0) : bl f xs.length = xs := by
  apply List.ext_getElem (bl_len _ _)
  intro i h1 h2
  have := h i h2
  simp [bl, this, List.getElem?_eq_getElem h2]

/-- The block of what a call owns. -/
theorem own_row {w : World} {base : Nat} {e : TypeId} {A : Option Addr} {n c : Nat} {k : IntKind} {xs : List Int} (h : w.ownsRow base e 1 (.slice A n c) n (xs.map (Value.int k))) (hn : 0 < n) :
    ∃ g cur, A = some ⟨g, 0, none⟩ ∧ base ≤ g ∧ Row w g e cur ∧ ∀ i, i < n → cur[i]? = some (.int k (xs.getD i 0)) := by
  have hl : xs.length = n := by have := h.1; simpa using this
  rcases h.2 with ⟨e1, e2⟩ | ⟨g, cap, cur, e1, e2, e3, e4, e5, e6, e7⟩
  · omega
  · injection e1 with a1 a2 a3
    subst a1 a3
    refine ⟨g, cur, rfl, e2, e3, fun i hi => ?_⟩
    have h1 : cur[i]? = (cur.toList.take (n * 1))[i]? := by rw [List.getElem?_take_of_lt (by omega), Array.getElem?_toList]
    rw [h1, e7, List.getElem?_map, List.getD_eq_getElem?_getD, List.getElem?_eq_getElem (by omega)]
    rfl
theorem own_set {w : World} {base : Nat} {e : TypeId} {g n c : Nat} {k : IntKind} {xs : List Int} (h : w.ownsRow base e 1 (.slice (some ⟨g, 0, none⟩) n c) n (xs.map (Value.int k))) (i : Nat) (v : Int) :
    (w.setCell ⟨g, i, none⟩ (.int k v)).ownsRow base e 1 (.slice (some ⟨g, 0, none⟩) n c) n ((xs.set i v).map (Value.int k)) := by
  refine ⟨by have := h.1; simpa using this, ?_⟩
  rcases h.2 with ⟨e1, e2⟩ | ⟨g', cap, cur, e1, e2, e3, e4, e5, e6, e7⟩
  · cases e1
  · injection e1 with a1 a2 a3
    injection a1 with a1
    injection a1 with a1
    subst a1 a3
    refine .inr ⟨g, c, cur.setIfInBounds i (.int k v), rfl, e2, ?_, e4, e5, by simpa using e6, ?_⟩
    · exact (show Row w g e cur from e3).set i (.int k v)
    · rw [Array.toList_setIfInBounds, List.take_set, e7, List.map_set]
/-- A number before the last bit of the padding is set. -/
def pd (xs : List Int) (s : Int) (i : Nat) : Int := if i < xs.length then xs.getD i 0 else if i = xs.length then s else 0
/-- The length of what is padded. -/
def plen (n r : Nat) : Nat := n + 1 + (r - (n + 1) % r) % r
def padF (xs : List Int) (r : Nat) (s : Int) (i : Nat) : Int := if i + 1 = plen xs.length r then bits .xor .u8 (pd xs s i) 128 else pd xs s i
def padL (xs : List Int) (r : Nat) (s : Int) : List Int := bl (padF xs r s) (plen xs.length r)
theorem plen_mod (n r : Nat) (hr : 0 < r) : plen n r % r = 0 := by
  unfold plen
  have h1 := Nat.mod_lt (n + 1) hr
  have h2 := Nat.div_add_mod (n + 1) r
  by_cases h : (n + 1) % r = 0
  · rw [h, Nat.sub_zero, Nat.mod_self, Nat.add_zero, h]
  · rw [Nat.mod_eq_of_lt (show r - (n + 1) % r < r by omega)]
    rw [show n + 1 + (r - (n + 1) % r) = r * ((n + 1) / r + 1) by rw [Nat.mul_add]; omega]
    exact Nat.mul_mod_right _ _
theorem plen_before (n r t : Nat) (hr : 0 < r) (ht : t < (r - (n + 1) % r) % r) : (n + 1 + t) % r ≠ 0 := by
  have h1 := Nat.mod_lt (n + 1) hr
  intro h
  by_cases h0 : (n + 1) % r = 0
  · rw [h0, Nat.sub_zero, Nat.mod_self] at ht
    omega
  · rw [Nat.mod_eq_of_lt (show r - (n + 1) % r < r by omega)] at ht
    rw [Nat.add_mod, Nat.mod_eq_of_lt (show t < r by omega), Nat.mod_eq_of_lt (by omega)] at h
    omega
theorem pd_rng (xs : List Int) (s : Int) (hx : ∀ x ∈ xs, 0 ≤ x ∧ x < 256) (hs : 0 ≤ s ∧ s < 256) (i : Nat) : 0 ≤ pd xs s i ∧ pd xs s i < 256 := by
  unfold pd
  split
  · rename_i h
    rw [List.getD_eq_getElem?_getD, List.getElem?_eq_getElem h]
    exact hx _ (List.getElem_mem h)
  · split <;> omega

theorem padL_set (xs : List Int) (R m : Nat) (s : Int) (h : plen xs.length R = m + 1) : padL xs R s = (bl (pd xs s) (m + 1)).set m (bits .xor .u8 (pd xs s m) 128) := by
  unfold padL
  rw [h]
  apply List.ext_getElem (by simp [bl_len])
  intro i h1 h2
  have hi : i < m + 1 := by simpa [bl_len] using h1
  rw [List.getElem_set]
  simp only [bl, List.getElem_map, List.getElem_range]
  unfold padF
  rw [h]
  by_cases e : m = i
  · subst e
    rw [if_pos rfl, if_pos rfl]
  · rw [if_neg (by omega), if_neg e]

end Go.Proofs.YtalhdalmafhofaaGreatDoor

namespace Go.Proofs.YtalhdalmafhofaaGreatDoor
open Go.RowKit
set_option maxRecDepth 100000

/-- A byte at its place in a lane. -/
def lby (y : Int) (i : Nat) : Lane := BitVec.ofNat 64 y.toNat <<< (8 * (i % 8))
/-- A state combined with the first i bytes. -/
def mixN (A : Nat → Lane) (ys : List Int) : Nat → Nat → Lane
  | 0 => A
  | i + 1 => fun j => if j = i / 8 then mixN A ys i j ^^^ lby (ys.getD i 0) i else mixN A ys i j
theorem mixN_at (A : Nat → Lane) (ys : List Int) (i j : Nat) : mixN A ys (i + 1) j = if j = i / 8 then mixN A ys i j ^^^ lby (ys.getD i 0) i else mixN A ys i j := rfl
def mixF (A : Nat → Lane) (ys : List Int) : Nat → Lane := mixN A ys ys.length

theorem lby_ln (y : Int) (h0 : 0 ≤ y) (h1 : y < 256) (m : Nat) : IntKind.u64.wrap (y * 2 ^ (8 * m)) = ln (BitVec.ofNat 64 y.toNat <<< (8 * m)) := by
  obtain ⟨k, rfl⟩ := Int.eq_ofNat_of_zero_le h0
  unfold ln
  rw [IntKind.wrap_u64, BitVec.toNat_shiftLeft, BitVec.toNat_ofNat, Nat.shiftLeft_eq, Int.toNat_natCast, Nat.mod_eq_of_lt (a := k) (by omega), Int.natCast_emod, Int.natCast_mul, Int.natCast_pow]
  rfl
theorem getD_rng {xs : List Int} (h : ∀ x ∈ xs, 0 ≤ x ∧ x < 256) (i : Nat) : 0 ≤ xs.getD i 0 ∧ xs.getD i 0 < 256 := by
  rw [List.getD_eq_getElem?_getD]
  by_cases hi : i < xs.length
  · rw [List.getElem?_eq_getElem hi]
    exact h _ (List.getElem_mem hi)
  · rw [List.getElem?_eq_none (by omega)]
    simp
def TwoM (w wx : World) (g : Nat) (c1 : Array Value) (f : Nat → Int) : Prop :=
  Past w wx ∧ LM .u64 wx g 97 25 f ∧ Row wx (g + 1) 97 c1
theorem TwoM.put {w wx : World} {g : Nat} {c1 : Array Value} {f : Nat → Int} (h : TwoM w wx g c1 f) (hg : w.heap.size ≤ g) (i : Nat) (hi : i < 25) (v : Int) : TwoM w (wx.setCell ⟨g, i, none⟩ (.int .u64 v)) g c1 (upd f i v) :=
  ⟨h.1.set hg _, h.2.1.put i hi v, Row.setOther h.2.2 (by omega) _ _⟩

end Go.Proofs.YtalhdalmafhofaaGreatDoor

namespace Go.Proofs.YtalhdalmafhofaaGreatDoor
open Go.RowKit
set_option maxRecDepth 100000

/-- The permutation of a state whose lanes lie row by row. -/
def tp (A : Nat → Lane) (i : Nat) : Lane := A (i / 5 + 5 * (i % 5))
def tq (A : Nat → Lane) (i : Nat) : Lane := A (i % 5 * 5 + i / 5)
def rperm (A : Nat → Lane) : Nat → Lane := tq (kperm (tp A))

end Go.Proofs.YtalhdalmafhofaaGreatDoor

namespace Go.Proofs.YtalhdalmafhofaaGreatDoor
open Go.RowKit
set_option maxRecDepth 100000

/-- The state after the first k blocks of R bytes. -/
def rabs (p : List Int) (R : Nat) : Nat → Nat → Lane
  | 0 => fun _ => 0
  | k + 1 => rperm (mixF (rabs p R k) ((p.drop (k * R)).take R))
/-- The state after k more permutations. -/
def rsq (A : Nat → Lane) : Nat → Nat → Lane
  | 0 => A
  | k + 1 => rperm (rsq A k)
/-- A byte of the output. -/
def rout (A : Nat → Lane) (R j : Nat) : Int := kbyte (rsq A (j / R)) (j % R)
/-- The state after all bytes. -/
def rstate (xs : List Int) (R : Nat) (s : Int) : Nat → Lane := rabs (padL xs R s) R (plen xs.length R / R)

theorem bits8 : ∀ x : Fin 256, 0 ≤ bits .xor .u8 (x.val : Int) 128 ∧ bits .xor .u8 (x.val : Int) 128 < 256 := by decide +kernel
theorem padL_rng (xs : List Int) (R : Nat) (s : Int) (hx : ∀ x ∈ xs, 0 ≤ x ∧ x < 256) (hs : 0 ≤ s ∧ s < 256) : ∀ x ∈ padL xs R s, 0 ≤ x ∧ x < 256 := by
  intro x h
  obtain ⟨j, _, rfl⟩ := List.mem_map.1 h
  have hp := pd_rng xs s hx hs j
  unfold padF
  split
  · obtain ⟨y, hy⟩ := Int.eq_ofNat_of_zero_le hp.1
    rw [hy]
    exact bits8 ⟨y, by omega⟩
  · exact hp
/-- A cut of two indexes. -/
theorem slice2 (g L pc I R : Nat) (h1 : I + R ≤ pc) (hI : I < pc) (w : World) :
    (Instr.slice 25 (.slice (some ⟨g, 0, none⟩) L pc) (some (.int .i64 (I : Int))) (some (.int .i64 ((I : Int) + (R : Int)))) none).run Tryz.prog w = .ok (.slice (some ⟨g, I, none⟩) R (pc - I)) w := by
  rw [run_slice_lh w 25 (some ⟨g, 0, none⟩) L pc Tryz.underlying25 .i64 .i64 (I : Int) ((I : Int) + (R : Int)) (by omega) (by omega) (by omega)]
  have hs : (sizeOf (Tryz.prog.elem 25)).run Tryz.prog w = .ok 1 w := by kernel_rfl
  rw [hs]
  simp only [Result.andThen, sliced, Int.toNat_natCast, show ((I : Int) + (R : Int)).toNat = I + R by omega]
  rw [if_neg (by omega), Option.map_some, Nat.mul_one, add_none, Nat.zero_add, Nat.add_sub_cancel_left]
theorem sliceAt2 (g L pc I R : Nat) (h1 : I + R ≤ pc) (hI : I < pc) (w : World) :
    (Instr.sliceAt 25 (.slice (some ⟨g, 0, none⟩) L pc) (some (.int .i64 (I : Int))) (some (.int .i64 ((I : Int) + (R : Int)))) none).run Tryz.prog w = .ok (.slice (some ⟨g, I, none⟩) R (pc - I)) w := by
  rw [run_sliceAt_slice w 25 _ _ _ _ Tryz.underlying25]
  exact slice2 g L pc I R h1 hI w
theorem own_past {w w' : World} {B : Nat} {e : TypeId} {v : Value} {n : Nat} {xs : List Value} (h : w.ownsRow B e 1 v n xs) (hp : Past w w') : w'.ownsRow B e 1 v n xs := by
  refine ⟨h.1, ?_⟩
  rcases h.2 with h | ⟨g, cap, cur, e1, e2, e3, e4⟩
  · exact .inl h
  · exact .inr ⟨g, cap, cur, e1, e2, (show Row w g e cur from e3).past hp, e4⟩
theorem own_setRow {w : World} {B g : Nat} {e : TypeId} {v : Value} {n : Nat} {xs : List Value} (h : w.ownsRow B e 1 v n xs) (hg : g < B) (cs : Array Value) : (w.setRow g cs).ownsRow B e 1 v n xs := by
  refine ⟨h.1, ?_⟩
  rcases h.2 with h | ⟨g', cap, cur, e1, e2, e3, e4⟩
  · exact .inl h
  · exact .inr ⟨g', cap, cur, e1, e2, (setRow_other w g g' cs (by omega)).trans e3, e4⟩
theorem bl_take (f : Nat → Int) (m M : Nat) (h : M ≤ m) : (bl f m).take M = bl f M := by
  unfold bl
  rw [← List.map_take, List.take_range, Nat.min_eq_left h]
theorem bl_add (f : Nat → Int) (a b : Nat) : bl f (a + b) = bl f a ++ bl (fun j => f (a + j)) b := by
  unfold bl
  rw [List.range_add, List.map_append, List.map_map]
  rfl
theorem rout_add (A : Nat → Lane) (R t : Nat) (hR : 0 < R) : bl (rout A R) (t * R + R) = bl (rout A R) (t * R) ++ bl (kbyte (rsq A t)) R := by
  rw [bl_add]
  congr 1
  refine bl_ext fun j hj => ?_
  unfold rout
  rw [Nat.mul_comm t R, Nat.mul_add_div hR, Nat.div_eq_of_lt hj, Nat.add_zero, Nat.mul_add_mod, Nat.mod_eq_of_lt hj]
theorem kbyte_rng (A : Nat → Lane) (j : Nat) : 0 ≤ kbyte A j ∧ kbyte A j < 256 := by
  unfold kbyte
  omega
/-- The first bytes of an array as a slice. -/
theorem sliceArr (g R : Nat) (hR2 : R ≤ 200) (w : World) :
    (Instr.sliceAt 67 (.pointer (some ⟨g, 0, none⟩)) none (some (.int .i64 (R : Int))) none).run Tryz.prog w = .ok (.slice (some ⟨g, 0, none⟩) R 200) w := by
  have hl : Tryz.prog.arrayLen 67 = 200 := by kernel_rfl
  rw [run_sliceAt_array_h w 67 ⟨g, 0, none⟩ Tryz.underlying67 .i64 (R : Int) (by omega) (by rw [hl]; omega)]
  have hs : (sizeOf (Tryz.prog.elem 67)).run Tryz.prog w = .ok 1 w := by kernel_rfl
  rw [hs]
  simp only [Result.andThen, slicedAt, hl, Int.toNat_natCast]
  rw [if_neg (by omega), add_none]
  rfl
/-- Bytes in a block of their own. -/
theorem Sl.ofRow {w : World} {g m R : Nat} {t : TypeId} {f : Nat → Int} (h : Row w g t (arr .u8 m f)) (hR : R ≤ m) (hm : m ≤ 1000) (hf : ∀ i, 0 ≤ f i ∧ f i < 256) : Sl w (some ⟨g, 0, none⟩) R m (bl f R) := by
  refine ⟨bl_len f R, hR, by unfold maxLen; omega, fun _ => ⟨g, 0, rfl, fun i hi => ?_⟩, fun x hx => ?_, fun e => by cases e⟩
  · rw [Nat.zero_add, h.cell, arr_get .u8 m f i (by omega), bl_getD f R i hi]
  · obtain ⟨j, _, rfl⟩ := List.mem_map.1 hx
    exact hf j
theorem rout_rng (A : Nat → Lane) (R j : Nat) : 0 ≤ rout A R j ∧ rout A R j < 256 := kbyte_rng _ _
theorem bl_rng (f : Nat → Int) (m : Nat) (h : ∀ i, 0 ≤ f i ∧ f i < 256) : ∀ x ∈ bl f m, 0 ≤ x ∧ x < 256 := by
  intro x hx
  obtain ⟨j, _, rfl⟩ := List.mem_map.1 hx
  exact h j
/-- Where the absorbing stands. -/
def AQ (w1 wx : World) (cs : Array Value) : Prop := Past w1 wx ∧ Row wx w1.heap.size 97 cs

theorem st_size (f : Nat → Lane) : (Tryz.prog.info? 97).map (·.size) = some (arr .u64 25 fun i => ln (f i)).size := by rw [arr_size]; kernel_rfl

end Go.Proofs.YtalhdalmafhofaaGreatDoor

namespace Go.Proofs.YtalhdalmafhofaaGreatDoor
open Go.RowKit
set_option maxRecDepth 100000

end Go.Proofs.YtalhdalmafhofaaGreatDoor
