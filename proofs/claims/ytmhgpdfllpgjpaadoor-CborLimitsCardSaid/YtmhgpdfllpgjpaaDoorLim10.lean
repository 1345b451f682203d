/- Byte strings of zeros and nested arrays, their encodings and readings. -/
import Derived.Test.YtmhgpdfllpgjpaaDoorFrame10
import Derived.Test.YtmhgpdfllpgjpaaDoorRef10K
import Derived.Test.YtmhgpdfllpgjpaaDoorRd10E
import Derived.Laws.MakeOwn
namespace Go.Proofs.YtmhgpdfllpgjpaaDoor
open Go.RowKit Go.ChangeShapes Go.WideShapes Go.ChangeAt
set_option linter.unusedVariables false

def tab : List Nat := [23, 24, 255, 256, 65535, 65536, 1048571, 1048572]
theorem tab_cell : ∀ r, r < 8 → (#[Value.int .i64 23, .int .i64 24, .int .i64 255, .int .i64 256, .int .i64 65535, .int .i64 65536, .int .i64 1048571, .int .i64 1048572] : Array Value)[r]? = some (.int .i64 ((tab.getD r 0 : Nat) : Int))
  | 0, _ => rfl
  | 1, _ => rfl
  | 2, _ => rfl
  | 3, _ => rfl
  | 4, _ => rfl
  | 5, _ => rfl
  | 6, _ => rfl
  | 7, _ => rfl
  | r + 8, h => by omega
theorem tab_le : ∀ r, r < 8 → tab.getD r 0 ≤ 1048571 ∨ tab.getD r 0 = 1048572
  | 0, _ => .inl (by decide)
  | 1, _ => .inl (by decide)
  | 2, _ => .inl (by decide)
  | 3, _ => .inl (by decide)
  | 4, _ => .inl (by decide)
  | 5, _ => .inl (by decide)
  | 6, _ => .inl (by decide)
  | 7, _ => .inr rfl
  | r + 8, h => by omega

/-- An item with K zeros. -/
def zs (K : Nat) : List Int := List.replicate K 0
def bz (K : Nat) : T := .node 2 0 (zs K) []
theorem zs_len (K : Nat) : (zs K).length = K := List.length_replicate
theorem zs_rng (K : Nat) : ∀ x ∈ zs K, 0 ≤ x ∧ x < 256 := fun x hx => by
  rw [List.eq_of_mem_replicate hx]
  omega
theorem bz_txt (K : Nat) : txt (bz K) = headB 2 K ++ zs K := by
  have e : numOf 2 0 (zs K).length 0 = K := by
    unfold numOf
    rw [if_pos (by decide), zs_len]
  show headB 2 (numOf 2 0 (zs K).length 0) ++ zs K = _
  rw [e]
theorem bz_len (K : Nat) : (txt (bz K)).length = K + (1 + hsz K) := by
  rw [bz_txt, List.length_append, headB_len, zs_len]
  omega
theorem hsz_4 (K : Nat) (h : K < 4294967296) : hsz K ≤ 4 := by
  unfold hsz
  repeat' split
  all_goals omega
theorem hsz_big : hsz 1048572 = 4 := by decide
theorem bz_cnt (K : Nat) : cnt (bz K) = 1 + K := by
  show 1 + (zs K).length = _
  rw [zs_len]
theorem bz_shp (K : Nat) : shp (bz K) = true := by
  simp [bz, shp, shpL, okB]
theorem bz_ok (K : Nat) (h : K ≤ 1048571) : vldT (bz K) = true := by
  have h1 := bz_len K
  have h2 := hsz_4 K (by omega)
  unfold vldT
  rw [bz_shp, decide_eq_true (p := dep (bz K) ≤ 8) (by show 1 ≤ 8; omega), decide_eq_true (p := (txt (bz K)).length ≤ 1048576) (by omega)]
  rfl
theorem bz_no : vldT (bz 1048572) = false := by
  have h1 := bz_len 1048572
  rw [hsz_big] at h1
  unfold vldT
  rw [decide_eq_false (p := (txt (bz 1048572)).length ≤ 1048576) (by omega)]
  simp
theorem bz_parse (K : Nat) (h : K ≤ 1048571) : parsL (txt (bz K)) (txt (bz K)).length = .good (bz K) (txt (bz K)).length := by
  have h1 := bz_len K
  have h2 := hsz_4 K (by omega)
  unfold parsL
  rw [if_neg (by omega)]
  exact pars_put (bz_shp K) (by show 1 ≤ 8; omega) ⟨by omega, by show (zs K).length < _; rw [zs_len]; omega, by show 0 < _; omega, trivial⟩

/-- Arrays, one in another. -/
def nst : Nat → T
  | 0 => .node 0 0 [] []
  | k + 1 => .node 4 0 [] [nst k]
def nb (k : Nat) : List Int := List.replicate k 129
theorem nst_parse : ∀ k, k < 20 → parsL (nb k ++ [0]) (k + 1) = if 8 ≤ k then .bad 2 8 else .good (nst k) (k + 1)
  | 0, _ => by kernel_rfl
  | 1, _ => by kernel_rfl
  | 2, _ => by kernel_rfl
  | 3, _ => by kernel_rfl
  | 4, _ => by kernel_rfl
  | 5, _ => by kernel_rfl
  | 6, _ => by kernel_rfl
  | 7, _ => by kernel_rfl
  | 8, _ => by kernel_rfl
  | 9, _ => by kernel_rfl
  | 10, _ => by kernel_rfl
  | 11, _ => by kernel_rfl
  | 12, _ => by kernel_rfl
  | 13, _ => by kernel_rfl
  | 14, _ => by kernel_rfl
  | 15, _ => by kernel_rfl
  | 16, _ => by kernel_rfl
  | 17, _ => by kernel_rfl
  | 18, _ => by kernel_rfl
  | 19, _ => by kernel_rfl
  | k + 20, h => by omega
theorem nst_nums : ∀ k : Fin 20, cnt (nst k.val) = k.val + 1 ∧ dep (nst k.val) = k.val + 1 := by decide +kernel
theorem nb_rng (k : Nat) : ∀ x ∈ nb k, 0 ≤ x ∧ x < 256 := fun x hx => by
  rw [List.eq_of_mem_replicate hx]
  omega
theorem nb_next (k : Nat) : nb (k + 1) = nb k ++ [129] := List.replicate_succ'

theorem make8 (N : Nat) (hN : N ≤ 2000000) (w : World) : (Instr.makeSlice 22 (.int .i64 (N : Int)) (.int .i64 (N : Int))).run Tryd.prog w = .ok (.slice (some ⟨w.heap.size, 0, none⟩) N N) (w.alloc (.cells (madeCells #[.int .u8 0] N) 5)) := by
  obtain ⟨i0, hi, hz0, hz1, hz2⟩ := info_parts info8
  have h := run_make (P := Tryd.prog) w 22 5 i0 (.int .u8 0) Tryd.underlying22 hi hz0 .i64 .i64 (N : Int) (N : Int) (by omega) (Int.le_refl _) (by rw [hz2]; omega) (by omega)
  rw [hz1, Nat.mul_one, Int.toNat_natCast] at h
  exact h
theorem made_sl (N : Nat) (hN : N ≤ 2000000) (w : World) : Sl (w.alloc (.cells (madeCells #[.int .u8 0] N) 5)) (some ⟨w.heap.size, 0, none⟩) N N (zs N) := by
  refine Sl.lit8 w (zs N) _ N ?_ (size_madeCells _ _) (by unfold maxLen; omega) (zs_rng N)
  refine List.ext_getElem? fun i => ?_
  by_cases hi : i < N
  · simp [madeCells, zs, hi, Nat.mod_one]
  · simp [madeCells, zs, hi]

/-- What the loop keeps: so many bytes 129. -/
structure Nw (w wx : World) (B j : Nat) (A : Option Addr) (L c : Nat) : Prop where
  own : wx.ownsRow B 5 1 (.slice A L c) L ((nb j).map (Value.int .u8))
  past : Past w wx
  len : L = j
  ge : w.heap.size ≤ B
  lt : B ≤ wx.heap.size
theorem Nw.step {w wx wy : World} {B j L c c5 : Nat} {A A5 : Option Addr} {o : Obj} (h : Nw w wx B j A L c)
    (hown : wy.ownsRow B 5 1 (.slice A5 (L + 1) c5) (L + 1) ((nb j ++ [129]).map (Value.int .u8))) (hg : (wx.alloc o).grownBy wy (Value.slice A L c).ownBlock) : Nw w wy B (j + 1) A5 (L + 1) c5 :=
  ⟨by rw [nb_next]; exact hown, past_push (h.past.trans' (past_alloc8 wx o)) h.ge (h.own.alloc o) hg, by rw [h.len], h.ge, by have := hg.size; have := h.lt; simp only [World.size_alloc] at *; omega⟩

end Go.Proofs.YtmhgpdfllpgjpaaDoor
