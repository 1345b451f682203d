/- Parse of package pyxref12: what a string is read as, in the reference's words; the ways out ahead of its lines. -/
import Derived.Test.YtnnonidiogoffaaGreatDoorRf12C
import Derived.Laws.Rows
import Derived.Laws.Tables
namespace Go.Proofs.YtnnonidiogoffaaGreatDoor
open Go.RowKit
set_option linter.unusedVariables false

/-- What the reference's Parse answers. -/
def RParP (r : PRes) (w : World) (e : Ending) (w' : World) : Prop :=
  (match r with
    | .err c => e = .returned (.agg #[.string ⟨#[]⟩, .slice none 0 0, .int .i64 c])
    | .ok lab ys => ∃ A m cc, e = .returned (.agg #[.string (txt lab), .slice A m cc, .int .i64 0]) ∧ Sl w' A m cc ys) ∧ Past w w'
theorem rp_err3 {xs : List Int} (h : ¬ xs.getLast? = some 10) : parP xs = .err 3 := by unfold parP; exact if_neg h
/-- How the first line must look. -/
def refOk (f : List Int) : Prop := 17 ≤ f.length ∧ f.take 11 = [45, 45, 45, 45, 45, 66, 69, 71, 73, 78, 32] ∧ f.drop (f.length - 5) = [45, 45, 45, 45, 45]
theorem ref_of {f : List Int} (h : refOk f) : f = begL (labOf f) := by
  obtain ⟨h1, h2, h3⟩ := h
  have e1 : f = f.take 11 ++ f.drop 11 := (List.take_append_drop 11 f).symm
  have e2 : f.drop 11 = (f.drop 11).take (f.length - 16) ++ (f.drop 11).drop (f.length - 16) := (List.take_append_drop _ _).symm
  have e3 : (f.drop 11).drop (f.length - 16) = [45, 45, 45, 45, 45] := by rw [List.drop_drop, show 11 + (f.length - 16) = f.length - 5 by omega, h3]
  rw [e3] at e2
  unfold begL labOf hyL
  rw [← h2, ← e2]
  exact e1
theorem ref_to {f : List Int} (hl : labB (labOf f) = true) (h : f = begL (labOf f)) : refOk f := by
  obtain ⟨L, hL⟩ : ∃ L, labOf f = L := ⟨_, rfl⟩
  rw [hL] at h hl
  have h0 := List.length_pos_iff.2 (labB_ne hl)
  subst h
  have e : (begL L).length = L.length + 16 := by simp [begL, hyL]
  refine ⟨by omega, rfl, ?_⟩
  rw [e, show begL L = ([45, 45, 45, 45, 45, 66, 69, 71, 73, 78, 32] ++ L) ++ hyL by simp [begL]]
  exact List.drop_left' (by simp)
theorem rp_frm {xs : List Int} (h : xs.getLast? = some 10) (hf : frmB ((lnsL xs).getD 0 []) ((lnsL xs).getLastD []) = false) : parP xs = .err 5 := by
  unfold parP
  rw [if_pos h, if_neg (by rw [hf]; decide)]
theorem rp_two {xs : List Int} (h : xs.getLast? = some 10) (hn : (lnsL xs).length < 2) : parP xs = .err 5 := by
  refine rp_frm h ?_
  cases hb : frmB ((lnsL xs).getD 0 []) ((lnsL xs).getLastD []) with
  | false => rfl
  | true =>
    obtain ⟨f, m, l, e⟩ := frm_two hb (lns_last h).2
    rw [e] at hn
    simp at hn
    omega
theorem rp_first {xs : List Int} (h : xs.getLast? = some 10) (hn : ¬ refOk ((lnsL xs).getD 0 [])) : parP xs = .err 5 := by
  refine rp_frm h ?_
  cases hb : frmB ((lnsL xs).getD 0 []) ((lnsL xs).getLastD []) with
  | false => rfl
  | true =>
    obtain ⟨h1, h2, h3⟩ := frm_yes hb
    exact absurd (ref_to h1 h2) hn
theorem rp_lab {xs : List Int} (h : xs.getLast? = some 10) (hn : labB (labOf ((lnsL xs).getD 0 [])) = false) : parP xs = .err 5 := by
  refine rp_frm h ?_
  unfold frmB
  rw [hn]
  rfl
theorem rp_last {xs : List Int} (h : xs.getLast? = some 10) (hn : ¬ (lnsL xs).getLastD [] = endL (labOf ((lnsL xs).getD 0 []))) : parP xs = .err 5 := by
  refine rp_frm h ?_
  unfold frmB
  rw [decide_eq_false hn, Bool.and_false]
theorem rp_mid {xs : List Int} (h : xs.getLast? = some 10) (h1 : refOk ((lnsL xs).getD 0 [])) (h2 : labB (labOf ((lnsL xs).getD 0 [])) = true) (h3 : (lnsL xs).getLastD [] = endL (labOf ((lnsL xs).getD 0 []))) :
    parP xs = midP (labOf ((lnsL xs).getD 0 [])) (midOf (lnsL xs)) := by
  unfold parP
  rw [if_pos h, if_pos (by unfold frmB; rw [h2, decide_eq_true (ref_of h1), decide_eq_true h3]; rfl)]
theorem resR (cs : Array Value) (h : cs.size = 3) : (Tryz.prog.info? 29).map (·.size) = some cs.size := by rw [h]; kernel_rfl
theorem past_rowR {w W : World} {g : Nat} (h : Past w W) (hg : w.heap.size ≤ g) (cs : Array Value) : Past w (W.setRow g cs) :=
  ⟨h.os, h.tape, h.output, by simpa using h.size, fun i hi => (setRow_other W g i cs (by omega)).trans (h.block i hi)⟩
theorem past_allocR (w : World) (o : Obj) : Past w (w.alloc o) := (Below.refl w.heap.size w).alloc (Nat.le_refl _) o

set_option maxHeartbeats 4000000 in
set_option maxRecDepth 100000 in
theorem rparse_none (A : Option Addr) (c : Nat) (w : World) (hS : Sl w A 0 c []) : Calls Tryz.prog 10 #[.slice A 0 c] w (RParP (parP []) w) := by
  have HR : Hid (parP [] = .err 3) := Lib.hid (rp_err3 (by simp))
  have HN := Lib.hid (Row.new w 29 #[.string ⟨#[]⟩, .slice none 0 0, .int .i64 0])
  go_enter Tryz.func10, Tryz.ntmps10
  go_wp2_with (refine wpList_store_row rfl 29 _ _ rfl _ _ rfl rfl _ _ HN.out (resR _ rfl) rfl (by simp [Value.oneCell']) ?_)
  refine bodyPost_ret (results_cell_row rfl _ _ _ _ _ _ _ rfl (setRow_heap _ _ _ _ _ _ HN.out) Tryz.underlying29 rfl (resR _ rfl)) rfl ?_
  rw [HR.out]
  exact ⟨rfl, past_rowR (past_allocR _ _) (Nat.le_refl _) _⟩
set_option maxHeartbeats 4000000 in
set_option maxRecDepth 100000 in
theorem rparse_noend (A : Option Addr) (n c : Nat) (xs : List Int) (w : World) (hS : Sl w A n c xs) (hn : n ≤ 100000) (h0 : ¬ n = 0) (h10 : ¬ xs.getLast? = some 10) : Calls Tryz.prog 10 #[.slice A n c] w (RParP (parP xs) w) := by
  have HR : Hid (parP xs = .err 3) := Lib.hid (rp_err3 h10)
  have HN := Lib.hid (Row.new w 29 #[.string ⟨#[]⟩, .slice none 0 0, .int .i64 0])
  obtain ⟨b, o, rfl, hc⟩ := hS.bytes (by omega)
  have hcap := hS.cap
  obtain ⟨k, rfl⟩ : ∃ k, n = k + 1 := ⟨n - 1, by omega⟩
  have hx : xs.getD k 0 ≠ 10 := by
    intro e
    apply h10
    rw [List.getLast?_eq_getElem?, hS.len, Nat.add_sub_cancel, List.getElem?_eq_getElem (by have := hS.len; omega)]
    rw [List.getD_eq_getElem?_getD, List.getElem?_eq_getElem (by have := hS.len; omega)] at e
    exact congrArg some e
  have hcell : (w.alloc (.cells #[.string ⟨#[]⟩, .slice none 0 0, .int .i64 0] 29)).cell? ⟨b, o + k, none⟩ = some (.int .u8 (xs.getD k 0)) := by
    rw [Below.cell (past_allocR w _) (cell_lt (hc k (by omega)))]
    exact hc k (by omega)
  have hxb : (xs.getD k 0 == 10) = false := by simpa using hx
  have hn0 : ((k : Int) + 1 == 0) = false := by simp; omega
  have hnn : ¬ (1048576 : Int) < (k : Int) + 1 := by omega
  have hn1 : ¬ (k : Int) + 1 = 0 := by omega
  generalize xs.getD k 0 = x at *
  clear hx hc h10 h0
  go_enter Tryz.func10, Tryz.ntmps10
  go_wp2_with (refine wpList_store_row rfl 29 _ _ rfl _ _ rfl rfl _ _ HN.out (resR _ rfl) rfl (by simp [Value.oneCell']) ?_)
  refine bodyPost_ret (results_cell_row rfl _ _ _ _ _ _ _ rfl (setRow_heap _ _ _ _ _ _ HN.out) Tryz.underlying29 rfl (resR _ rfl)) rfl ?_
  rw [HR.out]
  exact ⟨rfl, past_rowR (past_allocR _ _) (Nat.le_refl _) _⟩
end Go.Proofs.YtnnonidiogoffaaGreatDoor
