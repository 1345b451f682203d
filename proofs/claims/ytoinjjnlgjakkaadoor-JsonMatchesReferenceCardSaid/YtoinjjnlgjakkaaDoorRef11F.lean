/- The reference's reader, walked. -/
import Derived.Test.YtoinjjnlgjakkaaDoorRef11E
import Derived.Test.YtoinjjnlgjakkaaDoorGiv11
import Derived.Laws.Rows
import Derived.Laws.Tables
namespace Go.Proofs.YtoinjjnlgjakkaaDoor
open Go.RowKit
set_option linter.unusedVariables false

/-- The result's cells and out's cells, as they lie. -/
structure Out (w : World) (g : Nat) (l : List P2) (xs : List Int) (W : World) : Prop where
  past : Past w W
  ge : w.heap.size = g
  res : Row W g 32 #[.slice none 0 0, .slice none 0 0, .int .i64 0, .int .i64 0]
  out : ∃ v u, Row W (g + 1) 32 #[v, u, .int .i64 0, .int .i64 0] ∧ W.ownsRow (g + 2) 45 2 v l.length (pcells l) ∧ W.ownsRow (g + 2) 3 1 u l.length ((List.range l.length).map fun i => Value.int .i64 (nmP l i : Int))
theorem past_row {w W : World} {g : Nat} (h : Past w W) (hg : w.heap.size ≤ g) (cs : Array Value) : Past w (W.setRow g cs) :=
  ⟨h.os, h.tape, h.output, by simpa using h.size, fun i hi => (setRow_other W g i cs (by omega)).trans (h.block i hi)⟩
theorem setRow_grown (W : World) (g : Nat) (cs : Array Value) : W.grownBy (W.setRow g cs) (some g) :=
  ⟨rfl, rfl, rfl, by simp, fun i hi hne => setRow_other W g i cs (fun e => hne (by rw [e]))⟩
theorem res4 (cs : Array Value) (h : cs.size = 4) : (Tryd.prog.info? 32).map (·.size) = some cs.size := by rw [h]; kernel_rfl
theorem two_new (w : World) (g : Nat) (hg : w.heap.size = g) (w1 : World) (h : w1 = (w.alloc (.cells #[.slice none 0 0, .slice none 0 0, .int .i64 0, .int .i64 0] 32)).alloc (.cells #[.slice none 0 0, .slice none 0 0, .int .i64 0, .int .i64 0] 32)) : Out w g [] [] w1 := by
  subst hg h
  have e : (w.alloc (.cells #[.slice none 0 0, .slice none 0 0, .int .i64 0, .int .i64 0] 32)).heap.size = w.heap.size + 1 := by simp
  have p2 := past_alloc8 (w.alloc (.cells #[.slice none 0 0, .slice none 0 0, .int .i64 0, .int .i64 0] 32)) (.cells #[.slice none 0 0, .slice none 0 0, .int .i64 0, .int .i64 0] 32)
  refine ⟨(past_alloc8 _ _).trans' p2, rfl, (Row.new w _ _).past p2, ?_⟩
  refine ⟨_, _, by rw [← e]; exact Row.new _ _ _, World.ownsRow_nil _ _ _ _, World.ownsRow_nil _ _ _ _⟩
theorem Out.later {w W W' : World} {g : Nat} {l : List P2} {xs : List Int} (h : Out w g l xs W) (hp : Past W W') : Out w g l xs W' := by
  obtain ⟨v, u, h1, h2, h3⟩ := h.out
  exact ⟨h.past.trans' hp, h.ge, h.res.past hp, v, u, h1.past hp, own_past h2 hp, own_past h3 hp⟩
theorem take_none {xs : List Int} : xs.take 0 = ([] : List Int) := rfl
/-- An error of the reader. -/
def RdBad (w : World) (n : Nat) (xs : List Int) (e : Ending) (w' : World) : Prop := ∃ k s, e = .returned (bad11 (wrongC n k).1 (wrongC n k).2) ∧ readS xs 0 0 = (k, s) ∧ s ≠ 9 ∧ Past w w'
set_option maxHeartbeats 4000000 in
set_option maxRecDepth 100000 in
theorem rread_none (A : Option Addr) (n c : Nat) (xs : List Int) (w : World) (hS : Sl w A n c xs) (hn : n ≤ 1000000) (h0 : isB xs 0 123 = false) : Calls Tryd.prog 22 #[.slice A n c] w (RdBad w n xs) := by
  have HR := Lib.hid (rd_none (by rw [hS.len]; exact hn) h0)
  have HIs := Lib.hid (fun w h => ris_any A n c xs 0 123 w h (by omega))
  rw [h0] at HIs
  have HW := Lib.hid (fun w => rwrong_any A n c 0 w (by omega) (by omega))
  have HSL := Lib.hid hS
  clear hS h0
  go_enter Tryd.func22, Tryd.ntmps22
  go_wp2_with fail
  obtain ⟨g, hg⟩ : ∃ g, w.heap.size = g := ⟨_, rfl⟩
  rw [hg]
  obtain ⟨w1, hw1⟩ : ∃ w1, w1 = (w.alloc (.cells #[.slice none 0 0, .slice none 0 0, .int .i64 0, .int .i64 0] 32)).alloc (.cells #[.slice none 0 0, .slice none 0 0, .int .i64 0, .int .i64 0] 32) := ⟨_, rfl⟩
  have H1 := Lib.hid (two_new w g hg w1 hw1)
  simp only [← hw1]
  clear hw1
  refine (HIs.out _ (HSL.out.past H1.out.past)).mono ?_
  rintro e w2 ⟨rfl, rfl⟩
  go_wp2_with fail
  refine (HW.out _).mono ?_
  rintro e w2 ⟨rfl, hp⟩
  have H2 := Lib.hid (H1.out.later hp)
  clear hp
  have hrow := H2.out.res
  go_wp2_with (refine wpList_store_row rfl 32 _ _ rfl g _ rfl rfl _ _ hrow (res4 _ rfl) rfl (by simp [Value.oneCell']) ?_)
  refine bodyPost_ret (results_cell_row rfl _ _ g _ _ _ _ rfl (setRow_heap _ g _ _ _ _ hrow) Tryd.underlying32 rfl (res4 _ rfl)) rfl ?_
  exact ⟨0, 0, rfl, HR.out, by decide, past_row H2.out.past (by rw [H2.out.ge]; exact Nat.le_refl _) _⟩
/-- What the reader hands back of pairs that it has read. -/
def RdOk (w : World) (xs : List Int) (e : Ending) (w' : World) : Prop := ∃ (l : List P2) (p : Nat) (A1 : Option Addr) (n1 c1 : Nat) (A2 : Option Addr) (n2 c2 : Nat), e = .returned (.agg #[.slice A1 n1 c1, .slice A2 n2 c2, .int .i64 0, .int .i64 (p : Int)]) ∧ Loose l ∧ xs.take p = textI l ∧ readS xs 0 0 = (p, 9) ∧ p ≤ xs.length ∧
  Ps w' A1 n1 c1 l ∧ (∀ (i : Nat), i < l.length → ∃ g, A2 = some ⟨g, 0, none⟩ ∧ n2 = l.length ∧ w'.cell? ⟨g, i, none⟩ = some (.int .i64 (nmP l i : Int))) ∧ Past w w'
/-- The end: what out holds goes to the result. -/
theorem Out.ok {w W : World} {g : Nat} {l : List P2} {xs ys : List Int} (h : Out w g l ys W) (hl : Loose l) (p : Nat) (ht : xs.take p = textI l) (hr : readS xs 0 0 = (p, 9)) (hp : p ≤ xs.length) (hx : xs.length ≤ 1000000) :
    ∃ v u, (W.cell? ⟨g + 1, 3, none⟩ = some (.int .i64 0) ∧ W.frozen? ⟨g + 1, 3, none⟩ = false) ∧ Row (W.setCell ⟨g + 1, 3, none⟩ (.int .i64 (p : Int))) (g + 1) 32 #[v, u, .int .i64 0, .int .i64 (p : Int)] ∧
    Row (W.setCell ⟨g + 1, 3, none⟩ (.int .i64 (p : Int))) g 32 #[.slice none 0 0, .slice none 0 0, .int .i64 0, .int .i64 0] ∧ (#[v, u, .int .i64 0, .int .i64 (p : Int)] : Array Value).all (·.oneCell') = true ∧
    RdOk w xs (.returned (.agg #[v, u, .int .i64 0, .int .i64 (p : Int)])) ((W.setCell ⟨g + 1, 3, none⟩ (.int .i64 (p : Int))).setRow g #[v, u, .int .i64 0, .int .i64 (p : Int)]) := by
  obtain ⟨v, u, h1, h2, h3⟩ := h.out
  obtain ⟨W1, hW1⟩ : ∃ W1, W1 = W.setCell ⟨g + 1, 3, none⟩ (.int .i64 (p : Int)) := ⟨_, rfl⟩
  have k1 : Row W1 (g + 1) 32 #[v, u, .int .i64 0, .int .i64 (p : Int)] := by rw [hW1]; exact h1.set 3 _
  have k2 : W1.ownsRow (g + 2) 45 2 v l.length (pcells l) := by rw [hW1]; exact ownsRow_setCell_below (a := ⟨g + 1, 3, none⟩) h2 (by show g + 1 < g + 2; omega) _
  have k3 : W1.ownsRow (g + 2) 3 1 u l.length ((List.range l.length).map fun i => Value.int .i64 (nmP l i : Int)) := by rw [hW1]; exact ownsRow_setCell_below (a := ⟨g + 1, 3, none⟩) h3 (by show g + 1 < g + 2; omega) _
  have k4 : Row W1 g 32 #[.slice none 0 0, .slice none 0 0, .int .i64 0, .int .i64 0] := by
    rw [hW1]
    exact (Below.heap_setCell W ⟨g + 1, 3, none⟩ _ g (by show g ≠ g + 1; omega)).trans h.res
  have k5 : Past w W1 := by rw [hW1]; exact h.past.setCell (by show w.heap.size ≤ g + 1; rw [h.ge]; omega) _
  obtain ⟨A1, c1, rfl⟩ := own_slice h2
  obtain ⟨A2, c2, rfl⟩ := own_slice h3
  rw [← hW1]
  obtain ⟨cs, hcs⟩ : ∃ cs : Array Value, cs = #[.slice A1 l.length c1, .slice A2 l.length c2, .int .i64 0, .int .i64 (p : Int)] := ⟨_, rfl⟩
  have hgr : W1.grownBy (W1.setRow g cs) (some g) := setRow_grown W1 g cs
  have hne : ∀ {v : Value} {e : TypeId} {sz m : Nat} {ys : List Value}, W1.ownsRow (g + 2) e sz v m ys → v.ownBlock = none ∨ v.ownBlock ≠ some g := fun hh => .inr fun e => by have := (hh.lt g e).1; omega
  have q2 := k2.kept hgr (hne k2)
  have q3 := k3.kept hgr (hne k3)
  refine ⟨_, _, ⟨h1.cell 3, h1.fr 3⟩, k1, k4, (by simp [Value.oneCell']), l, p, A1, l.length, c1, A2, l.length, c2, rfl, hl, ht, hr, hp, ?_, ?_, past_row k5 (by rw [h.ge]; exact Nat.le_refl _) _⟩
  · rw [← hcs]
    exact Ps.of_own q2
  · intro i hi
    rw [← hcs]
    rcases q3.2 with ⟨_, e⟩ | ⟨b, cap, cur, e1, _⟩
    · omega
    · injection e1 with a1 a2 a3
      subst a1
      refine ⟨b, rfl, rfl, ?_⟩
      have := q3.cells (g := b) rfl i (.int .i64 (nmP l i : Int)) (by simp [hi])
      rwa [add_none, Nat.zero_add] at this
set_option maxHeartbeats 4000000 in
set_option maxRecDepth 100000 in
theorem rread_empty (A : Option Addr) (n c : Nat) (xs : List Int) (w : World) (hS : Sl w A n c xs) (hn : n ≤ 1000000) (h0 : isB xs 0 123 = true) (h1 : isB xs 1 125 = true) : Calls Tryd.prog 22 #[.slice A n c] w (RdOk w xs) := by
  have HR := Lib.hid (rd_empty (by rw [hS.len]; exact hn) h0 h1)
  have HP : Hid (2 ≤ xs.length) := Lib.hid (isB_yes h1).1
  have HIs := Lib.hid (fun w h => ris_any A n c xs 0 123 w h (by omega))
  have HIt := Lib.hid (fun w h => ris_any A n c xs 1 125 w h (by omega))
  rw [h0] at HIs
  rw [h1] at HIt
  have HSL := Lib.hid hS
  clear hS h0 h1
  go_enter Tryd.func22, Tryd.ntmps22
  go_wp2_with fail
  obtain ⟨g, hg⟩ : ∃ g, w.heap.size = g := ⟨_, rfl⟩
  rw [hg]
  obtain ⟨w1, hw1⟩ : ∃ w1, w1 = (w.alloc (.cells #[.slice none 0 0, .slice none 0 0, .int .i64 0, .int .i64 0] 32)).alloc (.cells #[.slice none 0 0, .slice none 0 0, .int .i64 0, .int .i64 0] 32) := ⟨_, rfl⟩
  have H1 := Lib.hid (two_new w g hg w1 hw1)
  simp only [← hw1]
  clear hw1
  refine (HIs.out _ (HSL.out.past H1.out.past)).mono ?_
  rintro e w2 ⟨rfl, rfl⟩
  go_wp2_with fail
  refine (HIt.out _ (HSL.out.past H1.out.past)).mono ?_
  rintro e w3 ⟨rfl, rfl⟩
  obtain ⟨v, u, ⟨x3, y3⟩, k1, k2, o1, hok⟩ := H1.out.ok (xs := xs) (fun p hp => by cases hp) 2 HR.out.2 HR.out.1 HP.out (by rw [HSL.out.len]; exact hn)
  have HK := Lib.hid hok
  clear hok
  go_upto_region 6 with (fail)
  go_wp2_with (first
    | (refine wpList_load_row rfl 32 _ rfl (g + 1) rfl _ _ _ _ k1 Tryd.underlying32 rfl (res4 _ rfl) ?_)
    | (refine wpList_store_row rfl 32 _ _ rfl g _ rfl rfl _ _ k2 (res4 _ rfl) rfl o1 ?_))
  refine bodyPost_ret (results_cell_row rfl _ _ g _ _ _ _ rfl (setRow_heap _ g _ _ _ _ k2) Tryd.underlying32 rfl (res4 _ rfl)) rfl ?_
  exact HK.out

end Go.Proofs.YtoinjjnlgjakkaaDoor
