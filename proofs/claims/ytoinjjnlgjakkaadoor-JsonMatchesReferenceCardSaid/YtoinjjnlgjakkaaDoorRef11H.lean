/- The reference's reader: a pair and the offset of its name are appended. -/
import Derived.Test.YtoinjjnlgjakkaaDoorRef11F
import Derived.Test.YtoinjjnlgjakkaaDoorPg11J
namespace Go.Proofs.YtoinjjnlgjakkaaDoor
open Go.RowKit
set_option linter.unusedVariables false

theorem sl_sub {w : World} {b o n c : Nat} {xs : List Int} (h : Sl w (some ⟨b, o, none⟩) n c xs) (hc : ∀ i, i < n → w.cell? ⟨b, o + i, none⟩ = some (.int .u8 (xs.getD i 0))) (i m : Nat) (hi : i + m ≤ n) : Sl w (some ⟨b, o + i, none⟩) m (c - i) ((xs.drop i).take m) := by
  have hl := h.len
  have h1 := h.cap
  have h2 := h.big
  refine ⟨by rw [List.length_take, List.length_drop]; omega, by omega, by omega, fun hn => ⟨b, o + i, rfl, fun j hj => ?_⟩, fun x hx => h.rng x (List.mem_of_mem_drop (List.mem_of_mem_take hx)), fun e => by cases e⟩
  have := hc (i + j) (by omega)
  rw [show o + (i + j) = o + i + j by omega] at this
  rw [this]
  congr 2
  rw [List.getD_eq_getElem?_getD, List.getD_eq_getElem?_getD, List.getElem?_take_of_lt hj, List.getElem?_drop]
/-- The offsets of the names. -/
def nms (l : List P2) (n : Nat) : List Value := (List.range n).map fun i => Value.int .i64 (nmP l i : Int)
theorem nmP_app (l r : List P2) : ∀ i, i ≤ l.length → nmP (l ++ r) i = nmP l i
  | 0, _ => rfl
  | i + 1, hi => by
    show nmP (l ++ r) i + _ = nmP l i + _
    rw [nmP_app l r i (by omega)]
    congr 2
    rw [List.getD_eq_getElem?_getD, List.getD_eq_getElem?_getD, List.getElem?_append_left (by omega)]
theorem nms_snoc (l : List P2) (p : P2) : nms (l ++ [p]) (l.length + 1) = nms l l.length ++ [.int .i64 (nmP l l.length : Int)] := by
  unfold nms
  rw [List.range_succ, List.map_append]
  congr 1
  · exact List.map_congr_left fun i hi => by rw [nmP_app l [p] i (by have := List.mem_range.1 hi; omega)]
  · simp [nmP_app l [p] l.length (Nat.le_refl _)]
/-- Between the two appends. -/
structure Half (w : World) (g : Nat) (l : List P2) (p : P2) (W : World) : Prop where
  past : Past w W
  ge : w.heap.size = g
  res : Row W g 32 #[.slice none 0 0, .slice none 0 0, .int .i64 0, .int .i64 0]
  out : ∃ v u, Row W (g + 1) 32 #[v, u, .int .i64 0, .int .i64 0] ∧ W.ownsRow (g + 2) 45 2 v (l.length + 1) (pcells (l ++ [p])) ∧ W.ownsRow (g + 2) 3 1 u l.length (nms l l.length)
theorem own_apart {W : World} {B e1 e2 s1 s2 n1 n2 : Nat} {v u : Value} {x1 x2 : List Value} (h1 : W.ownsRow B e1 s1 v n1 x1) (h2 : W.ownsRow B e2 s2 u n2 x2) (he : e1 ≠ e2) : u.ownBlock = none ∨ u.ownBlock ≠ v.ownBlock := by
  rcases h2.2 with ⟨rfl, _⟩ | ⟨k, cap, cur, rfl, _, e3, _⟩
  · exact .inl rfl
  · refine .inr fun e => ?_
    rcases h1.2 with ⟨rfl, _⟩ | ⟨k', cap', cur', rfl, _, e3', _⟩
    · cases e
    · injection e with e
      have e' : k = k' := e
      subst e'
      rw [e3] at e3'
      injection e3' with e3'
      injection e3' with _ e4
      exact he e4.symm
theorem Out.push {w W W1 w' : World} {g : Nat} {l : List P2} {ys : List Int} {p : P2} {v u v' : Value} (h : Out w g l ys W) (ho : Row W (g + 1) 32 #[v, u, .int .i64 0, .int .i64 0]) (hv : W.ownsRow (g + 2) 45 2 v l.length (pcells l)) (hu : W.ownsRow (g + 2) 3 1 u l.length (nms l l.length))
    (hp1 : Past W W1) (h1 : w'.ownsRow (g + 2) 45 2 v' (l.length + 1) (pcells (l ++ [p]))) (h2 : W1.grownBy w' v.ownBlock) :
    w'.cell? ⟨g + 1, 0, none⟩ = some v ∧ w'.frozen? ⟨g + 1, 0, none⟩ = false ∧ Half w g l p (w'.setCell ⟨g + 1, 0, none⟩ v') := by
  have hne : ∀ k, k < g + 2 → some k ≠ v.ownBlock := fun k hk e => by
    have := (hv.lt k e.symm).1
    omega
  have r1 : Row w' (g + 1) 32 #[v, u, .int .i64 0, .int .i64 0] := (ho.past hp1).grown h2 (hne _ (by omega))
  have r0 : Row w' g 32 #[.slice none 0 0, .slice none 0 0, .int .i64 0, .int .i64 0] := (h.res.past hp1).grown h2 (hne _ (by omega))
  have u1 : w'.ownsRow (g + 2) 3 1 u l.length (nms l l.length) := (own_past hu hp1).kept h2 (own_apart (own_past hv hp1) (own_past hu hp1) (by decide))
  have hpw : Past w w' := (h.past.trans' hp1).grown h2 (h.past.trans' hp1).size fun k e => by
    have := (hv.lt k e).1
    have := h.ge
    omega
  refine ⟨r1.cell 0, r1.fr 0, hpw.setCell (by show w.heap.size ≤ g + 1; rw [h.ge]; omega) _, h.ge, ?_, v', u, r1.set 0 v', ?_, ?_⟩
  · exact (Below.heap_setCell w' ⟨g + 1, 0, none⟩ _ g (by show g ≠ g + 1; omega)).trans r0
  · exact ownsRow_setCell_below (a := ⟨g + 1, 0, none⟩) h1 (by show g + 1 < g + 2; omega) _
  · exact ownsRow_setCell_below (a := ⟨g + 1, 0, none⟩) u1 (by show g + 1 < g + 2; omega) _
theorem Half.push {w W W1 w' : World} {g : Nat} {l : List P2} {ys : List Int} {p : P2} {v u u' : Value} (h : Half w g l p W) (ho : Row W (g + 1) 32 #[v, u, .int .i64 0, .int .i64 0]) (hv : W.ownsRow (g + 2) 45 2 v (l.length + 1) (pcells (l ++ [p]))) (hu : W.ownsRow (g + 2) 3 1 u l.length (nms l l.length))
    (hp1 : Past W W1) (h1 : w'.ownsRow (g + 2) 3 1 u' (l.length + 1) (nms l l.length ++ [.int .i64 (nmP l l.length : Int)])) (h2 : W1.grownBy w' u.ownBlock) :
    w'.cell? ⟨g + 1, 1, none⟩ = some u ∧ w'.frozen? ⟨g + 1, 1, none⟩ = false ∧ Out w g (l ++ [p]) ys (w'.setCell ⟨g + 1, 1, none⟩ u') := by
  have hne : ∀ k, k < g + 2 → some k ≠ u.ownBlock := fun k hk e => by
    have := (hu.lt k e.symm).1
    omega
  have r1 : Row w' (g + 1) 32 #[v, u, .int .i64 0, .int .i64 0] := (ho.past hp1).grown h2 (hne _ (by omega))
  have r0 : Row w' g 32 #[.slice none 0 0, .slice none 0 0, .int .i64 0, .int .i64 0] := (h.res.past hp1).grown h2 (hne _ (by omega))
  have u1 : w'.ownsRow (g + 2) 45 2 v (l.length + 1) (pcells (l ++ [p])) := (own_past hv hp1).kept h2 (own_apart (own_past hu hp1) (own_past hv hp1) (by decide))
  have hpw : Past w w' := (h.past.trans' hp1).grown h2 (h.past.trans' hp1).size fun k e => by
    have := (hu.lt k e).1
    have := h.ge
    omega
  have hlen : (l ++ [p]).length = l.length + 1 := by simp
  refine ⟨r1.cell 1, r1.fr 1, hpw.setCell (by show w.heap.size ≤ g + 1; rw [h.ge]; omega) _, h.ge, ?_, v, u', r1.set 1 u', ?_, ?_⟩
  · exact (Below.heap_setCell w' ⟨g + 1, 1, none⟩ _ g (by show g ≠ g + 1; omega)).trans r0
  · rw [hlen]
    exact ownsRow_setCell_below (a := ⟨g + 1, 1, none⟩) u1 (by show g + 1 < g + 2; omega) _
  · rw [hlen]
    show World.ownsRow _ _ _ _ _ _ (nms (l ++ [p]) (l.length + 1))
    rw [nms_snoc]
    exact ownsRow_setCell_below (a := ⟨g + 1, 1, none⟩) h1 (by show g + 1 < g + 2; omega) _

end Go.Proofs.YtoinjjnlgjakkaaDoor
