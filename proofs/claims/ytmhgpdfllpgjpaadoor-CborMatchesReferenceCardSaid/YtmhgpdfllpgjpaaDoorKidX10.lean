/- Lists of trees beside a block that is written to: no tree lies in it. -/
import Derived.Test.YtmhgpdfllpgjpaaDoorRd10L
namespace Go.Proofs.YtmhgpdfllpgjpaaDoor
open Go.RowKit
set_option linter.unusedVariables false

def KidAtX (wx : World) (q r : Nat) (v : Value) (cells : List Value) (i : Nat) (t : T) : Prop :=
  ∃ x y z u lo hi, cells[i * 4]? = some x ∧ cells[i * 4 + 1]? = some y ∧ cells[i * 4 + 2]? = some z ∧ cells[i * 4 + 3]? = some u ∧ q < lo ∧ hi ≤ wx.heap.size ∧ (∀ kb, v.ownBlock = some kb → kb < lo ∨ hi ≤ kb) ∧ (r < lo ∨ hi ≤ r) ∧
    ∀ w'', (∀ k, lo ≤ k → k < hi → w''.heap[k]? = wx.heap[k]?) → InM w'' (.agg #[x, y, z, u]) t
theorem KidAt.x {wx : World} {q r : Nat} {v : Value} {cells : List Value} {i : Nat} {t : T} (h : KidAt wx q v cells i t) (hr : wx.heap.size ≤ r) : KidAtX wx q r v cells i t := by
  obtain ⟨x, y, z, u, lo, hi, hx, hy, hz, hu, hlo, hhi, hkb, hin⟩ := h
  exact ⟨x, y, z, u, lo, hi, hx, hy, hz, hu, hlo, hhi, hkb, .inr (by omega), hin⟩
theorem KidAtX.base {wx : World} {q r : Nat} {v : Value} {cells : List Value} {i : Nat} {t : T} (h : KidAtX wx q r v cells i t) : KidAt wx q v cells i t := by
  obtain ⟨x, y, z, u, lo, hi, hx, hy, hz, hu, hlo, hhi, hkb, _, hin⟩ := h
  exact ⟨x, y, z, u, lo, hi, hx, hy, hz, hu, hlo, hhi, hkb, hin⟩
theorem KidAtX.agree {wx wy : World} {q r : Nat} {v : Value} {cells : List Value} {i : Nat} {t : T} (h : KidAtX wx q r v cells i t) (hs : wx.heap.size ≤ wy.heap.size)
    (ha : ∀ k, q < k → k < wx.heap.size → some k ≠ v.ownBlock → k ≠ r → wy.heap[k]? = wx.heap[k]?) : KidAtX wy q r v cells i t := by
  obtain ⟨x, y, z, u, lo, hi, hx, hy, hz, hu, hlo, hhi, hkb, hr, hin⟩ := h
  refine ⟨x, y, z, u, lo, hi, hx, hy, hz, hu, hlo, by omega, hkb, hr, fun w'' hw => hin w'' fun k h1 h2 => ?_⟩
  rw [hw k h1 h2]
  refine ha k (by omega) (by omega) (fun e => ?_) (by omega)
  have := hkb k e.symm
  omega
structure KdsX (wx : World) (q r : Nat) (e : TypeId) (v : Value) (m : Nat) (kids : List T) (cells : List Value) : Prop where
  len : kids.length = m
  own : wx.ownsRow (q + 1) e 4 v m cells
  ne : ∀ kb, v.ownBlock = some kb → kb ≠ r
  at0 : ∀ i, i < m → KidAtX wx q r v cells i (kids.getD i default)
section
variable {wx wy : World} {q r : Nat} {e : TypeId} {v : Value} {m : Nat} {kids : List T} {cells : List Value}
theorem Kds.x (h : Kds wx q e v m kids cells) (hr : wx.heap.size ≤ r) : KdsX wx q r e v m kids cells :=
  ⟨h.len, h.own, fun kb hk => by have := (h.own.lt kb hk).2; omega, fun i hi => (h.at0 i hi).x hr⟩
theorem KdsX.base (h : KdsX wx q r e v m kids cells) : Kds wx q e v m kids cells := ⟨h.len, h.own, fun i hi => (h.at0 i hi).base⟩
theorem KdsX.later (h : KdsX wx q r e v m kids cells) (hp : Past wx wy) : KdsX wy q r e v m kids cells :=
  ⟨h.len, own_past h.own hp, h.ne, fun i hi => (h.at0 i hi).agree hp.size fun k _ hk _ _ => hp.block k hk⟩
theorem KdsX.set (h : KdsX wx q r e v m kids cells) (o : Nat) (u : Value) : KdsX (wx.setCell ⟨q, o, none⟩ u) q r e v m kids cells := by
  have hb : ∀ k, k ≠ q → (wx.setCell ⟨q, o, none⟩ u).heap[k]? = wx.heap[k]? := fun k hk => by simp [World.setCell, Array.getElem?_modify, Ne.symm hk]
  have hs : (wx.setCell ⟨q, o, none⟩ u).heap.size = wx.heap.size := by simp [World.setCell]
  refine ⟨h.len, ⟨h.own.1, ?_⟩, h.ne, fun i hi => (h.at0 i hi).agree (Nat.le_of_eq hs.symm) fun k hk _ _ _ => hb k (by omega)⟩
  rcases h.own.2 with h1 | ⟨g, cap, cur, e1, e2, e3, e4⟩
  · exact .inl h1
  · exact .inr ⟨g, cap, cur, e1, e2, (hb g (by omega)).trans e3, e4⟩
/-- The block beside is written to. -/
theorem KdsX.beside (h : KdsX wx q r e v m kids cells) (cs : Array Value) : KdsX (wx.setRow r cs) q r e v m kids cells := by
  have hs : (wx.setRow r cs).heap.size = wx.heap.size := by simp [World.setRow]
  refine ⟨h.len, ⟨h.own.1, ?_⟩, h.ne, fun i hi => (h.at0 i hi).agree (Nat.le_of_eq hs.symm) fun k hk _ _ hr => setRow_other wx r k cs hr⟩
  rcases h.own.2 with h1 | ⟨g', cap, cur, e1, e2, e3, e4⟩
  · exact .inl h1
  · refine .inr ⟨g', cap, cur, e1, e2, (setRow_other wx r g' cs (h.ne g' ?_)).trans e3, e4⟩
    rw [e1]
    rfl
theorem KdsX.push (h : KdsX wx q r e v m kids cells) {v' x y z u : Value} {t : T} {lo hi : Nat} (hlo : q < lo) (hhi : hi ≤ wx.heap.size) (hkb : ∀ kb, v.ownBlock = some kb → kb < lo) (hrr : r < lo ∨ hi ≤ r) (hrx : r < wx.heap.size)
    (hin : ∀ w'', (∀ k, lo ≤ k → k < hi → w''.heap[k]? = wx.heap[k]?) → InM w'' (.agg #[x, y, z, u]) t)
    (hown : wy.ownsRow (q + 1) e 4 v' (m + 1) (cells ++ [x, y, z, u])) (hgrow : wx.grownBy wy v.ownBlock) (hat : v'.ownBlock = v.ownBlock ∨ v'.ownBlock = some wx.heap.size) : KdsX wy q r e v' (m + 1) (kids ++ [t]) (cells ++ [x, y, z, u]) := by
  have hcl : cells.length = m * 4 := h.own.1
  have hne : ∀ kb, v'.ownBlock = some kb → kb ≠ r := fun kb hk => by
    rcases hat with ha | ha
    · exact h.ne kb (by rw [← ha]; exact hk)
    · rw [ha] at hk
      injection hk with hk
      omega
  refine ⟨by rw [List.length_append, h.len]; rfl, hown, hne, fun i hi2 => ?_⟩
  by_cases him : i < m
  · obtain ⟨x', y', z', u', lo', hi', hx, hy, hz, hu, hlo', hhi', hkb', hr', hin'⟩ := h.at0 i him
    refine ⟨x', y', z', u', lo', hi', ?_, ?_, ?_, ?_, hlo', Nat.le_trans hhi' hgrow.size, fun kb hk => ?_, hr', fun w'' hw => ?_⟩
    · rw [List.getElem?_append_left (by omega)]
      exact hx
    · rw [List.getElem?_append_left (by omega)]
      exact hy
    · rw [List.getElem?_append_left (by omega)]
      exact hz
    · rw [List.getElem?_append_left (by omega)]
      exact hu
    · rcases hat with ha | ha
      · exact hkb' kb (by rw [← ha]; exact hk)
      · rw [ha] at hk
        injection hk with hk
        omega
    · rw [List.getD_eq_getElem?_getD, List.getElem?_append_left (by rw [h.len]; exact him), ← List.getD_eq_getElem?_getD]
      refine hin' w'' fun k h1 h2 => ?_
      rw [hw k h1 h2]
      refine hgrow.block k (by omega) fun e => ?_
      have := hkb' k e.symm
      omega
  · obtain rfl : i = m := by omega
    refine ⟨x, y, z, u, lo, hi, ?_, ?_, ?_, ?_, hlo, Nat.le_trans hhi hgrow.size, fun kb hk => ?_, hrr, fun w'' hw => ?_⟩
    · rw [List.getElem?_append_right (by omega), show i * 4 - cells.length = 0 by omega]
      rfl
    · rw [List.getElem?_append_right (by omega), show i * 4 + 1 - cells.length = 1 by omega]
      rfl
    · rw [List.getElem?_append_right (by omega), show i * 4 + 2 - cells.length = 2 by omega]
      rfl
    · rw [List.getElem?_append_right (by omega), show i * 4 + 3 - cells.length = 3 by omega]
      rfl
    · rcases hat with ha | ha
      · exact .inl (hkb kb (by rw [← ha]; exact hk))
      · rw [ha] at hk
        injection hk with hk
        omega
    · rw [List.getD_eq_getElem?_getD, List.getElem?_append_right (by rw [h.len]; exact Nat.le_refl _), h.len, Nat.sub_self]
      show InM w'' _ t
      refine hin w'' fun k h1 h2 => ?_
      rw [hw k h1 h2]
      refine hgrow.block k (by omega) fun e => ?_
      have := hkb k e.symm
      omega
/-- Tree i, in every world that has the blocks above q but the one beside. -/
theorem KdsX.kid (h : KdsX wx q r e v m kids cells) {i : Nat} (hi : i < m) (w'' : World) (ha : ∀ k, q < k → k < wx.heap.size → k ≠ r → w''.heap[k]? = wx.heap[k]?) :
    ∃ x y z u, cells[i * 4]? = some x ∧ cells[i * 4 + 1]? = some y ∧ cells[i * 4 + 2]? = some z ∧ cells[i * 4 + 3]? = some u ∧ InM w'' (.agg #[x, y, z, u]) (kids.getD i default) := by
  obtain ⟨x, y, z, u, lo, hi', hx, hy, hz, hu, hlo, hhi, _, hr, hin⟩ := h.at0 i hi
  exact ⟨x, y, z, u, hx, hy, hz, hu, hin w'' fun k h1 h2 => ha k (by omega) (by omega) (by omega)⟩
end

end Go.Proofs.YtmhgpdfllpgjpaaDoor
