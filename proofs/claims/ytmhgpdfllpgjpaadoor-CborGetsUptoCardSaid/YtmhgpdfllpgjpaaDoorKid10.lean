/- A list of trees that a call makes one by one: its slice of nodes, and where each of the trees lies. -/
import Derived.Test.YtmhgpdfllpgjpaaDoorRd10J
import Derived.Maps.AppendAt
namespace Go.Proofs.YtmhgpdfllpgjpaaDoor
open Go.RowKit
set_option linter.unusedVariables false

/-- Tree i: its cells in the slice v, and the blocks from lo to hi that it lies in; the slice's own block is none of them, nor is any up to q. -/
def KidAt (wx : World) (q : Nat) (v : Value) (cells : List Value) (i : Nat) (t : T) : Prop :=
  ∃ x y z u lo hi, cells[i * 4]? = some x ∧ cells[i * 4 + 1]? = some y ∧ cells[i * 4 + 2]? = some z ∧ cells[i * 4 + 3]? = some u ∧ q < lo ∧ hi ≤ wx.heap.size ∧ (∀ kb, v.ownBlock = some kb → kb < lo ∨ hi ≤ kb) ∧
    ∀ w'', (∀ k, lo ≤ k → k < hi → w''.heap[k]? = wx.heap[k]?) → InM w'' (.agg #[x, y, z, u]) t
theorem KidAt.agree {wx wy : World} {q : Nat} {v : Value} {cells : List Value} {i : Nat} {t : T} (h : KidAt wx q v cells i t) (hs : wx.heap.size ≤ wy.heap.size)
    (ha : ∀ k, q < k → k < wx.heap.size → some k ≠ v.ownBlock → wy.heap[k]? = wx.heap[k]?) : KidAt wy q v cells i t := by
  obtain ⟨x, y, z, u, lo, hi, hx, hy, hz, hu, hlo, hhi, hkb, hin⟩ := h
  refine ⟨x, y, z, u, lo, hi, hx, hy, hz, hu, hlo, by omega, hkb, fun w'' hw => hin w'' fun k h1 h2 => ?_⟩
  rw [hw k h1 h2]
  refine ha k (by omega) (by omega) fun e => ?_
  have := hkb k e.symm
  omega
/-- The trees that are made so far. -/
structure Kds (wx : World) (q : Nat) (e : TypeId) (v : Value) (m : Nat) (kids : List T) (cells : List Value) : Prop where
  len : kids.length = m
  own : wx.ownsRow (q + 1) e 4 v m cells
  at0 : ∀ i, i < m → KidAt wx q v cells i (kids.getD i default)
section
variable {wx wy : World} {q : Nat} {e : TypeId} {v : Value} {m : Nat} {kids : List T} {cells : List Value}
theorem Kds.nil (wx : World) (q : Nat) (e : TypeId) : Kds wx q e (.slice none 0 0) 0 [] [] := ⟨rfl, World.ownsRow_nil _ _ _ _, fun i hi => absurd hi (by omega)⟩
theorem Kds.later (h : Kds wx q e v m kids cells) (hp : Past wx wy) : Kds wy q e v m kids cells :=
  ⟨h.len, own_past h.own hp, fun i hi => (h.at0 i hi).agree hp.size fun k _ hk _ => hp.block k hk⟩
theorem Kds.set (h : Kds wx q e v m kids cells) (o : Nat) (u : Value) : Kds (wx.setCell ⟨q, o, none⟩ u) q e v m kids cells := by
  have hb : ∀ k, k ≠ q → (wx.setCell ⟨q, o, none⟩ u).heap[k]? = wx.heap[k]? := fun k hk => by simp [World.setCell, Array.getElem?_modify, Ne.symm hk]
  have hs : (wx.setCell ⟨q, o, none⟩ u).heap.size = wx.heap.size := by simp [World.setCell]
  refine ⟨h.len, ⟨h.own.1, ?_⟩, fun i hi => (h.at0 i hi).agree (Nat.le_of_eq hs.symm) fun k hk _ _ => hb k (by omega)⟩
  rcases h.own.2 with h1 | ⟨g, cap, cur, e1, e2, e3, e4⟩
  · exact .inl h1
  · exact .inr ⟨g, cap, cur, e1, e2, (hb g (by omega)).trans e3, e4⟩
theorem Kds.setRow (h : Kds wx q e v m kids cells) {g : Nat} (hg : g < q) (cs : Array Value) : Kds (wx.setRow g cs) q e v m kids cells := by
  have hs : (wx.setRow g cs).heap.size = wx.heap.size := by simp [World.setRow]
  refine ⟨h.len, ⟨h.own.1, ?_⟩, fun i hi => (h.at0 i hi).agree (Nat.le_of_eq hs.symm) fun k hk _ _ => setRow_other wx g k cs (by omega)⟩
  rcases h.own.2 with h1 | ⟨g', cap, cur, e1, e2, e3, e4⟩
  · exact .inl h1
  · exact .inr ⟨g', cap, cur, e1, e2, (setRow_other wx g g' cs (by omega)).trans e3, e4⟩
/-- One tree more: it lies in the blocks from lo to hi, and the append comes behind it. -/
theorem Kds.push (h : Kds wx q e v m kids cells) {v' x y z u : Value} {t : T} {lo hi : Nat} (hlo : q < lo) (hhi : hi ≤ wx.heap.size) (hkb : ∀ kb, v.ownBlock = some kb → kb < lo)
    (hin : ∀ w'', (∀ k, lo ≤ k → k < hi → w''.heap[k]? = wx.heap[k]?) → InM w'' (.agg #[x, y, z, u]) t)
    (hown : wy.ownsRow (q + 1) e 4 v' (m + 1) (cells ++ [x, y, z, u])) (hgrow : wx.grownBy wy v.ownBlock) (hat : v'.ownBlock = v.ownBlock ∨ v'.ownBlock = some wx.heap.size) : Kds wy q e v' (m + 1) (kids ++ [t]) (cells ++ [x, y, z, u]) := by
  have hcl : cells.length = m * 4 := h.own.1
  refine ⟨by rw [List.length_append, h.len]; rfl, hown, fun i hi2 => ?_⟩
  by_cases him : i < m
  · obtain ⟨x', y', z', u', lo', hi', hx, hy, hz, hu, hlo', hhi', hkb', hin'⟩ := h.at0 i him
    refine ⟨x', y', z', u', lo', hi', ?_, ?_, ?_, ?_, hlo', Nat.le_trans hhi' hgrow.size, fun kb hk => ?_, fun w'' hw => ?_⟩
    · rw [List.getElem?_append_left (by omega)]
      exact hx
    · rw [List.getElem?_append_left (by omega)]
      exact hy
    · rw [List.getElem?_append_left (by omega)]
      exact hz
    · rw [List.getElem?_append_left (by omega)]
      exact hu
    · rcases hat with ha | ha
      · exact hkb' kb (by rw [← ha]; exact hk)
      · rw [ha] at hk
        injection hk with hk
        omega
    · rw [List.getD_eq_getElem?_getD, List.getElem?_append_left (by rw [h.len]; exact him), ← List.getD_eq_getElem?_getD]
      refine hin' w'' fun k h1 h2 => ?_
      rw [hw k h1 h2]
      refine hgrow.block k (by omega) fun e => ?_
      have := hkb' k e.symm
      omega
  · obtain rfl : i = m := by omega
    refine ⟨x, y, z, u, lo, hi, ?_, ?_, ?_, ?_, hlo, Nat.le_trans hhi hgrow.size, fun kb hk => ?_, fun w'' hw => ?_⟩
    · rw [List.getElem?_append_right (by omega), show i * 4 - cells.length = 0 by omega]
      rfl
    · rw [List.getElem?_append_right (by omega), show i * 4 + 1 - cells.length = 1 by omega]
      rfl
    · rw [List.getElem?_append_right (by omega), show i * 4 + 2 - cells.length = 2 by omega]
      rfl
    · rw [List.getElem?_append_right (by omega), show i * 4 + 3 - cells.length = 3 by omega]
      rfl
    · rcases hat with ha | ha
      · exact .inl (hkb kb (by rw [← ha]; exact hk))
      · rw [ha] at hk
        injection hk with hk
        omega
    · rw [List.getD_eq_getElem?_getD, List.getElem?_append_right (by rw [h.len]; exact Nat.le_refl _), h.len, Nat.sub_self]
      show InM w'' _ t
      refine hin w'' fun k h1 h2 => ?_
      rw [hw k h1 h2]
      refine hgrow.block k (by omega) fun e => ?_
      have := hkb k e.symm
      omega
/-- The node with these kids, in every world that has the blocks above q. -/
theorem Kds.node {K : Option Addr} {d : Nat} (h : Kds wx q e (.slice K m d) m kids cells) {T0 : Int} (h0 : -9223372036854775808 ≤ T0 ∧ T0 < 9223372036854775808) (w'' : World) (ha : ∀ k, q < k → k < wx.heap.size → w''.heap[k]? = wx.heap[k]?) :
    InM w'' (.agg #[.int .i64 T0, .int .u64 0, .slice none 0 0, .slice K m d]) (.node T0 0 [] kids) := by
  have hcl : cells.length = m * 4 := h.own.1
  have hkd : m ≤ d ∧ d ≤ maxLen ∧ (K = none → d = 0) := by
    rcases h.own.2 with ⟨h1, h2⟩ | ⟨g', cap, cur, e1, e2, e3, e4, e5, _⟩
    · injection h1 with a1 a2 a3
      subst a1 a2 a3
      exact ⟨Nat.le_refl _, Nat.zero_le _, fun _ => rfl⟩
    · injection e1 with a1 a2 a3
      subst a1 a3
      exact ⟨e4, e5, fun e => by cases e⟩
  refine .mk (fun i => cells.getD (i * 4) undef) (fun i => cells.getD (i * 4 + 1) undef) (fun i => cells.getD (i * 4 + 2) undef) (fun i => cells.getD (i * 4 + 3) undef) h0 (by omega) (Sl.nil _) h.len hkd.1 hkd.2.1 hkd.2.2 (fun hm => ?_) fun i hi => ?_
  · rcases h.own.2 with ⟨h1, h2⟩ | ⟨g', cap, cur, e1, e2, e3, e4, e5, _⟩
    · omega
    · injection e1 with a1 a2 a3
      subst a1 a3
      refine ⟨g', 0, rfl, fun i hi => ?_⟩
      have hblk : (Value.slice (some ⟨g', 0, none⟩) m d).ownBlock = some g' := rfl
      have hlt := (h.own.lt g' hblk).2
      have hc : ∀ j, j < cells.length → w''.cell? ⟨g', 0 + j, none⟩ = some (cells.getD j undef) := fun j hj => by
        have h1 := h.own.cells hblk j (cells.getD j undef) (by rw [List.getD_eq_getElem?_getD, List.getElem?_eq_getElem hj]; rfl)
        rw [add_none] at h1
        rw [World.cell?_of_block (w := wx) (ha g' (by omega) hlt)]
        exact h1
      exact ⟨hc (i * 4) (by omega), by rw [Nat.add_assoc]; exact hc (i * 4 + 1) (by omega), by rw [Nat.add_assoc]; exact hc (i * 4 + 2) (by omega), by rw [Nat.add_assoc]; exact hc (i * 4 + 3) (by omega)⟩
  · obtain ⟨x, y, z, u, lo, hi', hx, hy, hz, hu, hlo, hhi, _, hin⟩ := h.at0 i hi
    simp only [List.getD_eq_getElem?_getD, hx, hy, hz, hu, Option.getD_some]
    rw [← List.getD_eq_getElem?_getD]
    exact hin w'' fun k h1 h2 => ha k (by omega) (by omega)
end

end Go.Proofs.YtmhgpdfllpgjpaaDoor
