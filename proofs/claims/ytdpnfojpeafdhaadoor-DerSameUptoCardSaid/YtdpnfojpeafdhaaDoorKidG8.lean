/- A list of trees that a call makes one by one out of blocks that were there (those below B): its slice of nodes, and where each of the trees lies. -/
import Derived.Test.YtdpnfojpeafdhaaDoorRef8S
import Derived.Maps.AppendAt
namespace Go.Proofs.YtdpnfojpeafdhaaDoor
open Go.RowKit
set_option linter.unusedVariables false

/-- Tree i: its cells in the slice v, and the blocks from lo to hi that it lies in; the slice's own block is none of them, nor is any up to q. -/
def KidG (B : Nat) (wx : World) (q : Nat) (v : Value) (cells : List Value) (i : Nat) (t : T) : Prop :=
  ∃ x y z lo hi, cells[i * 3]? = some x ∧ cells[i * 3 + 1]? = some y ∧ cells[i * 3 + 2]? = some z ∧ q < lo ∧ hi ≤ wx.heap.size ∧ (∀ kb, v.ownBlock = some kb → kb < lo ∨ hi ≤ kb) ∧
    ∀ w'', (∀ k, k < B ∨ (lo ≤ k ∧ k < hi) → w''.heap[k]? = wx.heap[k]?) → InM w'' (.agg #[x, y, z]) t
theorem KidG.agree {B : Nat} {wx wy : World} {q : Nat} {v : Value} {cells : List Value} {i : Nat} {t : T} (h : KidG B wx q v cells i t) (hB : B ≤ q) (hBs : B ≤ wx.heap.size) (hvb : ∀ kb, v.ownBlock = some kb → q < kb) (hs : wx.heap.size ≤ wy.heap.size)
    (ha : ∀ k, k < B ∨ q < k → k < wx.heap.size → some k ≠ v.ownBlock → wy.heap[k]? = wx.heap[k]?) : KidG B wy q v cells i t := by
  obtain ⟨x, y, z, lo, hi, hx, hy, hz, hlo, hhi, hkb, hin⟩ := h
  refine ⟨x, y, z, lo, hi, hx, hy, hz, hlo, by omega, hkb, fun w'' hw => hin w'' fun k hk => ?_⟩
  rw [hw k hk]
  refine ha k (by omega) (by omega) fun e => ?_
  have h1 := hkb k e.symm
  have h2 := hvb k e.symm
  omega
/-- The trees that are made so far. -/
structure KdsG (B : Nat) (wx : World) (q : Nat) (e : TypeId) (v : Value) (m : Nat) (kids : List T) (cells : List Value) : Prop where
  len : kids.length = m
  le : B ≤ q
  les : B ≤ wx.heap.size
  own : wx.ownsRow (q + 1) e 3 v m cells
  at0 : ∀ i, i < m → KidG B wx q v cells i (kids.getD i default)
section
variable {B : Nat} {wx wy : World} {q : Nat} {e : TypeId} {v : Value} {m : Nat} {kids : List T} {cells : List Value}
theorem KdsG.vb (h : KdsG B wx q e v m kids cells) : ∀ kb, v.ownBlock = some kb → q < kb := fun kb hk => (h.own.lt kb hk).1
theorem KdsG.nil (B : Nat) (wx : World) (q : Nat) (e : TypeId) (hB : B ≤ q) (hs : B ≤ wx.heap.size) : KdsG B wx q e (.slice none 0 0) 0 [] [] := ⟨rfl, hB, hs, World.ownsRow_nil _ _ _ _, fun i hi => absurd hi (by omega)⟩
theorem KdsG.later (h : KdsG B wx q e v m kids cells) (hp : Past wx wy) : KdsG B wy q e v m kids cells :=
  ⟨h.len, h.le, Nat.le_trans h.les hp.size, own_past h.own hp, fun i hi => (h.at0 i hi).agree h.le h.les h.vb hp.size fun k _ hk _ => hp.block k hk⟩
theorem KdsG.set (h : KdsG B wx q e v m kids cells) (o : Nat) (u : Value) : KdsG B (wx.setCell ⟨q, o, none⟩ u) q e v m kids cells := by
  have hb : ∀ k, k ≠ q → (wx.setCell ⟨q, o, none⟩ u).heap[k]? = wx.heap[k]? := fun k hk => by simp [World.setCell, Array.getElem?_modify, Ne.symm hk]
  have hs : (wx.setCell ⟨q, o, none⟩ u).heap.size = wx.heap.size := by simp [World.setCell]
  have hle := h.le
  refine ⟨h.len, h.le, by rw [hs]; exact h.les, ⟨h.own.1, ?_⟩, fun i hi => (h.at0 i hi).agree h.le h.les h.vb (Nat.le_of_eq hs.symm) fun k hk _ _ => hb k (by omega)⟩
  rcases h.own.2 with h1 | ⟨g, cap, cur, e1, e2, e3, e4⟩
  · exact .inl h1
  · exact .inr ⟨g, cap, cur, e1, e2, (hb g (by omega)).trans e3, e4⟩
theorem KdsG.drew (h : KdsG B wx q e v m kids cells) (n : Nat) : KdsG B (wx.drewN n) q e v m kids cells := h.later (Past.drewN (Below.refl _ _) n)
/-- One tree more: it lies in the blocks from lo to hi, and the append comes behind it. -/
theorem KdsG.push (h : KdsG B wx q e v m kids cells) {v' x y z : Value} {t : T} {lo hi : Nat} (hlo : q < lo) (hhi : hi ≤ wx.heap.size) (hkb : ∀ kb, v.ownBlock = some kb → kb < lo)
    (hin : ∀ w'', (∀ k, k < B ∨ (lo ≤ k ∧ k < hi) → w''.heap[k]? = wx.heap[k]?) → InM w'' (.agg #[x, y, z]) t)
    (hown : wy.ownsRow (q + 1) e 3 v' (m + 1) (cells ++ [x, y, z])) (hgrow : wx.grownBy wy v.ownBlock) (hat : v'.ownBlock = v.ownBlock ∨ v'.ownBlock = some wx.heap.size) : KdsG B wy q e v' (m + 1) (kids ++ [t]) (cells ++ [x, y, z]) := by
  have hcl : cells.length = m * 3 := h.own.1
  have hle := h.le
  have hles := h.les
  have hvb := h.vb
  refine ⟨by rw [List.length_append, h.len]; rfl, h.le, Nat.le_trans h.les hgrow.size, hown, fun i hi2 => ?_⟩
  by_cases him : i < m
  · obtain ⟨x', y', z', lo', hi', hx, hy, hz, hlo', hhi', hkb', hin'⟩ := h.at0 i him
    refine ⟨x', y', z', lo', hi', ?_, ?_, ?_, hlo', Nat.le_trans hhi' hgrow.size, fun kb hk => ?_, fun w'' hw => ?_⟩
    · rw [List.getElem?_append_left (by omega)]
      exact hx
    · rw [List.getElem?_append_left (by omega)]
      exact hy
    · rw [List.getElem?_append_left (by omega)]
      exact hz
    · rcases hat with ha | ha
      · exact hkb' kb (by rw [← ha]; exact hk)
      · rw [ha] at hk
        injection hk with hk
        omega
    · rw [List.getD_eq_getElem?_getD, List.getElem?_append_left (by rw [h.len]; exact him), ← List.getD_eq_getElem?_getD]
      refine hin' w'' fun k hk => ?_
      rw [hw k hk]
      refine hgrow.block k (by omega) fun e => ?_
      have h1 := hkb' k e.symm
      have h2 := hvb k e.symm
      omega
  · obtain rfl : i = m := by omega
    refine ⟨x, y, z, lo, hi, ?_, ?_, ?_, hlo, Nat.le_trans hhi hgrow.size, fun kb hk => ?_, fun w'' hw => ?_⟩
    · rw [List.getElem?_append_right (by omega), show i * 3 - cells.length = 0 by omega]
      rfl
    · rw [List.getElem?_append_right (by omega), show i * 3 + 1 - cells.length = 1 by omega]
      rfl
    · rw [List.getElem?_append_right (by omega), show i * 3 + 2 - cells.length = 2 by omega]
      rfl
    · rcases hat with ha | ha
      · exact .inl (hkb kb (by rw [← ha]; exact hk))
      · rw [ha] at hk
        injection hk with hk
        omega
    · rw [List.getD_eq_getElem?_getD, List.getElem?_append_right (by rw [h.len]; exact Nat.le_refl _), h.len, Nat.sub_self]
      show InM w'' _ t
      refine hin w'' fun k hk => ?_
      rw [hw k hk]
      refine hgrow.block k (by omega) fun e => ?_
      have h1 := hkb k e.symm
      have h2 := hvb k e.symm
      omega
/-- The node with these kids, in every world that has the blocks above q. -/
theorem KdsG.node {K : Option Addr} {d : Nat} (h : KdsG B wx q e (.slice K m d) m kids cells) {T0 : Int} (h0 : 0 ≤ T0 ∧ T0 < 256) (w'' : World) (ha : ∀ k, k < B ∨ q < k → k < wx.heap.size → w''.heap[k]? = wx.heap[k]?) {A : Option Addr} {n c : Nat} {bs : List Int} (hS : Sl w'' A n c bs) :
    InM w'' (.agg #[.int .u8 T0, .slice A n c, .slice K m d]) (.node T0 bs kids) := by
  have hcl : cells.length = m * 3 := h.own.1
  have hkd : m ≤ d ∧ d ≤ maxLen ∧ (K = none → d = 0) := by
    rcases h.own.2 with ⟨h1, h2⟩ | ⟨g', cap, cur, e1, e2, e3, e4, e5, _⟩
    · injection h1 with a1 a2 a3
      subst a1 a2 a3
      exact ⟨Nat.le_refl _, Nat.zero_le _, fun _ => rfl⟩
    · injection e1 with a1 a2 a3
      subst a1 a3
      exact ⟨e4, e5, fun e => by cases e⟩
  refine .mk (fun i => cells.getD (i * 3) undef) (fun i => cells.getD (i * 3 + 1) undef) (fun i => cells.getD (i * 3 + 2) undef) h0 hS h.len hkd.1 hkd.2.1 hkd.2.2 (fun hm => ?_) fun i hi => ?_
  · rcases h.own.2 with ⟨h1, h2⟩ | ⟨g', cap, cur, e1, e2, e3, e4, e5, _⟩
    · omega
    · injection e1 with a1 a2 a3
      subst a1 a3
      refine ⟨g', 0, rfl, fun i hi => ?_⟩
      have hblk : (Value.slice (some ⟨g', 0, none⟩) m d).ownBlock = some g' := rfl
      have hlt := (h.own.lt g' hblk).2
      have hc : ∀ j, j < cells.length → w''.cell? ⟨g', 0 + j, none⟩ = some (cells.getD j undef) := fun j hj => by
        have h1 := h.own.cells hblk j (cells.getD j undef) (by rw [List.getD_eq_getElem?_getD, List.getElem?_eq_getElem hj]; rfl)
        rw [add_none] at h1
        rw [World.cell?_of_block (w := wx) (ha g' (by omega) hlt)]
        exact h1
      exact ⟨hc (i * 3) (by omega), by rw [Nat.add_assoc]; exact hc (i * 3 + 1) (by omega), by rw [Nat.add_assoc]; exact hc (i * 3 + 2) (by omega)⟩
  · obtain ⟨x, y, z, lo, hi', hx, hy, hz, hlo, hhi, _, hin⟩ := h.at0 i hi
    simp only [List.getD_eq_getElem?_getD, hx, hy, hz, Option.getD_some]
    rw [← List.getD_eq_getElem?_getD]
    have hles := h.les
    exact hin w'' fun k hk => ha k (by omega) (by omega)
end

end Go.Proofs.YtdpnfojpeafdhaaDoor
