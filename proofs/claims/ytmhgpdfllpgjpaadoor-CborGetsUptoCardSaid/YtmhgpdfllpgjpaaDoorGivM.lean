/- A list of trees that a call makes one by one out of blocks that were there (those below B): its slice of nodes, and where each of the trees lies. The law's given and back: an item of the reference as an item of the program, and the other way round. The law's given and back: an item of the reference as an item of the program, and the other way round. -/
import Derived.Test.YtmhgpdfllpgjpaaDoorRd10J
import Derived.Maps.AppendAt
import Derived.Deep.AppendLies
import Derived.Deep.RegionLaw
namespace Go.Proofs.YtmhgpdfllpgjpaaDoor
open Go.RowKit
set_option linter.unusedVariables false

/-- Tree i: its cells in the slice v, and the blocks from lo to hi that it lies in; the slice's own block is none of them, nor is any up to q. -/
def KidG (B : Nat) (wx : World) (q : Nat) (v : Value) (cells : List Value) (i : Nat) (t : T) : Prop :=
  ∃ x y z u lo hi, cells[i * 4]? = some x ∧ cells[i * 4 + 1]? = some y ∧ cells[i * 4 + 2]? = some z ∧ cells[i * 4 + 3]? = some u ∧ q < lo ∧ hi ≤ wx.heap.size ∧ (∀ kb, v.ownBlock = some kb → kb < lo ∨ hi ≤ kb) ∧
    ∀ w'', (∀ k, k < B ∨ (lo ≤ k ∧ k < hi) → w''.heap[k]? = wx.heap[k]?) → InM w'' (.agg #[x, y, z, u]) t
theorem KidG.agree {B : Nat} {wx wy : World} {q : Nat} {v : Value} {cells : List Value} {i : Nat} {t : T} (h : KidG B wx q v cells i t) (hB : B ≤ q) (hBs : B ≤ wx.heap.size) (hvb : ∀ kb, v.ownBlock = some kb → q < kb) (hs : wx.heap.size ≤ wy.heap.size)
    (ha : ∀ k, k < B ∨ q < k → k < wx.heap.size → some k ≠ v.ownBlock → wy.heap[k]? = wx.heap[k]?) : KidG B wy q v cells i t := by
  obtain ⟨x, y, z, u, lo, hi, hx, hy, hz, hu, hlo, hhi, hkb, hin⟩ := h
  refine ⟨x, y, z, u, lo, hi, hx, hy, hz, hu, hlo, by omega, hkb, fun w'' hw => hin w'' fun k hk => ?_⟩
  rw [hw k hk]
  refine ha k (by omega) (by omega) fun e => ?_
  have h1 := hkb k e.symm
  have h2 := hvb k e.symm
  omega
/-- The trees that are made so far. -/
structure KdsG (B : Nat) (wx : World) (q : Nat) (e : TypeId) (v : Value) (m : Nat) (kids : List T) (cells : List Value) : Prop where
  len : kids.length = m
  le : B ≤ q
  les : B ≤ wx.heap.size
  own : wx.ownsRow (q + 1) e 4 v m cells
  at0 : ∀ i, i < m → KidG B wx q v cells i (kids.getD i default)
section
variable {B : Nat} {wx wy : World} {q : Nat} {e : TypeId} {v : Value} {m : Nat} {kids : List T} {cells : List Value}
theorem KdsG.vb (h : KdsG B wx q e v m kids cells) : ∀ kb, v.ownBlock = some kb → q < kb := fun kb hk => (h.own.lt kb hk).1
theorem KdsG.nil (B : Nat) (wx : World) (q : Nat) (e : TypeId) (hB : B ≤ q) (hs : B ≤ wx.heap.size) : KdsG B wx q e (.slice none 0 0) 0 [] [] := ⟨rfl, hB, hs, World.ownsRow_nil _ _ _ _, fun i hi => absurd hi (by omega)⟩
theorem KdsG.later (h : KdsG B wx q e v m kids cells) (hp : Past wx wy) : KdsG B wy q e v m kids cells :=
  ⟨h.len, h.le, Nat.le_trans h.les hp.size, own_past h.own hp, fun i hi => (h.at0 i hi).agree h.le h.les h.vb hp.size fun k _ hk _ => hp.block k hk⟩
theorem KdsG.set (h : KdsG B wx q e v m kids cells) (o : Nat) (u : Value) : KdsG B (wx.setCell ⟨q, o, none⟩ u) q e v m kids cells := by
  have hb : ∀ k, k ≠ q → (wx.setCell ⟨q, o, none⟩ u).heap[k]? = wx.heap[k]? := fun k hk => by simp [World.setCell, Array.getElem?_modify, Ne.symm hk]
  have hs : (wx.setCell ⟨q, o, none⟩ u).heap.size = wx.heap.size := by simp [World.setCell]
  have hle := h.le
  refine ⟨h.len, h.le, by rw [hs]; exact h.les, ⟨h.own.1, ?_⟩, fun i hi => (h.at0 i hi).agree h.le h.les h.vb (Nat.le_of_eq hs.symm) fun k hk _ _ => hb k (by omega)⟩
  rcases h.own.2 with h1 | ⟨g, cap, cur, e1, e2, e3, e4⟩
  · exact .inl h1
  · exact .inr ⟨g, cap, cur, e1, e2, (hb g (by omega)).trans e3, e4⟩
theorem KdsG.drew (h : KdsG B wx q e v m kids cells) (n : Nat) : KdsG B (wx.drewN n) q e v m kids cells := h.later (Past.drewN (Below.refl _ _) n)
/-- One tree more: it lies in the blocks from lo to hi, and the append comes behind it. -/
theorem KdsG.push (h : KdsG B wx q e v m kids cells) {v' x y z u : Value} {t : T} {lo hi : Nat} (hlo : q < lo) (hhi : hi ≤ wx.heap.size) (hkb : ∀ kb, v.ownBlock = some kb → kb < lo)
    (hin : ∀ w'', (∀ k, k < B ∨ (lo ≤ k ∧ k < hi) → w''.heap[k]? = wx.heap[k]?) → InM w'' (.agg #[x, y, z, u]) t)
    (hown : wy.ownsRow (q + 1) e 4 v' (m + 1) (cells ++ [x, y, z, u])) (hgrow : wx.grownBy wy v.ownBlock) (hat : v'.ownBlock = v.ownBlock ∨ v'.ownBlock = some wx.heap.size) : KdsG B wy q e v' (m + 1) (kids ++ [t]) (cells ++ [x, y, z, u]) := by
  have hcl : cells.length = m * 4 := h.own.1
  have hle := h.le
  have hles := h.les
  have hvb := h.vb
  refine ⟨by rw [List.length_append, h.len]; rfl, h.le, Nat.le_trans h.les hgrow.size, hown, fun i hi2 => ?_⟩
  by_cases him : i < m
  · obtain ⟨x', y', z', u', lo', hi', hx, hy, hz, hu, hlo', hhi', hkb', hin'⟩ := h.at0 i him
    refine ⟨x', y', z', u', lo', hi', ?_, ?_, ?_, ?_, hlo', Nat.le_trans hhi' hgrow.size, fun kb hk => ?_, fun w'' hw => ?_⟩
    · rw [List.getElem?_append_left (by omega)]
      exact hx
    · rw [List.getElem?_append_left (by omega)]
      exact hy
    · rw [List.getElem?_append_left (by omega)]
      exact hz
    · rw [List.getElem?_append_left (by omega)]
      exact hu
    · rcases hat with ha | ha
      · exact hkb' kb (by rw [← ha]; exact hk)
      · rw [ha] at hk
        injection hk with hk
        omega
    · rw [List.getD_eq_getElem?_getD, List.getElem?_append_left (by rw [h.len]; exact him), ← List.getD_eq_getElem?_getD]
      refine hin' w'' fun k hk => ?_
      rw [hw k hk]
      refine hgrow.block k (by omega) fun e => ?_
      have h1 := hkb' k e.symm
      have h2 := hvb k e.symm
      omega
  · obtain rfl : i = m := by omega
    refine ⟨x, y, z, u, lo, hi, ?_, ?_, ?_, ?_, hlo, Nat.le_trans hhi hgrow.size, fun kb hk => ?_, fun w'' hw => ?_⟩
    · rw [List.getElem?_append_right (by omega), show i * 4 - cells.length = 0 by omega]
      rfl
    · rw [List.getElem?_append_right (by omega), show i * 4 + 1 - cells.length = 1 by omega]
      rfl
    · rw [List.getElem?_append_right (by omega), show i * 4 + 2 - cells.length = 2 by omega]
      rfl
    · rw [List.getElem?_append_right (by omega), show i * 4 + 3 - cells.length = 3 by omega]
      rfl
    · rcases hat with ha | ha
      · exact .inl (hkb kb (by rw [← ha]; exact hk))
      · rw [ha] at hk
        injection hk with hk
        omega
    · rw [List.getD_eq_getElem?_getD, List.getElem?_append_right (by rw [h.len]; exact Nat.le_refl _), h.len, Nat.sub_self]
      show InM w'' _ t
      refine hin w'' fun k hk => ?_
      rw [hw k hk]
      refine hgrow.block k (by omega) fun e => ?_
      have h1 := hkb k e.symm
      have h2 := hvb k e.symm
      omega
/-- The node with these kids, in every world that has the blocks above q. -/
theorem KdsG.node {K : Option Addr} {d : Nat} (h : KdsG B wx q e (.slice K m d) m kids cells) {kd nm : Int} (h0 : -9223372036854775808 ≤ kd ∧ kd < 9223372036854775808) (hu0 : 0 ≤ nm ∧ nm < 18446744073709551616) (w'' : World) (ha : ∀ k, k < B ∨ q < k → k < wx.heap.size → w''.heap[k]? = wx.heap[k]?) {A : Option Addr} {n c : Nat} {bs : List Int} (hS : Sl w'' A n c bs) :
    InM w'' (.agg #[.int .i64 kd, .int .u64 nm, .slice A n c, .slice K m d]) (.node kd nm bs kids) := by
  have hcl : cells.length = m * 4 := h.own.1
  have hkd : m ≤ d ∧ d ≤ maxLen ∧ (K = none → d = 0) := by
    rcases h.own.2 with ⟨h1, h2⟩ | ⟨g', cap, cur, e1, e2, e3, e4, e5, _⟩
    · injection h1 with a1 a2 a3
      subst a1 a2 a3
      exact ⟨Nat.le_refl _, Nat.zero_le _, fun _ => rfl⟩
    · injection e1 with a1 a2 a3
      subst a1 a3
      exact ⟨e4, e5, fun e => by cases e⟩
  refine .mk (fun i => cells.getD (i * 4) undef) (fun i => cells.getD (i * 4 + 1) undef) (fun i => cells.getD (i * 4 + 2) undef) (fun i => cells.getD (i * 4 + 3) undef) h0 hu0 hS h.len hkd.1 hkd.2.1 hkd.2.2 (fun hm => ?_) fun i hi => ?_
  · rcases h.own.2 with ⟨h1, h2⟩ | ⟨g', cap, cur, e1, e2, e3, e4, e5, _⟩
    · omega
    · injection e1 with a1 a2 a3
      subst a1 a3
      refine ⟨g', 0, rfl, fun i hi => ?_⟩
      have hblk : (Value.slice (some ⟨g', 0, none⟩) m d).ownBlock = some g' := rfl
      have hlt := (h.own.lt g' hblk).2
      have hc : ∀ j, j < cells.length → w''.cell? ⟨g', 0 + j, none⟩ = some (cells.getD j undef) := fun j hj => by
        have h1 := h.own.cells hblk j (cells.getD j undef) (by rw [List.getD_eq_getElem?_getD, List.getElem?_eq_getElem hj]; rfl)
        rw [add_none] at h1
        rw [World.cell?_of_block (w := wx) (ha g' (by omega) hlt)]
        exact h1
      exact ⟨hc (i * 4) (by omega), by rw [Nat.add_assoc]; exact hc (i * 4 + 1) (by omega), by rw [Nat.add_assoc]; exact hc (i * 4 + 2) (by omega), by rw [Nat.add_assoc]; exact hc (i * 4 + 3) (by omega)⟩
  · obtain ⟨x, y, z, u, lo, hi', hx, hy, hz, hu, hlo, hhi, _, hin⟩ := h.at0 i hi
    simp only [List.getD_eq_getElem?_getD, hx, hy, hz, hu, Option.getD_some]
    rw [← List.getD_eq_getElem?_getD]
    have hles := h.les
    exact hin w'' fun k hk => ha k (by omega) (by omega)
end

end Go.Proofs.YtmhgpdfllpgjpaaDoor

namespace Go.Proofs.YtmhgpdfllpgjpaaDoor
open Go.RowKit
set_option linter.unusedVariables false

theorem infoD : (Tryd.prog.info? 27).map (fun i => (i.zero, i.size, i.bytes)) = some (some (.agg #[.int .i64 0, .int .u64 0, .slice none 0 0, .slice none 0 0]), 4, 64) := by kernel_rfl
theorem nodeD (cs : Array Value) (h : cs.size = 4) : (Tryd.prog.info? 27).map (·.size) = some cs.size := by rw [h]; kernel_rfl

/-- Bytes lie in every world that has the blocks that they lie in. -/
theorem Sl.later8 {w w' : World} {A : Option Addr} {n c : Nat} {xs : List Int} (h : Sl w A n c xs) (ha : ∀ b, b < w.heap.size → w'.heap[b]? = w.heap[b]?) : Sl w' A n c xs :=
  h.keep fun p x hp => by
    rw [World.cell?_of_block (w := w) (ha p.block (cell_lt hp))]
    exact hp
/-- What given does: the node lies in blocks of its own, its bytes in those below B. -/
def GivP (B : Nat) (t : T) (w : World) (e : Ending) (w' : World) : Prop :=
  ∃ x y z u, e = .returned (.agg #[x, y, z, u]) ∧ Past w w' ∧ ∀ w'', (∀ k, k < B ∨ (w.heap.size ≤ k ∧ k < w'.heap.size) → w''.heap[k]? = w'.heap[k]?) → InM w'' (.agg #[x, y, z, u]) t
/-- What the loop keeps. -/
structure Gw (B : Nat) (w wx : World) (g : Nat) (kd nm : Int) (A : Option Addr) (n c : Nat) (K : Option Addr) (m d : Nat) (K' : Option Addr) (i d' : Nat) (ks : List T) (cells : List Value) : Prop where
  past : Past w wx
  rn : Row wx g 34 #[.int .i64 kd, .int .u64 nm, .slice A n c, .slice K m d]
  rr : Row wx (g + 1) 27 #[.int .i64 0, .int .u64 0, .slice none 0 0, .slice none 0 0]
  ro : Row wx (g + 1 + 1) 27 #[.int .i64 kd, .int .u64 nm, .slice A n c, .slice K' i d']
  kds : KdsG B wx (g + 1 + 1) 27 (.slice K' i d') i ks cells
theorem Gw.later {B : Nat} {w wx wy : World} {g : Nat} {kd nm : Int} {A : Option Addr} {n c : Nat} {K : Option Addr} {m d : Nat} {K' : Option Addr} {i d' : Nat} {ks : List T} {cells : List Value} (h : Gw B w wx g kd nm A n c K m d K' i d' ks cells) (hp : Past wx wy) : Gw B w wy g kd nm A n c K m d K' i d' ks cells :=
  ⟨h.past.trans' hp, h.rn.past hp, h.rr.past hp, h.ro.past hp, h.kds.later hp⟩
theorem Gw.push {B : Nat} {w wr w2 w3 : World} {g : Nat} {kd nm : Int} {A : Option Addr} {n c : Nat} {K : Option Addr} {m d : Nat} {K' : Option Addr} {i d' : Nat} {ks : List T} {cells : List Value} {x y z u : Value} {t : T} {e : TypeId} {g' cap : Nat}
    (h : Gw B w wr g kd nm A n c K m d K' i d' ks cells) (hg : w.heap.size ≤ g) (hp : Past wr w2)
    (hlv : ∀ w'', (∀ k, k < B ∨ (wr.heap.size ≤ k ∧ k < w2.heap.size) → w''.heap[k]? = w2.heap[k]?) → InM w'' (.agg #[x, y, z, u]) t)
    (hown : w3.ownsRow (g + 1 + 1 + 1) 27 4 (.slice (some ⟨g', 0, none⟩) (i + 1) cap) (i + 1) (cells ++ [x, y, z, u])) (hgrow : (w2.alloc (.cells #[x, y, z, u] e)).grownBy w3 (Value.slice K' i d').ownBlock) (hor : (Value.slice K' i d').ownBlock = some g' ∨ g' = (w2.alloc (.cells #[x, y, z, u] e)).heap.size) :
    Gw B w (w3.setCell ⟨g + 1 + 1, 3, none⟩ (.slice (some ⟨g', 0, none⟩) (i + 1) cap)) g kd nm A n c K m d (some ⟨g', 0, none⟩) (i + 1) cap (ks ++ [t]) (cells ++ [x, y, z, u]) := by
  have hpa : Past wr (w2.alloc (.cells #[x, y, z, u] e)) := hp.trans' (past_alloc8 _ _)
  have h2 := h.later hpa
  have hvb := h.kds.vb
  have hlq := h.ro.lt
  have hle := h.kds.le
  have hsz : (w2.alloc (.cells #[x, y, z, u] e)).heap.size = w2.heap.size + 1 := by simp
  have hks := h2.kds.push (lo := wr.heap.size) (hi := w2.heap.size) (t := t) hlq (by omega) (fun kb hk => (h.kds.own.lt kb hk).2) (fun w'' hw => hlv w'' fun k hk => by
    have h1 := hw k hk
    rw [h1]
    refine Below.heap_alloc w2 _ k ?_
    have := hp.size
    have := h.kds.les
    omega) hown hgrow (hor.elim (fun h => .inl h.symm) (fun h => .inr (by rw [← h]; rfl)))
  have hne : ∀ k, k ≤ g + 1 + 1 → some k ≠ (Value.slice K' i d').ownBlock := fun k hk he => by
    have := hvb k he.symm
    omega
  refine ⟨?_, row_setOther (h2.rn.grown hgrow (hne g (by omega))) (by omega) _ _, row_setOther (h2.rr.grown hgrow (hne (g + 1) (by omega))) (by omega) _ _, ?_, hks.set _ _⟩
  · refine Below.setCell ?_ (by show _ ≤ g + 1 + 1; omega) _
    exact h2.past.grown hgrow h2.past.size fun kb hk => by
      have := hvb kb hk
      omega
  · have := Row.set (h2.ro.grown hgrow (hne (g + 1 + 1) (by omega))) 3 (.slice (some ⟨g', 0, none⟩) (i + 1) cap)
    exact this

set_option maxHeartbeats 4000000 in
set_option maxRecDepth 100000 in
theorem given_any {w0 : World} {v : Value} {t : T} (h : InM w0 v t) : ∀ w, Past w0 w → cnt t ≤ 2000000 →
    Calls Tryd.prog 17 #[v] w (GivP w0.heap.size t w) := by
  induction h with
  | mk v0 v1 v2 v3 ht hu hb hl hm hd h0 hc hk ih =>
    rename_i kd nm A n c bytes K m d kids
    intro w hw hn
    have hmb : m ≤ 2000000 := by
      have := len_cntL kids (1 + bytes.length)
      have : cntL kids (1 + bytes.length) ≤ 2000000 := hn
      omega
    have HN : Hid (cntL kids (1 + bytes.length) ≤ 2000000) := hn
    have HIH := Lib.hid ih
    have HC := Lib.hid hc
    have HL := Lib.hid hl
    have HB := Lib.hid hb
    have HT := Lib.hid ht
    have HU := Lib.hid hu
    have HW := Lib.hid hw
    obtain ⟨iN, hiN, hzN, hsN, hbN⟩ := info_parts infoD
    have H0 : Hid (Gw w0.heap.size w (((w.alloc (.cells #[.int .i64 kd, .int .u64 nm, .slice A n c, .slice K m d] 34)).alloc (.cells #[.int .i64 0, .int .u64 0, .slice none 0 0, .slice none 0 0] 27)).alloc (.cells #[.int .i64 kd, .int .u64 nm, .slice A n c, .slice none 0 0] 27)) w.heap.size kd nm A n c K m d none 0 0 (kids.take 0) []) := by
      have hs := hw.size
      refine Lib.hid ⟨((past_alloc8 _ _).trans' (past_alloc8 _ _)).trans' (past_alloc8 _ _), ((Row.new w _ _).alloc _).alloc _, ?_, ?_, KdsG.nil _ _ _ _ (by omega) (by simp; omega)⟩
      · have := (Row.new (w.alloc (.cells #[.int .i64 kd, .int .u64 nm, .slice A n c, .slice K m d] 34)) 27 #[.int .i64 0, .int .u64 0, .slice none 0 0, .slice none 0 0]).alloc (.cells #[.int .i64 kd, .int .u64 nm, .slice A n c, .slice none 0 0] 27)
        simpa using this
      · have := Row.new ((w.alloc (.cells #[.int .i64 kd, .int .u64 nm, .slice A n c, .slice K m d] 34)).alloc (.cells #[.int .i64 0, .int .u64 0, .slice none 0 0, .slice none 0 0] 27)) 27 #[.int .i64 kd, .int .u64 nm, .slice A n c, .slice none 0 0]
        simpa using this
    clear hn ih hc hl hk hb ht hu hw
    go_enter Tryd.func17, Tryd.ntmps17
    go_wp2_with fail
    generalize ((w.alloc (.cells #[.int .i64 kd, .int .u64 nm, .slice A n c, .slice K m d] 34)).alloc (.cells #[.int .i64 0, .int .u64 0, .slice none 0 0, .slice none 0 0] 27)).alloc (.cells #[.int .i64 kd, .int .u64 nm, .slice A n c, .slice none 0 0] 27) = w1 at *
    obtain ⟨g, hg⟩ : ∃ g, w.heap.size = g := ⟨_, rfl⟩
    have hge : w.heap.size ≤ g := by omega
    rw [hg] at H0 ⊢
    clear hg
    go_loopg [4] m (fun q s4 wx => ∃ i : Nat, i ≤ m ∧ q = m - i ∧ s4 = .int .i64 (i : Int) ∧ Hid (∃ K' d' cells, Gw w0.heap.size w wx g kd nm A n c K m d K' i d' (kids.take i) cells))
    case atStart => exact ⟨0, Nat.zero_le _, rfl, rfl, Lib.hid ⟨_, _, _, H0.out⟩⟩
    case round =>
      clear H0
      obtain ⟨i, hi, hgk, rfl, HQ0⟩ := hrel
      obtain ⟨K', d', cells, hq⟩ := HQ0.out
      have HQ := Lib.hid hq
      have HGK := Lib.hid hgk
      clear hgk HQ0 hq
      have f2 : wr.cell? ⟨g, 3, none⟩ = some (.slice K m d) := HQ.out.rn.cell 3
      by_cases hlt : i < m
      · obtain ⟨b, o, rfl, hcell⟩ := HC.out (by omega)
        obtain ⟨q0, q1, q2, q3⟩ := hcell i hlt
        have hpp := HW.out.trans' HQ.out.past
        have f2d : wr.drew.cell? ⟨g, 3, none⟩ = some (.slice (some ⟨b, o, none⟩) m d) := f2
        have o2d : wr.drew.cell? ⟨g + 1 + 1, 3, none⟩ = some (.slice K' i d') := HQ.out.ro.cell 3
        have c0 : wr.drew.cell? ⟨b, o + i * 4, none⟩ = some (v0 i) := by show wr.cell? _ = _; rw [Below.cell hpp (cell_lt q0)]; exact q0
        have c1 : wr.drew.cell? ⟨b, o + i * 4 + 1, none⟩ = some (v1 i) := by show wr.cell? _ = _; rw [Below.cell hpp (cell_lt q1)]; exact q1
        have c2 : wr.drew.cell? ⟨b, o + i * 4 + 2, none⟩ = some (v2 i) := by show wr.cell? _ = _; rw [Below.cell hpp (cell_lt q2)]; exact q2
        have c3 : wr.drew.cell? ⟨b, o + i * 4 + 3, none⟩ = some (v3 i) := by show wr.cell? _ = _; rw [Below.cell hpp (cell_lt q3)]; exact q3
        have hck := cnt_kid kids (1 + bytes.length) i (by rw [HL.out]; exact hlt)
        have HK := Lib.hid (HIH.out i hlt wr.drew (hpp.drewN 1) (by have := HN.out; omega))
        have HS : Hid (kids.take (i + 1) = kids.take i ++ [kids.getD i default]) := Lib.hid (take_next kids i (by rw [HL.out]; exact hlt))
        clear hcell q0 q1 q2 q3 hpp hck
        have hi0 : (0 : Int) ≤ (i : Int) := by omega
        have him : (i : Int) < (m : Int) := by omega
        have HQD := Lib.hid (HQ.out.later (Past.drewN (Below.refl _ wr) 1))
        go_wp2_with fail
        go_region_law (first
          | (go_simp; go_at_call 17; (with_reducible refine HK.out.mono ?_); rintro e w2 ⟨x, y, z, u, rfl, hp, hlv⟩
             obtain ⟨tg3, nm3, A3, n3, e3, K3, m3, d3, rfl, rfl, rfl, rfl⟩ := (hlv w2 fun _ _ => rfl).shape
             have HP2 := Lib.hid hp
             have HLV := Lib.hid hlv
             have HQ2 := Lib.hid (HQD.out.later hp)
             have HQ3 := Lib.hid (HQ2.out.later (past_alloc8 w2 (.cells #[.int .i64 tg3, .int .u64 nm3, .slice A3 n3 e3, .slice K3 m3 d3] 27)))
             have o2e : w2.cell? ⟨g + 1 + 1, 3, none⟩ = some (.slice K' i d') := HQ2.out.ro.cell 3
             have o2f : (w2.alloc (.cells #[.int .i64 tg3, .int .u64 nm3, .slice A3 n3 e3, .slice K3 m3 d3] 27)).cell? ⟨g + 1 + 1, 3, none⟩ = some (.slice K' i d') := HQ3.out.ro.cell 3
             clear hp hlv)
          | (refine step_append_lies _ rfl _ _ 25 rfl (g + 1 + 1 + 1) 27 iN _ 4 64 Tryd.underlying25 hiN hzN hsN hbN rfl (by decide) (.slice K' i d') i cells rfl HQ3.out.kds.own ⟨w2.heap.size, 0, none⟩ 1 1 [.int .i64 tg3, .int .u64 nm3, .slice A3 n3 e3, .slice K3 m3 d3] rfl rfl (World.news_of_block (heap_alloc_new w2 (.cells #[.int .i64 tg3, .int .u64 nm3, .slice A3 n3 e3, .slice K3 m3 d3] 27))) (by simp [Value.oneCell']) (by decide) (by unfold maxLen; omega) (by omega) (by have := HQ3.out.ro.lt; omega) _ rfl ?_
             intro g' cap w3 hown hgrow hor hlt3
             have hsa : w3.cell? ⟨g + 1 + 1, 3, none⟩ = some (.slice K' i d') := by
               have hvb := HQ3.out.kds.vb
               rw [World.grownBy.cell_far hgrow _ HQ3.out.ro.lt fun he => by have := hvb _ he.symm; simp at this]
               exact o2f
             have hsf : w3.frozen? ⟨g + 1 + 1, 3, none⟩ = false := by
               have hvb := HQ3.out.kds.vb
               rw [World.grownBy.frozen_far hgrow _ HQ3.out.ro.lt fun he => by have := hvb _ he.symm; simp at this]
               exact Row.fr HQ3.out.ro 3
             have HN3 := Lib.hid (HQD.out.push (t := kids.getD i default) hge HP2.out HLV.out hown hgrow hor)
             clear hown hgrow hor hlt3))
        all_goals
          rw [← HS.out] at HN3
          clear HQD HQ HQ2 HQ3 HP2 HLV o2e o2f hsa hsf f2 f2d o2d c0 c1 c2 c3 HK
          go_wp2_with fail
          go_roundg (m - (i + 1))
          case rel => exact ⟨i + 1, by omega, rfl, by go_num, Lib.hid ⟨_, _, _, HN3.out⟩⟩
          case measure => have := HGK.out; omega
      · obtain rfl : i = m := by omega
        have hr1 := HQ.out.rr
        have hr2 := HQ.out.ro
        have hi2 := nodeD #[.int .i64 kd, .int .u64 nm, .slice A n c, .slice K' i d'] rfl
        have ho2 : (#[.int .i64 kd, .int .u64 nm, .slice A n c, .slice K' i d'] : Array Value).all (·.oneCell') = true := by simp [Value.oneCell']
        have HE : Hid (kids.take i = kids) := Lib.hid (List.take_of_length_le (by rw [HL.out]; exact Nat.le_refl _))
        have HQ2 : Hid (Gw w0.heap.size w wr g kd nm A n c K i d K' i d' kids cells) := by
          have h := HQ
          rwa [HE.out] at h
        have o0 : wr.cell? ⟨g + 1 + 1, 0, none⟩ = some (.int .i64 kd) := HQ.out.ro.cell 0
        have o1 : wr.cell? ⟨g + 1 + 1, 1, none⟩ = some (.int .u64 nm) := HQ.out.ro.cell 1
        have o2 : wr.cell? ⟨g + 1 + 1, 2, none⟩ = some (.slice A n c) := HQ.out.ro.cell 2
        have o3 : wr.cell? ⟨g + 1 + 1, 3, none⟩ = some (.slice K' i d') := HQ.out.ro.cell 3
        clear HQ
        go_wp2_with (refine wpList_store_row rfl 27 _ _ rfl (g + 1) _ rfl rfl _ _ hr1 hi2 rfl ho2 ?_)
        refine bodyPost_ret (results_cell_row rfl _ _ (g + 1) _ #[.int .i64 kd, .int .u64 nm, .slice A n c, .slice K' i d'] (0, 0) _ rfl (setRow_heap wr (g + 1) _ _ _ _ hr1) Tryd.underlying27 rfl hi2) rfl ?_
        have hsz : (wr.setRow (g + 1) #[.int .i64 kd, .int .u64 nm, .slice A n c, .slice K' i d']).heap.size = wr.heap.size := by simp [World.setRow]
        refine ⟨_, _, _, _, rfl, below_setRow HQ2.out.past (by omega) _, fun w'' hw => ?_⟩
        have hbl : ∀ k, k < w0.heap.size ∨ g + 1 + 1 < k → k < wr.heap.size → w''.heap[k]? = wr.heap[k]? := fun k hk hlt2 => by
          have h0 := HW.out.size
          rw [hw k (by rw [hsz]; omega), setRow_other _ (g + 1) _ _ (by omega)]
        refine HQ2.out.kds.node HT.out HU.out w'' hbl (Sl.later8 HB.out fun b hb => ?_)
        have h0 := HW.out.size
        have h1 := HQ2.out.past.size
        rw [hbl b (.inl hb) (by omega)]
        exact (HW.out.trans' HQ2.out.past).block b hb

end Go.Proofs.YtmhgpdfllpgjpaaDoor

namespace Go.Proofs.YtmhgpdfllpgjpaaDoor
open Go.RowKit
set_option linter.unusedVariables false

theorem infoR : (Tryd.prog.info? 34).map (fun i => (i.zero, i.size, i.bytes)) = some (some (.agg #[.int .i64 0, .int .u64 0, .slice none 0 0, .slice none 0 0]), 4, 64) := by kernel_rfl
theorem nodeR (cs : Array Value) (h : cs.size = 4) : (Tryd.prog.info? 34).map (·.size) = some cs.size := by rw [h]; kernel_rfl

/-- What the loop keeps. -/
structure Bw (B : Nat) (w wx : World) (g : Nat) (kd nm : Int) (A : Option Addr) (n c : Nat) (K : Option Addr) (m d : Nat) (K' : Option Addr) (i d' : Nat) (ks : List T) (cells : List Value) : Prop where
  past : Past w wx
  rn : Row wx g 27 #[.int .i64 kd, .int .u64 nm, .slice A n c, .slice K m d]
  rr : Row wx (g + 1) 34 #[.int .i64 0, .int .u64 0, .slice none 0 0, .slice none 0 0]
  ro : Row wx (g + 1 + 1) 34 #[.int .i64 kd, .int .u64 nm, .slice A n c, .slice K' i d']
  kds : KdsG B wx (g + 1 + 1) 34 (.slice K' i d') i ks cells
theorem Bw.later {B : Nat} {w wx wy : World} {g : Nat} {kd nm : Int} {A : Option Addr} {n c : Nat} {K : Option Addr} {m d : Nat} {K' : Option Addr} {i d' : Nat} {ks : List T} {cells : List Value} (h : Bw B w wx g kd nm A n c K m d K' i d' ks cells) (hp : Past wx wy) : Bw B w wy g kd nm A n c K m d K' i d' ks cells :=
  ⟨h.past.trans' hp, h.rn.past hp, h.rr.past hp, h.ro.past hp, h.kds.later hp⟩
theorem Bw.push {B : Nat} {w wr w2 w3 : World} {g : Nat} {kd nm : Int} {A : Option Addr} {n c : Nat} {K : Option Addr} {m d : Nat} {K' : Option Addr} {i d' : Nat} {ks : List T} {cells : List Value} {x y z u : Value} {t : T} {e : TypeId} {g' cap : Nat}
    (h : Bw B w wr g kd nm A n c K m d K' i d' ks cells) (hg : w.heap.size ≤ g) (hp : Past wr w2)
    (hlv : ∀ w'', (∀ k, k < B ∨ (wr.heap.size ≤ k ∧ k < w2.heap.size) → w''.heap[k]? = w2.heap[k]?) → InM w'' (.agg #[x, y, z, u]) t)
    (hown : w3.ownsRow (g + 1 + 1 + 1) 34 4 (.slice (some ⟨g', 0, none⟩) (i + 1) cap) (i + 1) (cells ++ [x, y, z, u])) (hgrow : (w2.alloc (.cells #[x, y, z, u] e)).grownBy w3 (Value.slice K' i d').ownBlock) (hor : (Value.slice K' i d').ownBlock = some g' ∨ g' = (w2.alloc (.cells #[x, y, z, u] e)).heap.size) :
    Bw B w (w3.setCell ⟨g + 1 + 1, 3, none⟩ (.slice (some ⟨g', 0, none⟩) (i + 1) cap)) g kd nm A n c K m d (some ⟨g', 0, none⟩) (i + 1) cap (ks ++ [t]) (cells ++ [x, y, z, u]) := by
  have hpa : Past wr (w2.alloc (.cells #[x, y, z, u] e)) := hp.trans' (past_alloc8 _ _)
  have h2 := h.later hpa
  have hvb := h.kds.vb
  have hlq := h.ro.lt
  have hle := h.kds.le
  have hsz : (w2.alloc (.cells #[x, y, z, u] e)).heap.size = w2.heap.size + 1 := by simp
  have hks := h2.kds.push (lo := wr.heap.size) (hi := w2.heap.size) (t := t) hlq (by omega) (fun kb hk => (h.kds.own.lt kb hk).2) (fun w'' hw => hlv w'' fun k hk => by
    have h1 := hw k hk
    rw [h1]
    refine Below.heap_alloc w2 _ k ?_
    have := hp.size
    have := h.kds.les
    omega) hown hgrow (hor.elim (fun h => .inl h.symm) (fun h => .inr (by rw [← h]; rfl)))
  have hne : ∀ k, k ≤ g + 1 + 1 → some k ≠ (Value.slice K' i d').ownBlock := fun k hk he => by
    have := hvb k he.symm
    omega
  refine ⟨?_, row_setOther (h2.rn.grown hgrow (hne g (by omega))) (by omega) _ _, row_setOther (h2.rr.grown hgrow (hne (g + 1) (by omega))) (by omega) _ _, ?_, hks.set _ _⟩
  · refine Below.setCell ?_ (by show _ ≤ g + 1 + 1; omega) _
    exact h2.past.grown hgrow h2.past.size fun kb hk => by
      have := hvb kb hk
      omega
  · have := Row.set (h2.ro.grown hgrow (hne (g + 1 + 1) (by omega))) 3 (.slice (some ⟨g', 0, none⟩) (i + 1) cap)
    exact this

set_option maxHeartbeats 4000000 in
set_option maxRecDepth 100000 in
theorem back_any {w0 : World} {v : Value} {t : T} (h : InM w0 v t) : ∀ w, Past w0 w → cnt t ≤ 2000000 →
    Calls Tryd.prog 13 #[v] w (GivP w0.heap.size t w) := by
  induction h with
  | mk v0 v1 v2 v3 ht hu hb hl hm hd h0 hc hk ih =>
    rename_i kd nm A n c bytes K m d kids
    intro w hw hn
    have hmb : m ≤ 2000000 := by
      have := len_cntL kids (1 + bytes.length)
      have : cntL kids (1 + bytes.length) ≤ 2000000 := hn
      omega
    have HN : Hid (cntL kids (1 + bytes.length) ≤ 2000000) := hn
    have HIH := Lib.hid ih
    have HC := Lib.hid hc
    have HL := Lib.hid hl
    have HB := Lib.hid hb
    have HT := Lib.hid ht
    have HU := Lib.hid hu
    have HW := Lib.hid hw
    obtain ⟨iN, hiN, hzN, hsN, hbN⟩ := info_parts infoR
    have H0 : Hid (Bw w0.heap.size w (((w.alloc (.cells #[.int .i64 kd, .int .u64 nm, .slice A n c, .slice K m d] 27)).alloc (.cells #[.int .i64 0, .int .u64 0, .slice none 0 0, .slice none 0 0] 34)).alloc (.cells #[.int .i64 kd, .int .u64 nm, .slice A n c, .slice none 0 0] 34)) w.heap.size kd nm A n c K m d none 0 0 (kids.take 0) []) := by
      have hs := hw.size
      refine Lib.hid ⟨((past_alloc8 _ _).trans' (past_alloc8 _ _)).trans' (past_alloc8 _ _), ((Row.new w _ _).alloc _).alloc _, ?_, ?_, KdsG.nil _ _ _ _ (by omega) (by simp; omega)⟩
      · have := (Row.new (w.alloc (.cells #[.int .i64 kd, .int .u64 nm, .slice A n c, .slice K m d] 27)) 34 #[.int .i64 0, .int .u64 0, .slice none 0 0, .slice none 0 0]).alloc (.cells #[.int .i64 kd, .int .u64 nm, .slice A n c, .slice none 0 0] 34)
        simpa using this
      · have := Row.new ((w.alloc (.cells #[.int .i64 kd, .int .u64 nm, .slice A n c, .slice K m d] 27)).alloc (.cells #[.int .i64 0, .int .u64 0, .slice none 0 0, .slice none 0 0] 34)) 34 #[.int .i64 kd, .int .u64 nm, .slice A n c, .slice none 0 0]
        simpa using this
    clear hn ih hc hl hk hb ht hu hw
    go_enter Tryd.func13, Tryd.ntmps13
    go_wp2_with fail
    generalize ((w.alloc (.cells #[.int .i64 kd, .int .u64 nm, .slice A n c, .slice K m d] 27)).alloc (.cells #[.int .i64 0, .int .u64 0, .slice none 0 0, .slice none 0 0] 34)).alloc (.cells #[.int .i64 kd, .int .u64 nm, .slice A n c, .slice none 0 0] 34) = w1 at *
    obtain ⟨g, hg⟩ : ∃ g, w.heap.size = g := ⟨_, rfl⟩
    have hge : w.heap.size ≤ g := by omega
    rw [hg] at H0 ⊢
    clear hg
    go_loopg [4] m (fun q s4 wx => ∃ i : Nat, i ≤ m ∧ q = m - i ∧ s4 = .int .i64 (i : Int) ∧ Hid (∃ K' d' cells, Bw w0.heap.size w wx g kd nm A n c K m d K' i d' (kids.take i) cells))
    case atStart => exact ⟨0, Nat.zero_le _, rfl, rfl, Lib.hid ⟨_, _, _, H0.out⟩⟩
    case round =>
      clear H0
      obtain ⟨i, hi, hgk, rfl, HQ0⟩ := hrel
      obtain ⟨K', d', cells, hq⟩ := HQ0.out
      have HQ := Lib.hid hq
      have HGK := Lib.hid hgk
      clear hgk HQ0 hq
      have f2 : wr.cell? ⟨g, 3, none⟩ = some (.slice K m d) := HQ.out.rn.cell 3
      by_cases hlt : i < m
      · obtain ⟨b, o, rfl, hcell⟩ := HC.out (by omega)
        obtain ⟨q0, q1, q2, q3⟩ := hcell i hlt
        have hpp := HW.out.trans' HQ.out.past
        have f2d : wr.drew.cell? ⟨g, 3, none⟩ = some (.slice (some ⟨b, o, none⟩) m d) := f2
        have o2d : wr.drew.cell? ⟨g + 1 + 1, 3, none⟩ = some (.slice K' i d') := HQ.out.ro.cell 3
        have c0 : wr.drew.cell? ⟨b, o + i * 4, none⟩ = some (v0 i) := by show wr.cell? _ = _; rw [Below.cell hpp (cell_lt q0)]; exact q0
        have c1 : wr.drew.cell? ⟨b, o + i * 4 + 1, none⟩ = some (v1 i) := by show wr.cell? _ = _; rw [Below.cell hpp (cell_lt q1)]; exact q1
        have c2 : wr.drew.cell? ⟨b, o + i * 4 + 2, none⟩ = some (v2 i) := by show wr.cell? _ = _; rw [Below.cell hpp (cell_lt q2)]; exact q2
        have c3 : wr.drew.cell? ⟨b, o + i * 4 + 3, none⟩ = some (v3 i) := by show wr.cell? _ = _; rw [Below.cell hpp (cell_lt q3)]; exact q3
        have hck := cnt_kid kids (1 + bytes.length) i (by rw [HL.out]; exact hlt)
        have HK := Lib.hid (HIH.out i hlt wr.drew (hpp.drewN 1) (by have := HN.out; omega))
        have HS : Hid (kids.take (i + 1) = kids.take i ++ [kids.getD i default]) := Lib.hid (take_next kids i (by rw [HL.out]; exact hlt))
        clear hcell q0 q1 q2 q3 hpp hck
        have hi0 : (0 : Int) ≤ (i : Int) := by omega
        have him : (i : Int) < (m : Int) := by omega
        have HQD := Lib.hid (HQ.out.later (Past.drewN (Below.refl _ wr) 1))
        go_wp2_with fail
        go_region_law (first
          | (go_simp; go_at_call 13; (with_reducible refine HK.out.mono ?_); rintro e w2 ⟨x, y, z, u, rfl, hp, hlv⟩
             obtain ⟨tg3, nm3, A3, n3, e3, K3, m3, d3, rfl, rfl, rfl, rfl⟩ := (hlv w2 fun _ _ => rfl).shape
             have HP2 := Lib.hid hp
             have HLV := Lib.hid hlv
             have HQ2 := Lib.hid (HQD.out.later hp)
             have HQ3 := Lib.hid (HQ2.out.later (past_alloc8 w2 (.cells #[.int .i64 tg3, .int .u64 nm3, .slice A3 n3 e3, .slice K3 m3 d3] 34)))
             have o2e : w2.cell? ⟨g + 1 + 1, 3, none⟩ = some (.slice K' i d') := HQ2.out.ro.cell 3
             have o2f : (w2.alloc (.cells #[.int .i64 tg3, .int .u64 nm3, .slice A3 n3 e3, .slice K3 m3 d3] 34)).cell? ⟨g + 1 + 1, 3, none⟩ = some (.slice K' i d') := HQ3.out.ro.cell 3
             clear hp hlv)
          | (refine step_append_lies _ rfl _ _ 32 rfl (g + 1 + 1 + 1) 34 iN _ 4 64 Tryd.underlying32 hiN hzN hsN hbN rfl (by decide) (.slice K' i d') i cells rfl HQ3.out.kds.own ⟨w2.heap.size, 0, none⟩ 1 1 [.int .i64 tg3, .int .u64 nm3, .slice A3 n3 e3, .slice K3 m3 d3] rfl rfl (World.news_of_block (heap_alloc_new w2 (.cells #[.int .i64 tg3, .int .u64 nm3, .slice A3 n3 e3, .slice K3 m3 d3] 34))) (by simp [Value.oneCell']) (by decide) (by unfold maxLen; omega) (by omega) (by have := HQ3.out.ro.lt; omega) _ rfl ?_
             intro g' cap w3 hown hgrow hor hlt3
             have hsa : w3.cell? ⟨g + 1 + 1, 3, none⟩ = some (.slice K' i d') := by
               have hvb := HQ3.out.kds.vb
               rw [World.grownBy.cell_far hgrow _ HQ3.out.ro.lt fun he => by have := hvb _ he.symm; simp at this]
               exact o2f
             have hsf : w3.frozen? ⟨g + 1 + 1, 3, none⟩ = false := by
               have hvb := HQ3.out.kds.vb
               rw [World.grownBy.frozen_far hgrow _ HQ3.out.ro.lt fun he => by have := hvb _ he.symm; simp at this]
               exact Row.fr HQ3.out.ro 3
             have HN3 := Lib.hid (HQD.out.push (t := kids.getD i default) hge HP2.out HLV.out hown hgrow hor)
             clear hown hgrow hor hlt3))
        all_goals
          rw [← HS.out] at HN3
          clear HQD HQ HQ2 HQ3 HP2 HLV o2e o2f hsa hsf f2 f2d o2d c0 c1 c2 c3 HK
          go_wp2_with fail
          go_roundg (m - (i + 1))
          case rel => exact ⟨i + 1, by omega, rfl, by go_num, Lib.hid ⟨_, _, _, HN3.out⟩⟩
          case measure => have := HGK.out; omega
      · obtain rfl : i = m := by omega
        have hr1 := HQ.out.rr
        have hr2 := HQ.out.ro
        have hi2 := nodeR #[.int .i64 kd, .int .u64 nm, .slice A n c, .slice K' i d'] rfl
        have ho2 : (#[.int .i64 kd, .int .u64 nm, .slice A n c, .slice K' i d'] : Array Value).all (·.oneCell') = true := by simp [Value.oneCell']
        have HE : Hid (kids.take i = kids) := Lib.hid (List.take_of_length_le (by rw [HL.out]; exact Nat.le_refl _))
        have HQ2 : Hid (Bw w0.heap.size w wr g kd nm A n c K i d K' i d' kids cells) := by
          have h := HQ
          rwa [HE.out] at h
        have o0 : wr.cell? ⟨g + 1 + 1, 0, none⟩ = some (.int .i64 kd) := HQ.out.ro.cell 0
        have o1 : wr.cell? ⟨g + 1 + 1, 1, none⟩ = some (.int .u64 nm) := HQ.out.ro.cell 1
        have o2 : wr.cell? ⟨g + 1 + 1, 2, none⟩ = some (.slice A n c) := HQ.out.ro.cell 2
        have o3 : wr.cell? ⟨g + 1 + 1, 3, none⟩ = some (.slice K' i d') := HQ.out.ro.cell 3
        clear HQ
        go_wp2_with (refine wpList_store_row rfl 34 _ _ rfl (g + 1) _ rfl rfl _ _ hr1 hi2 rfl ho2 ?_)
        refine bodyPost_ret (results_cell_row rfl _ _ (g + 1) _ #[.int .i64 kd, .int .u64 nm, .slice A n c, .slice K' i d'] (0, 0) _ rfl (setRow_heap wr (g + 1) _ _ _ _ hr1) Tryd.underlying34 rfl hi2) rfl ?_
        have hsz : (wr.setRow (g + 1) #[.int .i64 kd, .int .u64 nm, .slice A n c, .slice K' i d']).heap.size = wr.heap.size := by simp [World.setRow]
        refine ⟨_, _, _, _, rfl, below_setRow HQ2.out.past (by omega) _, fun w'' hw => ?_⟩
        have hbl : ∀ k, k < w0.heap.size ∨ g + 1 + 1 < k → k < wr.heap.size → w''.heap[k]? = wr.heap[k]? := fun k hk hlt2 => by
          have h0 := HW.out.size
          rw [hw k (by rw [hsz]; omega), setRow_other _ (g + 1) _ _ (by omega)]
        refine HQ2.out.kds.node HT.out HU.out w'' hbl (Sl.later8 HB.out fun b hb => ?_)
        have h0 := HW.out.size
        have h1 := HQ2.out.past.size
        rw [hbl b (.inl hb) (by omega)]
        exact (HW.out.trans' HQ2.out.past).block b hb

end Go.Proofs.YtmhgpdfllpgjpaaDoor
