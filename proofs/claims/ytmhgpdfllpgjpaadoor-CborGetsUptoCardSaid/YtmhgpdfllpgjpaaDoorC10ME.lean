/- The program's copy of an item. The library's slices.Chunk at items, two by two: its iterator. The program's Get. -/
import Derived.Test.YtmhgpdfllpgjpaaDoorC10P
import Derived.RangeFuncFrom
import Derived.RangeFuncNested
import Derived.RangeFuncBound
import Derived.RangeFuncCalls
import Derived.RangeFuncLeaves
import Derived.Shelf.Abstract
import Derived.Shelf.RegionOpen
import Derived.OwnWalkIn
import Derived.TacticsInMore
import Derived.LoopNIn
import Derived.LoopIn
import Derived.Test.YtmhgpdfllpgjpaaDoorC10MB
namespace Go.Proofs.YtmhgpdfllpgjpaaDoor
open Go.RowKit
set_option linter.unusedVariables false

/-- A tree that lies in blocks above kb; its cells stand at place j of the array. -/
def CAt (wx : World) (kb : Nat) (arr : Array Value) (j : Nat) (t : T) : Prop :=
  ∃ x y z u lo hi, arr[j * 4]? = some x ∧ arr[j * 4 + 1]? = some y ∧ arr[j * 4 + 2]? = some z ∧ arr[j * 4 + 3]? = some u ∧ kb < lo ∧ hi ≤ wx.heap.size ∧ ∀ w'', (∀ k, lo ≤ k → k < hi → w''.heap[k]? = wx.heap[k]?) → InM w'' (.agg #[x, y, z, u]) t
theorem CAt.agree {wx wy : World} {kb : Nat} {arr : Array Value} {j : Nat} {t : T} (h : CAt wx kb arr j t) (hs : wx.heap.size ≤ wy.heap.size) (ha : ∀ k, kb < k → k < wx.heap.size → wy.heap[k]? = wx.heap[k]?) : CAt wy kb arr j t := by
  obtain ⟨x, y, z, u, lo, hi, h0, h1, h2, h3, hl, hh, hin⟩ := h
  exact ⟨x, y, z, u, lo, hi, h0, h1, h2, h3, hl, by omega, fun w'' hw => hin w'' fun k k1 k2 => by rw [hw k k1 k2, ha k (by omega) (by omega)]⟩
structure Cl (w wx : World) (g kb : Nat) (kd nm : Int) (A : Option Addr) (n c : Nat) (K : Option Addr) (m d i : Nat) (kids : List T) (arr : Array Value) : Prop where
  past : Past w wx
  rx : Row wx g 27 #[.int .i64 kd, .int .u64 nm, .slice A n c, .slice K m d]
  rr : Row wx (g + 1) 27 zero4
  ra : Row wx kb 27 arr
  asz : arr.size = m * 4
  at0 : ∀ j, j < i → CAt wx kb arr j (kids.getD j default)
  lt : g + 1 < kb
  gw : w.heap.size = g
theorem Cl.later {w wx wy : World} {g kb : Nat} {kd nm : Int} {A : Option Addr} {n c : Nat} {K : Option Addr} {m d i : Nat} {kids : List T} {arr : Array Value} (h : Cl w wx g kb kd nm A n c K m d i kids arr) (hp : Past wx wy) : Cl w wy g kb kd nm A n c K m d i kids arr :=
  ⟨h.past.trans' hp, h.rx.past hp, h.rr.past hp, h.ra.past hp, h.asz, fun j hj => (h.at0 j hj).agree hp.size fun k _ hk => hp.block k hk, h.lt, h.gw⟩
/-- Four cells stored at place i. -/
def put4 (arr : Array Value) (i : Nat) (x y z u : Value) : Array Value := (((arr.setIfInBounds (i * 4) x).setIfInBounds (i * 4 + 1) y).setIfInBounds (i * 4 + 2) z).setIfInBounds (i * 4 + 3) u
theorem put4_size (arr : Array Value) (i : Nat) (x y z u : Value) : (put4 arr i x y z u).size = arr.size := by simp [put4]
theorem put4_ne (arr : Array Value) (i : Nat) (x y z u : Value) (j : Nat) (h : j < i * 4 ∨ i * 4 + 3 < j) : (put4 arr i x y z u)[j]? = arr[j]? := by
  unfold put4
  rw [Array.getElem?_setIfInBounds_ne (by omega), Array.getElem?_setIfInBounds_ne (by omega), Array.getElem?_setIfInBounds_ne (by omega), Array.getElem?_setIfInBounds_ne (by omega)]
theorem put4_at (arr : Array Value) (i : Nat) (x y z u : Value) (h : i * 4 + 3 < arr.size) : (put4 arr i x y z u)[i * 4]? = some x ∧ (put4 arr i x y z u)[i * 4 + 1]? = some y ∧ (put4 arr i x y z u)[i * 4 + 2]? = some z ∧ (put4 arr i x y z u)[i * 4 + 3]? = some u := by
  unfold put4
  refine ⟨?_, ?_, ?_, ?_⟩
  · rw [Array.getElem?_setIfInBounds_ne (by omega), Array.getElem?_setIfInBounds_ne (by omega), Array.getElem?_setIfInBounds_ne (by omega), Array.getElem?_setIfInBounds_self_of_lt (by omega)]
  · rw [Array.getElem?_setIfInBounds_ne (by omega), Array.getElem?_setIfInBounds_ne (by omega), Array.getElem?_setIfInBounds_self_of_lt (by simp; omega)]
  · rw [Array.getElem?_setIfInBounds_ne (by omega), Array.getElem?_setIfInBounds_self_of_lt (by simp; omega)]
  · rw [Array.getElem?_setIfInBounds_self_of_lt (by simp; omega)]
abbrev store4 (w : World) (kb i : Nat) (x y z u : Value) : World := (((w.setCell ⟨kb, i * 4, none⟩ x).setCell ⟨kb, i * 4 + 1, none⟩ y).setCell ⟨kb, i * 4 + 2, none⟩ z).setCell ⟨kb, i * 4 + 3, none⟩ u
theorem Cl.push {w wx : World} {g kb : Nat} {kd nm : Int} {A : Option Addr} {n c : Nat} {K : Option Addr} {m d i : Nat} {kids : List T} {arr : Array Value} (h : Cl w wx g kb kd nm A n c K m d i kids arr) (hi : i < m) {x y z u : Value} {lo hi' : Nat} (hlo : kb < lo) (hhi : hi' ≤ wx.heap.size)
    (hin : ∀ w'', (∀ k, lo ≤ k → k < hi' → w''.heap[k]? = wx.heap[k]?) → InM w'' (.agg #[x, y, z, u]) (kids.getD i default)) : Cl w (store4 wx kb i x y z u) g kb kd nm A n c K m d (i + 1) kids (put4 arr i x y z u) := by
  have hlt := h.lt
  have hgw := h.gw
  have hne : ∀ k, k ≠ kb → (store4 wx kb i x y z u).heap[k]? = wx.heap[k]? := fun k hk => by simp [World.setCell, Array.getElem?_modify, Ne.symm hk]
  have hsz : (store4 wx kb i x y z u).heap.size = wx.heap.size := by simp [World.setCell]
  refine ⟨(((h.past.setCell (by show _ ≤ kb; omega) _).setCell (by show _ ≤ kb; omega) _).setCell (by show _ ≤ kb; omega) _).setCell (by show _ ≤ kb; omega) _, (hne g (by omega)).trans h.rx, (hne (g + 1) (by omega)).trans h.rr, (((h.ra.set (i * 4) x).set (i * 4 + 1) y).set (i * 4 + 2) z).set (i * 4 + 3) u, by rw [put4_size]; exact h.asz, fun j hj => ?_, h.lt, h.gw⟩
  have hs := h.asz
  by_cases hji : j = i
  · subst hji
    obtain ⟨p0, p1, p2, p3⟩ := put4_at arr j x y z u (by omega)
    exact ⟨x, y, z, u, lo, hi', p0, p1, p2, p3, hlo, by omega, fun w'' hw => hin w'' fun k k1 k2 => by rw [hw k k1 k2, hne k (by omega)]⟩
  · obtain ⟨x', y', z', u', lo', hi'', q0, q1, q2, q3, ql, qh, qi⟩ := h.at0 j (by omega)
    exact ⟨x', y', z', u', lo', hi'', by rw [put4_ne _ _ _ _ _ _ _ (by omega)]; exact q0, by rw [put4_ne _ _ _ _ _ _ _ (by omega)]; exact q1, by rw [put4_ne _ _ _ _ _ _ _ (by omega)]; exact q2, by rw [put4_ne _ _ _ _ _ _ _ (by omega)]; exact q3, ql, by omega, fun w'' hw => qi w'' fun k k1 k2 => by rw [hw k k1 k2, hne k (by omega)]⟩

theorem arr_getD {arr : Array Value} {i : Nat} {v : Value} (h : arr[i]? = some v) : arr.getD i undef = v := by
  rw [Array.getD_eq_getD_getElem?, h]
  rfl
/-- What copying an item hands back. -/
def CloneP (t : T) (w : World) (e : Ending) (w' : World) : Prop := ∃ x y z u, e = .returned (.agg #[x, y, z, u]) ∧ Lives w w' (.agg #[x, y, z, u]) t ∧ Past w w'

set_option maxHeartbeats 4000000 in
set_option maxRecDepth 100000 in
theorem clone10_any {w0 : World} {v : Value} {t : T} (h : InM w0 v t) : ∀ w, Past w0 w → cnt t ≤ 2000000 →
    Calls Tryd.prog 43 #[v] w (CloneP t w) := by
  induction h with
  | mk v0 v1 v2 v3 ht hu hb hl hm hd h0 hc hk ih =>
    rename_i kd nm A n c bytes K m d kids
    intro w hw hn
    have hcn : cntL kids (1 + bytes.length) ≤ 2000000 := hn
    have hbl := hb.len
    have hmb : m ≤ 2000000 ∧ n ≤ 2000000 := by
      have := len_cntL kids (1 + bytes.length)
      omega
    have HN : Hid (cntL kids (1 + bytes.length) ≤ 2000000) := hn
    have HIH := Lib.hid ih
    have HKS : Hid (Ks w0 K m v0 v1 v2 v3 kids) := Lib.hid ⟨hl, hc, fun i hi => (hk i hi).shape⟩
    have HL := Lib.hid hl
    have HBL := Lib.hid hbl
    have HW := Lib.hid hw
    have HT := Lib.hid (And.intro ht hu)
    have HB := Lib.hid hb
    have HCL := Lib.hid (fun w1 (hp : Past w0 w1) => clone_any A n c bytes w1 (hb.past hp) (by omega))
    obtain ⟨g, hg⟩ : ∃ g, w.heap.size = g := ⟨_, rfl⟩
    have H1 : Hid (Past w ((w.alloc (.cells #[.int .i64 kd, .int .u64 nm, .slice A n c, .slice K m d] 27)).alloc (.cells zero4 27)) ∧ Row ((w.alloc (.cells #[.int .i64 kd, .int .u64 nm, .slice A n c, .slice K m d] 27)).alloc (.cells zero4 27)) g 27 #[.int .i64 kd, .int .u64 nm, .slice A n c, .slice K m d] ∧ Row ((w.alloc (.cells #[.int .i64 kd, .int .u64 nm, .slice A n c, .slice K m d] 27)).alloc (.cells zero4 27)) (g + 1) 27 zero4) := by
      refine Lib.hid ⟨(past_alloc8 _ _).trans' (past_alloc8 _ _), ?_, ?_⟩
      · rw [← hg]
        exact (Row.new w _ _).alloc _
      · rw [← hg]
        have := Row.new (w.alloc (.cells #[.int .i64 kd, .int .u64 nm, .slice A n c, .slice K m d] 27)) 27 zero4
        simpa using this
    have HG := Lib.hid hg
    clear hn ih hc hl hk hb ht hu hw hbl hcn
    obtain ⟨iN, hiN, hzN, hsN, hbN⟩ := info_parts infoD4
    go_enter Tryd.func43, Tryd.ntmps43
    go_wp2_with fail
    generalize (w.alloc (.cells #[.int .i64 kd, .int .u64 nm, .slice A n c, .slice K m d] 27)).alloc (.cells zero4 27) = w1 at *
    try rw [hg]
    clear hg
    refine (HCL.out _ (HW.out.trans' H1.out.1)).mono ?_
    intro e w2 hfr
    obtain ⟨A2, c2, rfl, hs2, ho2, hp2⟩ := hfr.out HB.out.rng
    rw [HBL.out] at hs2 ho2 ⊢
    have hold := H1.out.2.2.lt
    have H2 : Hid (Past w w2 ∧ Row w2 g 27 #[.int .i64 kd, .int .u64 nm, .slice A n c, .slice K m d] ∧ Row w2 (g + 1) 27 zero4 ∧ Sl w2 A2 n c2 bytes ∧ (∀ b o, A2 = some ⟨b, o, none⟩ → g + 1 < b ∧ b < w2.heap.size)) :=
      Lib.hid ⟨H1.out.1.trans' hp2, H1.out.2.1.past hp2, H1.out.2.2.past hp2, hs2, fun b o e => by
        subst e
        have h1 := own_block_ge ho2 b rfl
        exact ⟨by omega, (ho2.lt b rfl).2⟩⟩
    have x2 : w2.cell? ⟨g, 2, none⟩ = some (.slice A n c) := H2.out.2.1.cell 2
    have xf : w2.frozen? ⟨g, 2, none⟩ = false := H2.out.2.1.fr 2
    obtain ⟨w3, hw3⟩ : ∃ w3, w3 = w2.setCell ⟨g, 2, none⟩ (.slice A2 n c2) := ⟨_, rfl⟩
    have H3 : Hid (Past w w3 ∧ Row w3 g 27 #[.int .i64 kd, .int .u64 nm, .slice A2 n c2, .slice K m d] ∧ Row w3 (g + 1) 27 zero4 ∧ Sl w3 A2 n c2 bytes ∧ (∀ b o, A2 = some ⟨b, o, none⟩ → g + 1 < b ∧ b < w3.heap.size) ∧ g + 1 < w3.heap.size) := by
      have hG := HG.out
      have hl2 := H2.out.2.2.1.lt
      rw [hw3]
      refine Lib.hid ⟨H2.out.1.setCell (by show _ ≤ g; omega) _, H2.out.2.1.set 2 _, row_setOther H2.out.2.2.1 (by omega) _ _, H2.out.2.2.2.1.setCell x2 (fun x e => by cases e), fun b o e => ?_, by simpa [World.setCell] using hl2⟩
      have := H2.out.2.2.2.2 b o e
      simpa [World.setCell] using this
    have HW3 := Lib.hid hw3
    have y3 : w3.cell? ⟨g, 3, none⟩ = some (.slice K m d) := H3.out.2.1.cell 3
    clear hfr hs2 ho2 hp2 hold hw3 H1
    go_upto_region 2 with (fail)
    rw [← HW3.out]
    clear HW3 x2 xf H2
    go_wp2_with (at_make; refine wpList_make_full _ rfl _ _ 25 rfl (g + 1 + 1) 27 iN (.agg zero4) 4 Tryd.underlying25 hiN hzN hsN .i64 .i64 (m : Int) (m : Int) m rfl rfl rfl rfl (by rw [hbN]; omega) (by unfold maxLen; omega) (by have := H3.out.2.2.2.2.2; omega) ?_; intro w4 hown hgrow; have hp4 : Past w3 w4 := (Below.refl _ w3).grown hgrow (Nat.le_refl _) (by intro k hk; cases hk); have z3 : w4.cell? ⟨g, 3, none⟩ = some (.slice K m d) := (H3.out.2.1.past hp4).cell 3)
    obtain ⟨kb, hkb⟩ : ∃ kb, w3.heap.size = kb := ⟨_, rfl⟩
    rw [hkb] at hown ⊢
    obtain ⟨arr0, har, hasz⟩ : ∃ arr0, Row w4 kb 27 arr0 ∧ arr0.size = m * 4 := by
      rcases hown.2 with ⟨e1, e2⟩ | ⟨g', cap, cur, e1, e2, e3, e4, e5, e6, e7⟩
      · cases e1
      · injection e1 with a1 a2 a3
        injection a1 with a1
        injection a1 with a1
        subst a1 a3
        exact ⟨cur, e3, e6⟩
    have H4 : Hid (Cl w w4 g kb kd nm A2 n c2 K m d 0 kids arr0) := Lib.hid ⟨H3.out.1.trans' hp4, H3.out.2.1.past hp4, H3.out.2.2.1.past hp4, har, hasz, fun j hj => absurd hj (Nat.not_lt_zero j), by have := H3.out.2.2.2.2.2; omega, HG.out⟩
    have HSB : Hid (Sl w3 A2 n c2 bytes ∧ (∀ b o, A2 = some ⟨b, o, none⟩ → g + 1 < b ∧ b < kb)) := Lib.hid ⟨H3.out.2.2.2.1, by rw [← hkb]; exact H3.out.2.2.2.2.1⟩
    have HP34 : Hid (Past w3 w4 ∧ w3.heap.size = kb) := Lib.hid ⟨hp4, hkb⟩
    clear hown hgrow hp4 har hasz H3 y3 hkb
    go_wp2_with fail
    go_loopg [4, 5, 17] m (fun qq _ _ s17 wx => ∃ (i : Nat) (arr : Array Value), i ≤ m ∧ qq = m - i ∧ s17 = .int .i64 (i : Int) ∧ Hid (Cl w wx g kb kd nm A2 n c2 K m d i kids arr ∧ (∀ b, g + 1 < b → b < kb → wx.heap[b]? = w4.heap[b]?)))
    case atStart => exact ⟨0, arr0, Nat.zero_le _, rfl, rfl, Lib.hid ⟨H4.out, fun _ _ _ => rfl⟩⟩
    case round =>
      clear H4 z3
      obtain ⟨i, arr, hi, hgk, rfl, HK⟩ := hrel
      have HGK := Lib.hid hgk
      clear hgk
      by_cases hlt : i < m
      · obtain ⟨b, o, rfl⟩ := HKS.out.addr (by omega)
        have hpp := HW.out.trans' HK.out.1.past
        obtain ⟨kkd, knm, kA, kn, kc, kK, km, kdd, ⟨e0, e1, e2, e3⟩, c0, c1, c2', c3⟩ := HKS.out.at hpp hlt
        have hck := cnt_kid kids (1 + bytes.length) i (by rw [HL.out]; exact hlt)
        have hkc := fun wz (hz : Past wr wz) => HIH.out i hlt wz (hpp.trans' hz) (by have := HN.out; omega)
        rw [e0, e1, e2, e3] at hkc
        clear e0 e1 e2 e3
        have HKC := Lib.hid hkc
        clear hpp hck hkc
        have hi0' : (0 : Int) ≤ (i : Int) := by omega
        have him : (i : Int) < (m : Int) := by omega
        go_wp2_with fail
        refine (HKC.out _ (past_alloc8 wr _)).mono ?_
        rintro e w6 ⟨x, y, z, u, rfl, hlv, hp6⟩
        obtain ⟨tt, tn, tA, tln, tc, tK, tm, td, rfl, rfl, rfl, rfl⟩ := (hlv w6 fun _ _ _ => rfl).shape
        have hp66 := (past_alloc8 wr (.cells #[.int .i64 kkd, .int .u64 knm, .slice kA kn kc, .slice kK km kdd] 27)).trans' hp6
        have hK6 := HK.out.1.later hp66
        have hkl := HK.out.1.ra.lt
        have hasz := HK.out.1.asz
        have H7 := Lib.hid (hK6.push hlt (x := .int .i64 tt) (y := .int .u64 tn) (z := .slice tA tln tc) (u := .slice tK tm td) (lo := wr.heap.size + 1) (hi' := w6.heap.size) (by omega) (Nat.le_refl _) fun w'' hw => hlv w'' fun k h1 h2 => hw k (by simpa using h1) h2)
        have HB7 : Hid (∀ b', g + 1 < b' → b' < kb → (store4 w6 kb i (.int .i64 tt) (.int .u64 tn) (.slice tA tln tc) (.slice tK tm td)).heap[b']? = w4.heap[b']?) := Lib.hid fun b' h1 h2 => by
          have : (store4 w6 kb i (.int .i64 tt) (.int .u64 tn) (.slice tA tln tc) (.slice tK tm td)).heap[b']? = w6.heap[b']? := by simp [World.setCell, Array.getElem?_modify, (show kb ≠ b' by omega)]
          rw [this, hp66.block b' (by omega)]
          exact HK.out.2 b' h1 h2
        have hc : ∀ j, j < 4 → ∃ v, w6.cell? ⟨kb, i * 4 + j, none⟩ = some v := fun j hj => by
          rw [hK6.ra.cell]
          exact ⟨_, Array.getElem?_eq_getElem (by omega)⟩
        obtain ⟨u0, k0⟩ := hc 0 (by omega)
        obtain ⟨u1, k1⟩ := hc 1 (by omega)
        obtain ⟨u2, k2⟩ := hc 2 (by omega)
        obtain ⟨u3, k3⟩ := hc 3 (by omega)
        have l0 := hK6.ra.fr (i * 4)
        have l1 := hK6.ra.fr (i * 4 + 1)
        have l2 := hK6.ra.fr (i * 4 + 2)
        have l3 := hK6.ra.fr (i * 4 + 3)
        have k0' : w6.cell? ⟨kb, i * 4, none⟩ = some u0 := k0
        clear hlv hp6 hp66 hK6 hkl hasz hc c0 c1 c2' c3 k0 HKC
        go_wp2_with fail
        go_roundg (m - (i + 1))
        case rel => exact ⟨i + 1, _, by omega, rfl, by go_num, Lib.hid ⟨H7.out, HB7.out⟩⟩
        case measure => have := HGK.out; omega
      · obtain rfl : i = m := by omega
        have f3 : wr.cell? ⟨g, 3, none⟩ = some (.slice K i d) := HK.out.1.rx.cell 3
        have ff : wr.frozen? ⟨g, 3, none⟩ = false := HK.out.1.rx.fr 3
        have hrx : Row (wr.setCell ⟨g, 3, none⟩ (.slice (some ⟨kb, 0, none⟩) i i)) g 27 #[.int .i64 kd, .int .u64 nm, .slice A2 n c2, .slice (some ⟨kb, 0, none⟩) i i] := HK.out.1.rx.set 3 _
        have hr0 : Row (wr.setCell ⟨g, 3, none⟩ (.slice (some ⟨kb, 0, none⟩) i i)) (g + 1) 27 zero4 := row_setOther HK.out.1.rr (by omega) 3 _
        have hj2 : (Tryd.prog.info? 27).map (·.size) = some (#[.int .i64 kd, .int .u64 nm, .slice A2 n c2, .slice (some ⟨kb, 0, none⟩) i i] : Array Value).size := item_sz _ rfl
        have hjo : (#[.int .i64 kd, .int .u64 nm, .slice A2 n c2, .slice (some ⟨kb, 0, none⟩) i i] : Array Value).all (·.oneCell') = true := by simp [Value.oneCell']
        clear hlt
        go_wp2_with (first
          | (refine wpList_load_row rfl 27 _ rfl g rfl _ _ (0, 0) _ hrx Tryd.underlying27 rfl hj2 ?_)
          | (refine wpList_store_row rfl 27 _ _ rfl (g + 1) _ rfl rfl _ _ hr0 hj2 rfl hjo ?_))
        refine bodyPost_ret (results_cell_row rfl _ _ (g + 1) _ #[.int .i64 kd, .int .u64 nm, .slice A2 n c2, .slice (some ⟨kb, 0, none⟩) i i] (0, 0) _ rfl (setRow_heap _ (g + 1) _ _ _ _ hr0) Tryd.underlying27 rfl hj2) rfl ?_
        have hgw := HG.out
        have hkl := HK.out.1.ra.lt
        have hltk := HK.out.1.lt
        have hasz := HK.out.1.asz
        refine ⟨_, _, _, _, rfl, fun w'' hag => ?_, past_row10 (HK.out.1.past.setCell (by show _ ≤ g; omega) _) (by omega) _⟩
        have hbl : ∀ b, g + 1 < b → b < wr.heap.size → w''.heap[b]? = wr.heap[b]? := fun b h1 h2 => by
          rw [hag b (by omega) (by simp [World.setRow, World.setCell]; omega), setRow_other _ _ _ _ (by omega)]
          exact Below.heap_setCell wr ⟨g, 3, none⟩ _ b (by show b ≠ g; omega)
        refine .mk (fun j => arr.getD (j * 4) undef) (fun j => arr.getD (j * 4 + 1) undef) (fun j => arr.getD (j * 4 + 2) undef) (fun j => arr.getD (j * 4 + 3) undef) HT.out.1 HT.out.2 (sl_agree HSB.out.1 fun b o e => ?_) HL.out (Nat.le_refl _) (by unfold maxLen; omega) (fun e => by cases e) (fun hm => ⟨kb, 0, rfl, fun j hj => ?_⟩) fun j hj => ?_
        · obtain ⟨q1, q2⟩ := HSB.out.2 b o e
          rw [hbl b q1 (by omega), HK.out.2 b q1 q2, HP34.out.1.block b (by rw [HP34.out.2]; exact q2)]
        · have hrw : Row w'' kb 27 arr := (hbl kb hltk hkl).trans HK.out.1.ra
          refine ⟨?_, ?_, ?_, ?_⟩
          · rw [Nat.zero_add, hrw.cell]
            simp [Array.getD, (show j * 4 < arr.size by omega)]
          · rw [Nat.zero_add, hrw.cell]
            simp [Array.getD, (show j * 4 + 1 < arr.size by omega)]
          · rw [Nat.zero_add, hrw.cell]
            simp [Array.getD, (show j * 4 + 2 < arr.size by omega)]
          · rw [Nat.zero_add, hrw.cell]
            simp [Array.getD, (show j * 4 + 3 < arr.size by omega)]
        · obtain ⟨x, y, z, u, lo, hi2, q0, q1, q2, q3, ql, qh, qi⟩ := HK.out.1.at0 j hj
          have e0 : arr.getD (j * 4) undef = x := arr_getD q0
          have e1 : arr.getD (j * 4 + 1) undef = y := arr_getD q1
          have e2 : arr.getD (j * 4 + 2) undef = z := arr_getD q2
          have e3 : arr.getD (j * 4 + 3) undef = u := arr_getD q3
          show InM w'' (.agg #[arr.getD (j * 4) undef, arr.getD (j * 4 + 1) undef, arr.getD (j * 4 + 2) undef, arr.getD (j * 4 + 3) undef]) _
          rw [e0, e1, e2, e3]
          exact qi w'' fun k k1 k2 => hbl k (by omega) (by omega)

end Go.Proofs.YtmhgpdfllpgjpaaDoor

namespace Go.Proofs.YtmhgpdfllpgjpaaDoor
open Go.RowKit Go.Shelf
set_option linter.unusedVariables false
attribute [local go_sem] Oper.semAt_some

/-- The first k pairs begin at these places. -/
def starts (k : Nat) : List Nat := (List.range k).map (2 * ·)
theorem starts_succ (k : Nat) : starts k ++ [2 * k] = starts (k + 1) := by simp [starts, List.range_succ]
theorem starts_len (k : Nat) : (starts k).length = k := by simp [starts]
/-- What a round is handed: the pair at a place, or the one item that is left. -/
def encC (b o m i : Nat) : Array Value := #[.slice (some ⟨b, o + i * 4, none⟩) (min 2 (m - i)) (min 2 (m - i))]

set_option maxRecDepth 100000 in
theorem slice3_10 (b o m d i : Nat) (e : Nat) (hi : i < m) (he : i + e ≤ m) (h1 : 1 ≤ e) (hm : m ≤ d) (w : World) : (Instr.slice 25 (.slice (some ⟨b, o, none⟩) m d) (some (.int .i64 (i : Int))) (some (.int .i64 ((i : Int) + (e : Int)))) (some (.int .i64 ((i : Int) + (e : Int))))).run Tryd.prog w = .ok (.slice (some ⟨b, o + i * 4, none⟩) e e) w := by
  rw [run_slice_lhm w 25 (some ⟨b, o, none⟩) m d Tryd.underlying25 .i64 .i64 .i64 (i : Int) ((i : Int) + (e : Int)) ((i : Int) + (e : Int)) (by omega) (by omega) (by omega) (by omega)]
  have hs : (sizeOf (Tryd.prog.elem 25)).run Tryd.prog w = .ok 4 w := by kernel_rfl
  rw [hs]
  simp only [Result.andThen, sliced, Int.toNat_natCast, show ((i : Int) + (e : Int)).toNat = i + e by omega]
  rw [if_neg (by omega), Option.map_some, add_none, Nat.add_sub_cancel_left]
set_option maxRecDepth 100000 in
theorem slice1_10 (b o m d i : Nat) (hi : i ≤ m) (hm : m ≤ d) : ∃ X c, ∀ w, (Instr.slice 25 (.slice (some ⟨b, o, none⟩) m d) (some (.int .i64 (i : Int))) none none).run Tryd.prog w = .ok (.slice X (m - i) c) w := by
  refine ⟨(if d = i then some (⟨b, o, none⟩ : Addr) else (some (⟨b, o, none⟩ : Addr)).map (·.add (i * 4))), d - i, fun w => ?_⟩
  rw [run_slice_l w 25 (some ⟨b, o, none⟩) m d Tryd.underlying25 .i64 (i : Int) (by omega) (by omega)]
  have hs : (sizeOf (Tryd.prog.elem 25)).run Tryd.prog w = .ok 4 w := by kernel_rfl
  rw [hs]
  simp only [Result.andThen, sliced, Int.toNat_natCast]

set_option maxRecDepth 100000 in
set_option maxHeartbeats 4000000 in
theorem chunk1_in (F : Fence) (n : Nat) (h7 : F.fn 59) (hro : F.round = none) (hn : 1 ≤ n) (l Bs Bn n₀ b o m d : Nat) (hm : m ≤ d) (hd : m ≤ 1000000000) (J Jx : List Nat → World → Prop) (hJd : ∀ s A, J s A → J s A.drew)
    (hY : ∀ pre x W, J pre W → pre.length < m → YieldAt F (n - 1) Tryd.prog l (encC b o m x) W fun e W' =>
      (e = .returned (.bool true) ∧ J (pre ++ [x]) W' ∧ Below n₀ W W') ∨ (e = .returned (.bool false) ∧ Jx (pre ++ [x]) W'))
    (W : World) (hbs : Bs < n₀) (hbn : Bn < n₀) (hBs : W.cell? ⟨Bs, 0, none⟩ = some (.slice (some ⟨b, o, none⟩) m d)) (hBn : W.cell? ⟨Bn, 0, none⟩ = some (.int .i64 2)) (h0 : J [] W) :
    CallsIn F n Tryd.prog 59 #[.func (.yield l) #[] #[], .pointer (some ⟨Bs, 0, none⟩), .pointer (some ⟨Bn, 0, none⟩)] W fun e W' => (∃ v, e = .returned v) ∧
      ((∃ ys, (∃ k, m ≤ 2 * k ∧ ys = starts k) ∧ J ys W') ∨ (∃ pre, (∃ k, pre = starts k) ∧ Jx pre W')) := by
  refine callsIn_of_wp Tryd.func59 rfl h7 ?_ hro
  simp only [Tryd.ntmps59, List.size_toArray, List.length_cons, List.length_nil, Nat.reduceAdd, Nat.reduceSub, Array.replicate_succ, Array.replicate_zero, List.push_toArray, List.append_toArray, List.nil_append, List.cons_append]
  gi_wp2
  gi_loopw [4, 5] (fun i _ wr => ∃ k : Nat, 2 * k ≤ m + 1 ∧ i = .int .i64 ((2 * k : Nat) : Int) ∧ J (starts k) wr ∧ Below n₀ W wr)
    (fun i _ _ => m + 2 - (intOf i).toNat)
  case atStart => exact ⟨0, Nat.zero_le _, rfl, h0, Below.refl _ _⟩
  case round =>
    obtain ⟨k, hk, rfl, hJs, hnx⟩ := hrel
    have q1 : wr.cell? ⟨Bs, 0, none⟩ = some (.slice (some ⟨b, o, none⟩) m d) := (hnx.cell (p := ⟨Bs, 0, none⟩) hbs).trans hBs
    have q2 : wr.cell? ⟨Bn, 0, none⟩ = some (.int .i64 2) := (hnx.cell (p := ⟨Bn, 0, none⟩) hbn).trans hBn
    obtain ⟨i, hi⟩ : ∃ i, 2 * k = i := ⟨_, rfl⟩
    rw [hi]
    by_cases hlt : i < m
    · have hlti : (i : Int) < (m : Int) := by omega
      obtain ⟨X, c, hsl⟩ := slice1_10 b o m d i (by omega) hm
      have hml : ((m - i : Nat) : Int) = (m : Int) - (i : Int) := by omega
      obtain ⟨fn, tmps, assign, body, hy, hR⟩ := hY _ i wr.drew (hJd _ _ hJs) (by rw [starts_len]; omega)
      dsimp only [encC] at hy
      obtain ⟨e, he⟩ : ∃ e, min 2 (m - i) = e := ⟨_, rfl⟩
      rw [he] at hy
      have he1 : 1 ≤ e ∧ i + e ≤ m := by omega
      have hs3 := slice3_10 b o m d i e hlt he1.2 he1.1 hm
      have hmin : min (2 : Int) ((m : Int) - (i : Int)) = (e : Int) := by omega
      have hmin2 : min (2 : Int) ((m - i : Nat) : Int) = (e : Int) := by omega
      have hw1 : IntKind.i64.wrap ((i : Int) + (e : Int)) = (i : Int) + (e : Int) := by rw [IntKind.wrap_i64]; omega
      have hw2 : IntKind.i64.wrap ((i : Int) + 2) = ((i + 2 : Nat) : Int) := by rw [IntKind.wrap_i64]; omega
      have hmx : Tryd.prog.follows .mixedOrders = true := by kernel_rfl
      have q1d : wr.drew.cell? ⟨Bs, 0, none⟩ = some (.slice (some ⟨b, o, none⟩) m d) := q1
      have q2d : wr.drew.cell? ⟨Bn, 0, none⟩ = some (.int .i64 2) := q2
      have hnd : Below n₀ W wr.drew := hnx.trans ((Below.refl _ _).drew)
      gi_wp2
      gi_region
      all_goals
        gi_wp2
        refine hR.mono ?_
        rintro ee W3 (⟨rfl, hJ3, hk3⟩ | ⟨rfl, hJx3⟩)
        · have q23 : W3.cell? ⟨Bn, 0, none⟩ = some (.int .i64 2) := (hk3.cell (p := ⟨Bn, 0, none⟩) hbn).trans q2d
          gi_wp2
          go_roundw
          case rel => exact ⟨k + 1, by omega, by rw [show 2 * (k + 1) = i + 2 by omega, show ((i + 2 : Nat) : Int) = (i : Int) + 2 by omega], by rw [← starts_succ, hi]; exact hJ3, hnd.trans hk3⟩
          case measure => simp [intOf]; omega
        · gi_wp2
          refine bodyPost_ret (results_none rfl _ _ _) rfl ?_
          exact ⟨⟨_, rfl⟩, .inr ⟨_, ⟨k + 1, by rw [← starts_succ, hi]⟩, hJx3⟩⟩
    · have hlti : ¬ (i : Int) < (m : Int) := by omega
      gi_wp2
      go_end0
      exact ⟨⟨_, rfl⟩, .inl ⟨_, ⟨k, by omega, rfl⟩, hJs⟩⟩

theorem chunk1_nil (F : Fence) (n : Nat) (h7 : F.fn 59) (hro : F.round = none) (l Bs Bn d : Nat) (K : Option Addr) (J : List Nat → World → Prop)
    (W : World) (hBs : W.cell? ⟨Bs, 0, none⟩ = some (.slice K 0 d)) (h0 : J [] W) :
    CallsIn F n Tryd.prog 59 #[.func (.yield l) #[] #[], .pointer (some ⟨Bs, 0, none⟩), .pointer (some ⟨Bn, 0, none⟩)] W fun e W' => (∃ v, e = .returned v) ∧ J [] W' := by
  refine callsIn_of_wp Tryd.func59 rfl h7 ?_ hro
  simp only [Tryd.ntmps59, List.size_toArray, List.length_cons, List.length_nil, Nat.reduceAdd, Nat.reduceSub, Array.replicate_succ, Array.replicate_zero, List.push_toArray, List.append_toArray, List.nil_append, List.cons_append]
  gi_wp2
  gi_loopw [4, 5] (fun i _ wr => i = .int .i64 0 ∧ W = wr) (fun i _ _ => 0)
  case atStart => exact ⟨rfl, rfl⟩
  case round =>
    obtain ⟨rfl, rfl⟩ := hrel
    gi_wp2
    go_end0
    exact ⟨⟨_, rfl⟩, h0⟩

theorem chunk_stops (F : Fence) (n : Nat) (h7 : F.fn 59) (hro : F.round = none) (hn : 1 ≤ n) (Bs Bn n₀ b o m d : Nat) (K : Option Addr) (hK : 0 < m → K = some ⟨b, o, none⟩) (hm : m ≤ d) (hd : m ≤ 1000000000) (w : World) (hbs : Bs < n₀) (hbn : Bn < n₀) (hn0 : n₀ ≤ w.heap.size)
    (hBs : w.cell? ⟨Bs, 0, none⟩ = some (.slice K m d)) (hBn : w.cell? ⟨Bn, 0, none⟩ = some (.int .i64 2)) :
    SeqStopsK F n Tryd.prog 59 #[.pointer (some ⟨Bs, 0, none⟩), .pointer (some ⟨Bn, 0, none⟩)] (encC b o m) (Below n₀) (fun ys => ∃ k, m ≤ 2 * k ∧ ys = starts k) (fun pre => ∃ k, pre = starts k) m w := fun l J Jx W hW hJ hJx hY h0 => by
  have hBs' := (hW.cell (p := ⟨Bs, 0, none⟩) (by show Bs < _; omega)).trans hBs
  have hBn' := (hW.cell (p := ⟨Bn, 0, none⟩) (by show Bn < _; omega)).trans hBn
  rcases Nat.eq_zero_or_pos m with rfl | hm0
  · exact (chunk1_nil F n h7 hro l Bs Bn d K J W hBs' h0).mono fun e W' ⟨he, hj⟩ => ⟨he, .inl ⟨_, ⟨0, Nat.le_refl _, rfl⟩, hj⟩⟩
  · rw [hK hm0] at hBs'
    exact chunk1_in F n h7 hro hn l Bs Bn n₀ b o m d hm hd J Jx (fun s A hs => hJ s A A.drew none hs (only_drewN (World.grownBy.refl A none) 1) (fun r e => by cases e)) hY W hbs hbn hBs' hBn' h0

theorem chunk_any (K : Option Addr) (m d : Nat) (w : World) : Calls Tryd.prog 41 #[.slice K m d, .int .i64 2] w fun e w' =>
    e = .returned (.func (.func 59) #[] #[.pointer (some ⟨w.heap.size, 0, none⟩), .pointer (some ⟨w.heap.size + 1, 0, none⟩)]) ∧ w' = (w.alloc (.cells #[.slice K m d] 25)).alloc (.cells #[.int .i64 2] 3) := by
  go_enter Tryd.func41, Tryd.ntmps41
  go_wp2_with fail
  go_ret
  exact ⟨rfl, rfl⟩

end Go.Proofs.YtmhgpdfllpgjpaaDoor

namespace Go.Proofs.YtmhgpdfllpgjpaaDoor
open Go.RowKit Go.Shelf
set_option linter.unusedVariables false
attribute [local go_sem] Oper.semAt_some

/-- The value of the first key kk among pairs. -/
def GetIs (kids : List T) (kk : T) (o : Option T) : Prop :=
  match o with
  | none => ∀ j, 2 * j + 1 < kids.length → kids.getD (2 * j) default ≠ kk
  | some v => ∃ j, 2 * j + 1 < kids.length ∧ (∀ i, i < j → kids.getD (2 * i) default ≠ kk) ∧ kids.getD (2 * j) default = kk ∧ v = kids.getD (2 * j + 1) default
def GetT (t kk : T) (o : Option T) : Prop :=
  match t with
  | .node kd _ _ kids => (kd = 5 → GetIs kids kk o) ∧ (kd ≠ 5 → o = none)
def GetP (t kk : T) (w : World) (e : Ending) (w' : World) : Prop :=
  ∃ o x y z u, GetT t kk o ∧ e = .returned (.tuple #[.agg #[x, y, z, u], .bool o.isSome]) ∧ InM w' (.agg #[x, y, z, u]) (o.getD (.node 0 0 [] [])) ∧ Past w w'

theorem InM.kept {W W' : World} {v : Value} {t : T} (h : InM W v t) (hk : ∀ p u, W.cell? p = some u → W'.cell? p = some u) : InM W' v t := by
  induction h with
  | mk v0 v1 v2 v3 ht hu hb hl hm hd h0 hc hkk ih =>
    refine .mk v0 v1 v2 v3 ht hu (hb.keep fun p x hp => hk p _ hp) hl hm hd h0 (fun hn => ?_) ih
    obtain ⟨b, o, e, hcell⟩ := hc hn
    exact ⟨b, o, e, fun i hi => ⟨hk _ _ (hcell i hi).1, hk _ _ (hcell i hi).2.1, hk _ _ (hcell i hi).2.2.1, hk _ _ (hcell i hi).2.2.2⟩⟩
theorem row_kept {W W' : World} {row : Option Nat} {b : Nat} {t : TypeId} {cs : Array Value} (h : Row W b t cs) (hg : W.grownBy W' row) (hr : ∀ r, row = some r → ∃ o : Obj, W.heap[r]? = some o ∧ o.isCells = false) : Row W' b t cs :=
  (hg.block b h.lt fun e => by
    obtain ⟨o, ho, hc⟩ := hr b e.symm
    rw [h] at ho
    cases ho
    cases hc).trans h
theorem keeps_past {W W' : World} (h : Past W W') : KeepsOthers W W' := KeepsOthers.of_grownBy (only_of_past h none) (fun j o e => by cases e)
/-- What the search for a key keeps. -/
structure Gi (w W : World) (g s6 : Nat) (ik inm : Int) : Prop where
  past : Past w W
  rr : Row W (g + 1) 27 zero4
  rk : Row W (g + 1 + 1) 4 #[.bool false]
  rw6 : Row W s6 27 (item4 ik inm none 0 0 none 0 0)
  sz : s6 + 3 ≤ W.heap.size
theorem Gi.later {w W W' : World} {g s6 : Nat} {ik inm : Int} (h : Gi w W g s6 ik inm) (hp : Past W W') : Gi w W' g s6 ik inm := ⟨h.past.trans' hp, h.rr.past hp, h.rk.past hp, h.rw6.past hp, Nat.le_trans h.sz hp.size⟩
theorem Gi.kept {w W W' : World} {g s6 : Nat} {ik inm : Int} (h : Gi w W g s6 ik inm) {row : Option Nat} {B : Nat} (hg : W.grownBy W' row) (hr : ∀ r, row = some r → B ≤ r ∧ ∃ o : Obj, W.heap[r]? = some o ∧ o.isCells = false) (hB : w.heap.size ≤ B) : Gi w W' g s6 ik inm :=
  ⟨h.past.grown hg h.past.size fun k e => Nat.le_trans hB (hr k e).1, row_kept h.rr hg (fun r e => (hr r e).2), row_kept h.rk hg (fun r e => (hr r e).2), row_kept h.rw6 hg (fun r e => (hr r e).2), Nat.le_trans h.sz hg.size⟩
/-- A key has been found. -/
def Gx (kids : List T) (m : Nat) (kk : T) (g : Nat) (w : World) (pre : List Nat) (W : World) : Prop :=
  (∃ p x, pre = p ++ [x] ∧ (∀ i ∈ p, i + 1 < m → kids.getD i default ≠ kk) ∧ x + 1 < m ∧ kids.getD x default = kk ∧ ∃ X Y Z U, Row W (g + 1) 27 #[X, Y, Z, U] ∧ Row W (g + 1 + 1) 4 #[.bool true] ∧ InM W (.agg #[X, Y, Z, U]) (kids.getD (x + 1) default)) ∧ Past w W

theorem results_cc {fn : Func} {p u : Tmp} {ty ty2 : TypeId} (h : fn.results = #[.cell p ty, .cell u ty2]) (tmps : Array Value) {P : Program} (w : World) (a b : Addr) (v v2 : Value)
    (hp : tmps.getD p undef = .pointer (some a)) (hu : tmps.getD u undef = .pointer (some b)) (hl : (loadVar ty a).run P w = .ok v w) (hl2 : (loadVar ty2 b).run P w = .ok v2 w) :
    (results fn tmps).run P w = .ok (.tuple #[v, v2]) w := by
  have hp' : tmps[p]?.getD undef = .pointer (some a) := by simpa using hp
  have hu' : tmps[u]?.getD undef = .pointer (some b) := by simpa using hu
  simp only [results, h]
  simp [Sem.run_bind, Result.andThen, hp', hu', asAddr, hl, hl2]
theorem load_bool (w : World) (g : Nat) (b : Bool) (hg : Row w g 4 #[.bool b]) : (loadVar 4 ⟨g, 0, none⟩).run Tryd.prog w = .ok (.bool b) w := by
  have h := hg.cell 0
  have h' : w.cell? ⟨g, 0, none⟩ = some (.bool b) := h
  simp [go_sem, h']
/-- The two results stored: an item, and whether there is one. -/
abbrev res5 (W : World) (g : Nat) (X Y Z U : Value) (ok : Bool) : World := ((((W.setCell ⟨g + 1, 0, none⟩ X).setCell ⟨g + 1, 1, none⟩ Y).setCell ⟨g + 1, 2, none⟩ Z).setCell ⟨g + 1, 3, none⟩ U).setCell ⟨g + 1 + 1, 0, none⟩ (.bool ok)
section
variable {w W : World} {g : Nat} {X Y Z U : Value} {ok : Bool}
theorem res5_row (h : Row W (g + 1) 27 zero4) : Row (res5 W g X Y Z U ok) (g + 1) 27 #[X, Y, Z, U] :=
  row_setOther ((((h.set 0 X).set 1 Y).set 2 Z).set 3 U) (by omega) 0 (.bool ok)
theorem res5_ok (h : Row W (g + 1 + 1) 4 #[.bool false]) : Row (res5 W g X Y Z U ok) (g + 1 + 1) 4 #[.bool ok] :=
  (row_setOther (row_setOther (row_setOther (row_setOther h (by omega) 0 X) (by omega) 1 Y) (by omega) 2 Z) (by omega) 3 U).set 0 (.bool ok)
theorem res5_ne (k : Nat) (h1 : k ≠ g + 1) (h2 : k ≠ g + 1 + 1) : (res5 W g X Y Z U ok).heap[k]? = W.heap[k]? := by
  simp [World.setCell, Array.getElem?_modify, Ne.symm h1, Ne.symm h2]
theorem res5_keeps : KeepsOthers W (res5 W g X Y Z U ok) :=
  ((((KeepsOthers.setCell W _ _).trans (KeepsOthers.setCell _ _ _)).trans (KeepsOthers.setCell _ _ _)).trans (KeepsOthers.setCell _ _ _)).trans (KeepsOthers.setCell _ _ _)
theorem res5_past (h : Past w W) (hg : w.heap.size ≤ g) : Past w (res5 W g X Y Z U ok) :=
  ((((h.setCell (by show _ ≤ g + 1; omega) X).setCell (by show _ ≤ g + 1; omega) Y).setCell (by show _ ≤ g + 1; omega) Z).setCell (by show _ ≤ g + 1; omega) U).setCell (by show _ ≤ g + 1 + 1; omega) _
theorem res5_size : (res5 W g X Y Z U ok).heap.size = W.heap.size := by simp [World.setCell]
end

set_option maxHeartbeats 4000000 in
set_option maxRecDepth 100000 in
theorem get_any {w : World} {v : Value} {t : T} (h : InM w v t) (key : Int) (hkey : -9223372036854775808 ≤ key ∧ key < 9223372036854775808) (hn : cnt t ≤ 2000000) :
    Calls Tryd.prog 25 #[v, .int .i64 key] w (GetP t (intT key) w) := by
  cases h with
  | mk v0 v1 v2 v3 ht hu hb hl hm hd h0 hc hk =>
    rename_i kd nm A n c bytes K m d kids
    obtain ⟨g, hg⟩ : ∃ g, w.heap.size = g := ⟨_, rfl⟩
    obtain ⟨w1, hw1⟩ : ∃ w1, w1 = ((w.alloc (.cells #[.int .i64 kd, .int .u64 nm, .slice A n c, .slice K m d] 27)).alloc (.cells zero4 27)).alloc (.cells #[.bool false] 4) := ⟨_, rfl⟩
    have H1 : Hid (Past w w1 ∧ Row w1 g 27 #[.int .i64 kd, .int .u64 nm, .slice A n c, .slice K m d] ∧ Row w1 (g + 1) 27 zero4 ∧ Row w1 (g + 1 + 1) 4 #[.bool false] ∧ w1.heap.size = g + 1 + 1 + 1) := by
      rw [hw1]
      refine Lib.hid ⟨((past_alloc8 _ _).trans' (past_alloc8 _ _)).trans' (past_alloc8 _ _), ?_, ?_, ?_, by simp; omega⟩
      · rw [← hg]
        exact ((Row.new w _ _).alloc _).alloc _
      · rw [← hg]
        have := (Row.new (w.alloc (.cells #[.int .i64 kd, .int .u64 nm, .slice A n c, .slice K m d] 27)) 27 zero4).alloc (.cells #[.bool false] 4)
        simpa using this
      · rw [← hg]
        have := Row.new ((w.alloc (.cells #[.int .i64 kd, .int .u64 nm, .slice A n c, .slice K m d] 27)).alloc (.cells zero4 27)) 4 #[.bool false]
        simpa using this
    have HG := Lib.hid hg
    have HW1 := Lib.hid hw1
    by_cases h5 : kd = 5
    · subst h5
      obtain ⟨ik, inm, hiv⟩ : ∃ ik inm, intV key = .agg (item4 ik inm none 0 0 none 0 0) := by
        unfold intV
        split
        · exact ⟨_, _, rfl⟩
        · exact ⟨_, _, rfl⟩
      have hin := fun W => intV_in key W hkey
      rw [hiv] at hin
      have HIV := Lib.hid hin
      have hi0 := fun w1 => int_any key w1 hkey
      rw [hiv] at hi0
      have HI := Lib.hid hi0
      have HCH := Lib.hid (fun w1 => chunk_any K m d w1)
      have HKS : Hid (Ks w K m v0 v1 v2 v3 kids) := Lib.hid ⟨hl, hc, fun i hi => (hk i hi).shape⟩
      have HIN := Lib.hid hk
      have HL := Lib.hid hl
      have HMD : Hid (m ≤ d ∧ m ≤ 2000000) := Lib.hid ⟨hm, by
        have := len_cntL kids (1 + bytes.length)
        have : cntL kids (1 + bytes.length) ≤ 2000000 := hn
        omega⟩
      have HCN : Hid (∀ i, i < m → cnt (kids.getD i default) ≤ 2000000) := Lib.hid fun i hi => by
        have := cnt_kid kids (1 + bytes.length) i (by rw [hl]; exact hi)
        have : cntL kids (1 + bytes.length) ≤ 2000000 := hn
        omega
      clear hg hw1 hin hi0 hiv hkey hn ht hu hb hl hm hd h0 hc hk
      refine (callsIn_wide (n := 3)).1 ?_
      refine callsIn_of_wp_marks Tryd.func25 rfl trivial ?_ rfl
      simp only [Tryd.ntmps25, List.size_toArray, List.length_cons, List.length_nil, Nat.reduceAdd, Nat.reduceSub, Array.replicate_succ, Array.replicate_zero, List.push_toArray, List.append_toArray, List.nil_append, List.cons_append]
      gi_wp2_with (first
        | (refine ⟨trivial, ?_⟩; gi_at_call 22; refine (callsIn_wide.2 (HI.out _)).mono ?_; rintro e w2 ⟨rfl, hp2⟩; have H2 : Hid (Past w w2 ∧ Row w2 g 27 #[.int .i64 5, .int .u64 nm, .slice A n c, .slice K m d] ∧ Row w2 (g + 1) 27 zero4 ∧ Row w2 (g + 1 + 1) 4 #[.bool false] ∧ g + 1 + 1 < w2.heap.size) := (Lib.hid (by have hw := HW1.out; subst hw; exact ⟨H1.out.1.trans' hp2, H1.out.2.1.past hp2, H1.out.2.2.1.past hp2, H1.out.2.2.2.1.past hp2, (H1.out.2.2.2.1.past hp2).lt⟩)); have f3 : (w2.alloc (.cells #[.int .i64 ik, .int .u64 inm, .slice none 0 0, .slice none 0 0] 27)).cell? ⟨w.heap.size, 3, none⟩ = some (.slice K m d) := Lib.cell?_alloc_some _ (by rw [HG.out]; exact H2.out.2.1.cell 3); clear hp2)
        | (refine ⟨trivial, ?_⟩; gi_at_call 41; refine (callsIn_wide.2 (HCH.out _)).mono ?_; rintro e w3 ⟨rfl, rfl⟩))
      obtain ⟨W0, hW0⟩ : ∃ W0, W0 = (((w2.alloc (.cells #[.int .i64 ik, .int .u64 inm, .slice none 0 0, .slice none 0 0] 27)).alloc (.cells #[.slice K m d] 25)).alloc (.cells #[.int .i64 2] 3)) := ⟨_, rfl⟩
      obtain ⟨s6, hs6⟩ : ∃ s6, w2.heap.size = s6 := ⟨_, rfl⟩
      have hP0 : Past w2 W0 := by rw [hW0]; exact ((past_alloc8 _ _).trans' (past_alloc8 _ _)).trans' (past_alloc8 _ _)
      have hr6 : Row W0 s6 27 (item4 ik inm none 0 0 none 0 0) := by
        rw [hW0, ← hs6]
        exact ((Row.new w2 _ _).alloc _).alloc _
      have hrb : Row W0 (s6 + 1) 25 #[.slice K m d] := by
        rw [hW0, ← hs6]
        have := (Row.new (w2.alloc (.cells #[.int .i64 ik, .int .u64 inm, .slice none 0 0, .slice none 0 0] 27)) 25 #[.slice K m d]).alloc (.cells #[.int .i64 2] 3)
        simpa using this
      have hrn : Row W0 (s6 + 1 + 1) 3 #[.int .i64 2] := by
        rw [hW0, ← hs6]
        have := Row.new ((w2.alloc (.cells #[.int .i64 ik, .int .u64 inm, .slice none 0 0, .slice none 0 0] 27)).alloc (.cells #[.slice K m d] 25)) 3 #[.int .i64 2]
        simpa using this
      have hsz0 : W0.heap.size = s6 + 1 + 1 + 1 := by rw [hW0]; simp; omega
      have H0 : Hid (Gi w W0 g s6 ik inm) := Lib.hid ⟨H2.out.1.trans' hP0, H2.out.2.2.1.past hP0, H2.out.2.2.2.1.past hP0, hr6, by omega⟩
      have hgs : w.heap.size ≤ W0.heap.size ∧ g + 1 + 1 < s6 := by have := H0.out.past.size; have := H2.out.2.2.2.2; omega
      obtain ⟨b, o, hbo⟩ : ∃ b o, 0 < m → K = some ⟨b, o, none⟩ := by
        rcases Nat.eq_zero_or_pos m with h | h
        · exact ⟨0, 0, fun h' => by omega⟩
        · obtain ⟨b, o, e⟩ := HKS.out.addr h
          exact ⟨b, o, fun _ => e⟩
      have hgw : w.heap.size = g := HG.out
      rw [← hW0, hs6, hgw]
      refine wpIn_rangeFunc_ownF rfl (by omega) (gf := 59) (lb := #[.pointer (some ⟨s6 + 1, 0, none⟩), .pointer (some ⟨s6 + 1 + 1, 0, none⟩)]) rfl trivial (enters_of Tryd.func59 (by kernel_rfl) rfl)
        (chunk_stops Fence.wide _ trivial rfl (by omega) (s6 + 1) (s6 + 1 + 1) W0.heap.size b o m d K hbo HMD.out.1 (by have := HMD.out.2; omega) W0 (by omega) (by omega) (Nat.le_refl _) (hrb.cell 0) (hrn.cell 0)) belowK_t (belowK_b (Nat.le_refl _)) (Below.refl _ _) (fun _ => rfl)
        (fun pre W => (∀ i ∈ pre, i + 1 < m → kids.getD i default ≠ intT key) ∧ Gi w W g s6 ik inm)
        (fun c pre W => c = .ret ∧ Gx kids m (intT key) g w pre W)
        (fun s A B row hs hg hr => ⟨hs.1, hs.2.kept hg hr hgs.1⟩)
        (fun c s A B row hs hg hr => by
          obtain ⟨hc, ⟨p, x, e, hp, hx, hkx, X, Y, Z, U, r1, r2, hi⟩, hpa⟩ := hs
          have hr' := fun r e => (hr r e).2
          exact ⟨hc, ⟨p, x, e, hp, hx, hkx, X, Y, Z, U, row_kept r1 hg hr', row_kept r2 hg hr', hi.kept fun p u hpu => cell_kept hpu hg hr'⟩, hpa.grown hg hpa.size fun k e => Nat.le_trans hgs.1 (hr k e).1⟩)
        ⟨fun i hi => (by cases hi), H0.out⟩
        (fun x => { tmps := #[.agg #[.int .i64 5, .int .u64 nm, .slice A n c, .slice K m d], .int .i64 key, .pointer (some ⟨g, 0, none⟩), undef, .pointer (some ⟨g + 1, 0, none⟩), .pointer (some ⟨g + 1 + 1, 0, none⟩), .pointer (some ⟨s6, 0, none⟩), .slice (some ⟨b, o + x * 4, none⟩) (min 2 (m - x)) (min 2 (m - x)), .pointer (some ⟨g, 0, none⟩), .int .i64 5, .bool false, undef, .int .i64 key, .agg (item4 ik inm none 0 0 none 0 0), .pointer (some ⟨g, 3, none⟩), .slice K m d, .func (.func 59) #[] #[.pointer (some ⟨s6 + 1, 0, none⟩), .pointer (some ⟨s6 + 1 + 1, 0, none⟩)], .slice (some ⟨b, o + x * 4, none⟩) (min 2 (m - x)) (min 2 (m - x)), undef, undef, undef, undef, undef, undef, undef, undef, undef, undef, undef, undef, undef, undef, undef], defers := [] }) ?assign ?body ?done ?stop
      case assign =>
        intro l x W KK hKK
        unfold encC
        gi_wp2
        exact hKK
      case body =>
        rintro l pre x W ⟨hpre, hG⟩ _
        have hmx : Tryd.prog.follows .mixedOrders = true := by kernel_rfl
        have hdp : 1 ≤ 3 - 1 - 1 := by omega
        obtain ⟨e, he⟩ : ∃ e, min 2 (m - x) = e := ⟨_, rfl⟩
        by_cases hx : x + 1 < m
        · obtain rfl : e = 2 := by omega
          rw [he]
          obtain ⟨rfl⟩ : K = some ⟨b, o, none⟩ := hbo (by omega)
          have hpp := hG.past
          obtain ⟨kkd, knm, kA, kn, kc, kK, km, kdd, ⟨e0, e1, e2, e3⟩, c0, c1, c2', c3⟩ := HKS.out.at (wr := W.drew) (hpp.trans' (Past.drewN (Below.refl _ W) 1)) (i := x) (by omega)
          have hin0 := (HIN.out x (by omega))
          rw [e0, e1, e2, e3] at hin0
          have d0 : W.drew.cell? ⟨s6, 0, none⟩ = some (.int .i64 ik) := hG.rw6.cell 0
          have d1 : W.drew.cell? ⟨s6, 1, none⟩ = some (.int .u64 inm) := hG.rw6.cell 1
          have d2 : W.drew.cell? ⟨s6, 2, none⟩ = some (.slice none 0 0) := hG.rw6.cell 2
          have d3 : W.drew.cell? ⟨s6, 3, none⟩ = some (.slice none 0 0) := hG.rw6.cell 3
          have HSM := Lib.hid (csame_any (w0 := W.drew) (hin0.past (hpp.trans' (Past.drewN (Below.refl _ W) 1))) _ _ (HIV.out W.drew) W.drew (Below.refl _ _) (by have := HCN.out x (by omega); omega))
          gi_wp2
          gi_region_with_o (refine ⟨trivial, ?_⟩; gi_at_call 42; refine (CallsIn.inRound l (callsIn_wide.2 HSM.out)).mono ?_; rintro ee W2 ⟨r, rfl, hr, hp2⟩)
          all_goals
            have hpw := Past.trans' (Past.drewN (Below.refl W.heap.size W) 1) hp2
            have hG2 := hG.later hpw
            cases r with
            | false =>
              have HNK : Hid (kids.getD x default ≠ intT key) := Lib.hid fun h => by have := hr.2 h; cases this
              clear hr
              gi_wp2
              exact ⟨keeps_past hpw, (Below.refl W0.heap.size W).drew.trans (Below.mono hp2 (by show _ ≤ W.heap.size; have := hG.sz; omega)), fun i hi => (List.mem_append.1 hi).elim (hpre i) (fun h h1 => by simp at h; subst h; exact HNK.out), hG2⟩
            | true =>
              have HKX : Hid (kids.getD x default = intT key) := Lib.hid (hr.1 rfl)
              clear hr
              obtain ⟨vkd, vnm, vA, vn, vc, vK, vm, vdd, ⟨e0', e1', e2', e3'⟩, b0, b1, b2, b3⟩ := HKS.out.at (wr := W2) hG2.past (i := x + 1) hx
              have hin1 := HIN.out (x + 1) hx
              rw [e0', e1', e2', e3'] at hin1
              have ha0 : o + (x + 1) * 4 = o + x * 4 + 4 := by omega
              rw [ha0] at b0 b1 b2 b3
              have HCL := Lib.hid (clone10_any (w0 := W2) (hin1.past hG2.past) W2 (Below.refl _ _) (HCN.out (x + 1) hx))
              gi_wp2_with (refine ⟨trivial, ?_⟩; gi_at_call 43; refine (CallsIn.inRound l (callsIn_wide.2 HCL.out)).mono ?_; rintro ee2 W3 ⟨X, Y, Z, U, rfl, hlv, hp3⟩; obtain ⟨zt, zn, zA, zln, zc, zK, zm, zd, rfl, rfl, rfl, rfl⟩ := (hlv W3 fun _ _ _ => rfl).shape; have hG3 := hG2.later hp3; have r0 := hG3.rr.cell 0; have r1 := hG3.rr.cell 1; have r2 := hG3.rr.cell 2; have r3 := hG3.rr.cell 3; have q0 := hG3.rr.fr 0; have q1 := hG3.rr.fr 1; have q2 := hG3.rr.fr 2; have q3 := hG3.rr.fr 3; have r4 := hG3.rk.cell 0; have q4 := hG3.rk.fr 0)
              exact ⟨(keeps_past (hpw.trans' hp3)).trans res5_keeps, rfl, ⟨pre, x, rfl, hpre, hx, HKX.out, _, _, _, _, res5_row hG3.rr, res5_ok hG3.rk, hlv _ fun k h1 h2 => res5_ne k (by have := hG2.rk.lt; omega) (by have := hG2.rk.lt; omega)⟩, res5_past hG3.past (by omega)⟩
        · have hne : ((e : Int) == 2) = false := by simp; omega
          rw [he]
          gi_wp2
          gi_region_with_o (refine ⟨trivial, ?_⟩)
          all_goals gi_wp2
          all_goals exact ⟨keeps_past (Past.drewN (Below.refl _ W) 1), (Below.refl W0.heap.size W).drew, fun i hi => (List.mem_append.1 hi).elim (hpre i) (fun h h1 => by simp at h; omega), hG.later (Past.drewN (Below.refl _ W) 1)⟩
      case done =>
        rintro D ys W hD ⟨kk, hkk, rfl⟩ ⟨hpre, hG⟩ hK
        have r0 := hG.rr.cell 0
        have r1 := hG.rr.cell 1
        have r2 := hG.rr.cell 2
        have r3 := hG.rr.cell 3
        have q0 := hG.rr.fr 0
        have q1 := hG.rr.fr 1
        have q2 := hG.rr.fr 2
        have q3 := hG.rr.fr 3
        have r4 := hG.rk.cell 0
        have q4 := hG.rk.fr 0
        gi_wp2
        have hK' := (res5_keeps (W := W) (g := g) (X := .int .i64 0) (Y := .int .u64 0) (Z := .slice none 0 0) (U := .slice none 0 0) (ok := false)).same D _ hK rfl
        have hgr := grownBy_putObj' (res5 W g (.int .i64 0) (.int .u64 0) (.slice none 0 0) (.slice none 0 0) false) D (.deferred none)
        have hnc : ∀ r, some D = some r → ∃ o : Obj, (res5 W g (.int .i64 0) (.int .u64 0) (.slice none 0 0) (.slice none 0 0) false).heap[r]? = some o ∧ o.isCells = false := fun r e => by cases e; exact ⟨_, hK', rfl⟩
        refine ⟨by simp, .inl ⟨_, _, rfl, run_takeDeferred hK', ?_⟩⟩
        refine ⟨_, results_cc rfl _ _ ⟨g + 1, 0, none⟩ ⟨g + 1 + 1, 0, none⟩ _ _ rfl rfl (load_item _ (g + 1) zero4 (row_kept (res5_row hG.rr) hgr hnc) rfl) (load_bool _ (g + 1 + 1) false (row_kept (res5_ok hG.rk) hgr hnc)), ?_⟩
        refine ⟨none, _, _, _, _, ⟨fun _ j hj => ?_, fun _ => rfl⟩, rfl, zero4_in _, ?_⟩
        · have hl := HL.out
          refine hpre (2 * j) (List.mem_map.2 ⟨j, List.mem_range.2 (by omega), rfl⟩) (by omega)
        · exact (res5_past hG.past (by omega)).grown hgr (res5_past hG.past (by omega)).size (fun k e => by cases e; omega)
      case stop =>
        rintro D cc pre W hD ⟨kk, rfl⟩ ⟨rfl, ⟨p, x, ep, hp, hx, hkx, X, Y, Z, U, r1, r2, hin⟩, hpa⟩ hK
        gi_wp2
        have hgr := grownBy_putObj' W D (.deferred none)
        have hnc : ∀ r, some D = some r → ∃ o : Obj, W.heap[r]? = some o ∧ o.isCells = false := fun r e => by cases e; exact ⟨_, hK, rfl⟩
        refine ⟨by simp, .inl ⟨_, _, rfl, run_takeDeferred hK, ?_⟩⟩
        refine ⟨_, results_cc rfl _ _ ⟨g + 1, 0, none⟩ ⟨g + 1 + 1, 0, none⟩ _ _ rfl rfl (load_item _ (g + 1) _ (row_kept r1 hgr hnc) rfl) (load_bool _ (g + 1 + 1) true (row_kept r2 hgr hnc)), ?_⟩
        have hl := HL.out
        obtain ⟨j, rfl⟩ : ∃ j, kk = j + 1 := by
          cases kk with
          | zero =>
            have : p ++ [x] = [] := ep.symm
            simp at this
          | succ j => exact ⟨j, rfl⟩
        rw [← starts_succ] at ep
        obtain ⟨rfl, e2⟩ := List.append_inj' ep rfl
        injection e2 with e2
        subst e2
        refine ⟨some (kids.getD (2 * j + 1) default), _, _, _, _, ⟨fun _ => ⟨j, by omega, fun i hi => hp (2 * i) (List.mem_map.2 ⟨i, List.mem_range.2 hi, rfl⟩) (by omega), hkx, rfl⟩, fun h => absurd rfl h⟩, rfl, hin.kept fun p u hpu => cell_kept hpu hgr hnc, ?_⟩
        exact hpa.grown hgr hpa.size (fun k e => by cases e; omega)
    · have b5 : (kd != 5) = true := by simpa using h5
      have HT : Hid (GetT (.node kd nm bytes kids) (intT key) none) := Lib.hid ⟨fun h => absurd h h5, fun _ => rfl⟩
      clear h5
      go_enter Tryd.func25, Tryd.ntmps25
      go_wp2_with fail
      have hw1 := HW1.out
      subst hw1
      refine bodyPost_ret (results_cc rfl _ _ ⟨g + 1, 0, none⟩ ⟨g + 1 + 1, 0, none⟩ _ _ rfl rfl (load_item _ (g + 1) zero4 H1.out.2.2.1 rfl) (load_bool _ (g + 1 + 1) false H1.out.2.2.2.1)) rfl ?_
      exact ⟨none, _, _, _, _, HT.out, rfl, zero4_in _, H1.out.1⟩

end Go.Proofs.YtmhgpdfllpgjpaaDoor
