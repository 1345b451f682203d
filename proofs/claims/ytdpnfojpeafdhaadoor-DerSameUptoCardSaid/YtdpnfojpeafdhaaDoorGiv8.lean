/- The law's given: a node of the reference as a node of the program. -/
import Derived.Test.YtdpnfojpeafdhaaDoorKidG8
import Derived.Test.YtdpnfojpeafdhaaDoorP8
import Derived.Deep.AppendLies
import Derived.Deep.RegionLaw
namespace Go.Proofs.YtdpnfojpeafdhaaDoor
open Go.RowKit
set_option linter.unusedVariables false

theorem infoD : (Tryd.prog.info? 26).map (fun i => (i.zero, i.size, i.bytes)) = some (some (.agg #[.int .u8 0, .slice none 0 0, .slice none 0 0]), 3, 56) := by kernel_rfl
theorem nodeD (cs : Array Value) (h : cs.size = 3) : (Tryd.prog.info? 26).map (·.size) = some cs.size := by rw [h]; kernel_rfl

/-- Bytes lie in every world that has the blocks that they lie in. -/
theorem Sl.later8 {w w' : World} {A : Option Addr} {n c : Nat} {xs : List Int} (h : Sl w A n c xs) (ha : ∀ b, b < w.heap.size → w'.heap[b]? = w.heap[b]?) : Sl w' A n c xs :=
  h.keep fun p x hp => by
    rw [World.cell?_of_block (w := w) (ha p.block (cell_lt hp))]
    exact hp
/-- What given does: the node lies in blocks of its own, its bytes in those below B. -/
def GivP (B : Nat) (t : T) (w : World) (e : Ending) (w' : World) : Prop :=
  ∃ x y z, e = .returned (.agg #[x, y, z]) ∧ Past w w' ∧ ∀ w'', (∀ k, k < B ∨ (w.heap.size ≤ k ∧ k < w'.heap.size) → w''.heap[k]? = w'.heap[k]?) → InM w'' (.agg #[x, y, z]) t
/-- What the loop keeps. -/
structure Gw (B : Nat) (w wx : World) (g : Nat) (tag : Int) (A : Option Addr) (n c : Nat) (K : Option Addr) (m d : Nat) (K' : Option Addr) (i d' : Nat) (ks : List T) (cells : List Value) : Prop where
  past : Past w wx
  rn : Row wx g 33 #[.int .u8 tag, .slice A n c, .slice K m d]
  rr : Row wx (g + 1) 26 #[.int .u8 0, .slice none 0 0, .slice none 0 0]
  ro : Row wx (g + 1 + 1) 26 #[.int .u8 tag, .slice A n c, .slice K' i d']
  kds : KdsG B wx (g + 1 + 1) 26 (.slice K' i d') i ks cells
theorem Gw.later {B : Nat} {w wx wy : World} {g : Nat} {tag : Int} {A : Option Addr} {n c : Nat} {K : Option Addr} {m d : Nat} {K' : Option Addr} {i d' : Nat} {ks : List T} {cells : List Value} (h : Gw B w wx g tag A n c K m d K' i d' ks cells) (hp : Past wx wy) : Gw B w wy g tag A n c K m d K' i d' ks cells :=
  ⟨h.past.trans' hp, h.rn.past hp, h.rr.past hp, h.ro.past hp, h.kds.later hp⟩
theorem Gw.push {B : Nat} {w wr w2 w3 : World} {g : Nat} {tag : Int} {A : Option Addr} {n c : Nat} {K : Option Addr} {m d : Nat} {K' : Option Addr} {i d' : Nat} {ks : List T} {cells : List Value} {x y z : Value} {t : T} {e : TypeId} {g' cap : Nat}
    (h : Gw B w wr g tag A n c K m d K' i d' ks cells) (hg : w.heap.size ≤ g) (hp : Past wr w2)
    (hlv : ∀ w'', (∀ k, k < B ∨ (wr.heap.size ≤ k ∧ k < w2.heap.size) → w''.heap[k]? = w2.heap[k]?) → InM w'' (.agg #[x, y, z]) t)
    (hown : w3.ownsRow (g + 1 + 1 + 1) 26 3 (.slice (some ⟨g', 0, none⟩) (i + 1) cap) (i + 1) (cells ++ [x, y, z])) (hgrow : (w2.alloc (.cells #[x, y, z] e)).grownBy w3 (Value.slice K' i d').ownBlock) (hor : (Value.slice K' i d').ownBlock = some g' ∨ g' = (w2.alloc (.cells #[x, y, z] e)).heap.size) :
    Gw B w (w3.setCell ⟨g + 1 + 1, 2, none⟩ (.slice (some ⟨g', 0, none⟩) (i + 1) cap)) g tag A n c K m d (some ⟨g', 0, none⟩) (i + 1) cap (ks ++ [t]) (cells ++ [x, y, z]) := by
  have hpa : Past wr (w2.alloc (.cells #[x, y, z] e)) := hp.trans' (past_alloc8 _ _)
  have h2 := h.later hpa
  have hvb := h.kds.vb
  have hlq := h.ro.lt
  have hle := h.kds.le
  have hsz : (w2.alloc (.cells #[x, y, z] e)).heap.size = w2.heap.size + 1 := by simp
  have hks := h2.kds.push (lo := wr.heap.size) (hi := w2.heap.size) (t := t) hlq (by omega) (fun kb hk => (h.kds.own.lt kb hk).2) (fun w'' hw => hlv w'' fun k hk => by
    have h1 := hw k hk
    rw [h1]
    refine Below.heap_alloc w2 _ k ?_
    have := hp.size
    have := h.kds.les
    omega) hown hgrow (hor.elim (fun h => .inl h.symm) (fun h => .inr (by rw [← h]; rfl)))
  have hne : ∀ k, k ≤ g + 1 + 1 → some k ≠ (Value.slice K' i d').ownBlock := fun k hk he => by
    have := hvb k he.symm
    omega
  refine ⟨?_, row_setOther (h2.rn.grown hgrow (hne g (by omega))) (by omega) _ _, row_setOther (h2.rr.grown hgrow (hne (g + 1) (by omega))) (by omega) _ _, ?_, hks.set _ _⟩
  · refine Below.setCell ?_ (by show _ ≤ g + 1 + 1; omega) _
    exact h2.past.grown hgrow h2.past.size fun kb hk => by
      have := hvb kb hk
      omega
  · have := Row.set (h2.ro.grown hgrow (hne (g + 1 + 1) (by omega))) 2 (.slice (some ⟨g', 0, none⟩) (i + 1) cap)
    exact this

set_option maxHeartbeats 4000000 in
set_option maxRecDepth 100000 in
theorem given_any {w0 : World} {v : Value} {t : T} (h : InM w0 v t) : ∀ w, Past w0 w → cnt t ≤ 2000000 →
    Calls Tryd.prog 16 #[v] w (GivP w0.heap.size t w) := by
  induction h with
  | mk v0 v1 v2 ht hb hl hm hd h0 hc hk ih =>
    rename_i tag A n c bytes K m d kids
    intro w hw hn
    have hmb : m ≤ 2000000 := by
      have := len_cntL kids 1
      have : cntL kids 1 ≤ 2000000 := hn
      omega
    have HN : Hid (cntL kids 1 ≤ 2000000) := hn
    have HIH := Lib.hid ih
    have HC := Lib.hid hc
    have HL := Lib.hid hl
    have HB := Lib.hid hb
    have HT := Lib.hid ht
    have HW := Lib.hid hw
    obtain ⟨iN, hiN, hzN, hsN, hbN⟩ := info_parts infoD
    have H0 : Hid (Gw w0.heap.size w (((w.alloc (.cells #[.int .u8 tag, .slice A n c, .slice K m d] 33)).alloc (.cells #[.int .u8 0, .slice none 0 0, .slice none 0 0] 26)).alloc (.cells #[.int .u8 tag, .slice A n c, .slice none 0 0] 26)) w.heap.size tag A n c K m d none 0 0 (kids.take 0) []) := by
      have hs := hw.size
      refine Lib.hid ⟨((past_alloc8 _ _).trans' (past_alloc8 _ _)).trans' (past_alloc8 _ _), ((Row.new w _ _).alloc _).alloc _, ?_, ?_, KdsG.nil _ _ _ _ (by omega) (by simp; omega)⟩
      · have := (Row.new (w.alloc (.cells #[.int .u8 tag, .slice A n c, .slice K m d] 33)) 26 #[.int .u8 0, .slice none 0 0, .slice none 0 0]).alloc (.cells #[.int .u8 tag, .slice A n c, .slice none 0 0] 26)
        simpa using this
      · have := Row.new ((w.alloc (.cells #[.int .u8 tag, .slice A n c, .slice K m d] 33)).alloc (.cells #[.int .u8 0, .slice none 0 0, .slice none 0 0] 26)) 26 #[.int .u8 tag, .slice A n c, .slice none 0 0]
        simpa using this
    clear hn ih hc hl hk hb ht hw
    go_enter Tryd.func16, Tryd.ntmps16
    go_wp2_with fail
    generalize ((w.alloc (.cells #[.int .u8 tag, .slice A n c, .slice K m d] 33)).alloc (.cells #[.int .u8 0, .slice none 0 0, .slice none 0 0] 26)).alloc (.cells #[.int .u8 tag, .slice A n c, .slice none 0 0] 26) = w1 at *
    obtain ⟨g, hg⟩ : ∃ g, w.heap.size = g := ⟨_, rfl⟩
    have hge : w.heap.size ≤ g := by omega
    rw [hg] at H0 ⊢
    clear hg
    go_loopg [4] m (fun q s4 wx => ∃ i : Nat, i ≤ m ∧ q = m - i ∧ s4 = .int .i64 (i : Int) ∧ Hid (∃ K' d' cells, Gw w0.heap.size w wx g tag A n c K m d K' i d' (kids.take i) cells))
    case atStart => exact ⟨0, Nat.zero_le _, rfl, rfl, Lib.hid ⟨_, _, _, H0.out⟩⟩
    case round =>
      clear H0
      obtain ⟨i, hi, hgk, rfl, HQ0⟩ := hrel
      obtain ⟨K', d', cells, hq⟩ := HQ0.out
      have HQ := Lib.hid hq
      have HGK := Lib.hid hgk
      clear hgk HQ0 hq
      have f2 : wr.cell? ⟨g, 2, none⟩ = some (.slice K m d) := HQ.out.rn.cell 2
      by_cases hlt : i < m
      · obtain ⟨b, o, rfl, hcell⟩ := HC.out (by omega)
        obtain ⟨q0, q1, q2⟩ := hcell i hlt
        have hpp := HW.out.trans' HQ.out.past
        have f2d : wr.drew.cell? ⟨g, 2, none⟩ = some (.slice (some ⟨b, o, none⟩) m d) := f2
        have o2d : wr.drew.cell? ⟨g + 1 + 1, 2, none⟩ = some (.slice K' i d') := HQ.out.ro.cell 2
        have c0 : wr.drew.cell? ⟨b, o + i * 3, none⟩ = some (v0 i) := by show wr.cell? _ = _; rw [Below.cell hpp (cell_lt q0)]; exact q0
        have c1 : wr.drew.cell? ⟨b, o + i * 3 + 1, none⟩ = some (v1 i) := by show wr.cell? _ = _; rw [Below.cell hpp (cell_lt q1)]; exact q1
        have c2 : wr.drew.cell? ⟨b, o + i * 3 + 2, none⟩ = some (v2 i) := by show wr.cell? _ = _; rw [Below.cell hpp (cell_lt q2)]; exact q2
        have hck := cnt_kid kids i (by rw [HL.out]; exact hlt)
        have HK := Lib.hid (HIH.out i hlt wr.drew (hpp.drewN 1) (by have := HN.out; omega))
        have HS : Hid (kids.take (i + 1) = kids.take i ++ [kids.getD i default]) := Lib.hid (take_next kids i (by rw [HL.out]; exact hlt))
        clear hcell q0 q1 q2 hpp hck
        have hi0 : (0 : Int) ≤ (i : Int) := by omega
        have him : (i : Int) < (m : Int) := by omega
        have HQD := Lib.hid (HQ.out.later (Past.drewN (Below.refl _ wr) 1))
        go_wp2_with fail
        go_region_law (first
          | (go_simp; go_at_call 16; (with_reducible refine HK.out.mono ?_); rintro e w2 ⟨x, y, z, rfl, hp, hlv⟩
             obtain ⟨tg3, A3, n3, c3, K3, m3, d3, rfl, rfl, rfl⟩ := (hlv w2 fun _ _ => rfl).forms
             have HP2 := Lib.hid hp
             have HLV := Lib.hid hlv
             have HQ2 := Lib.hid (HQD.out.later hp)
             have HQ3 := Lib.hid (HQ2.out.later (past_alloc8 w2 (.cells #[.int .u8 tg3, .slice A3 n3 c3, .slice K3 m3 d3] 26)))
             have o2e : w2.cell? ⟨g + 1 + 1, 2, none⟩ = some (.slice K' i d') := HQ2.out.ro.cell 2
             have o2f : (w2.alloc (.cells #[.int .u8 tg3, .slice A3 n3 c3, .slice K3 m3 d3] 26)).cell? ⟨g + 1 + 1, 2, none⟩ = some (.slice K' i d') := HQ3.out.ro.cell 2
             clear hp hlv)
          | (refine step_append_lies _ rfl _ _ 24 rfl (g + 1 + 1 + 1) 26 iN _ 3 56 Tryd.underlying24 hiN hzN hsN hbN rfl (by decide) (.slice K' i d') i cells rfl HQ3.out.kds.own ⟨w2.heap.size, 0, none⟩ 1 1 [.int .u8 tg3, .slice A3 n3 c3, .slice K3 m3 d3] rfl rfl (World.news_of_block (heap_alloc_new w2 (.cells #[.int .u8 tg3, .slice A3 n3 c3, .slice K3 m3 d3] 26))) (by simp [Value.oneCell']) (by decide) (by unfold maxLen; omega) (by omega) (by have := HQ3.out.ro.lt; omega) _ rfl ?_
             intro g' cap w3 hown hgrow hor hlt3
             have hsa : w3.cell? ⟨g + 1 + 1, 2, none⟩ = some (.slice K' i d') := by
               have hvb := HQ3.out.kds.vb
               rw [World.grownBy.cell_far hgrow _ HQ3.out.ro.lt fun he => by have := hvb _ he.symm; simp at this]
               exact o2f
             have hsf : w3.frozen? ⟨g + 1 + 1, 2, none⟩ = false := by
               have hvb := HQ3.out.kds.vb
               rw [World.grownBy.frozen_far hgrow _ HQ3.out.ro.lt fun he => by have := hvb _ he.symm; simp at this]
               exact Row.fr HQ3.out.ro 2
             have HN3 := Lib.hid (HQD.out.push (t := kids.getD i default) hge HP2.out HLV.out hown hgrow hor)
             clear hown hgrow hor hlt3))
        all_goals
          rw [← HS.out] at HN3
          clear HQD HQ HQ2 HQ3 HP2 HLV o2e o2f hsa hsf f2 f2d o2d c0 c1 c2 HK
          go_wp2_with fail
          go_roundg (m - (i + 1))
          case rel => exact ⟨i + 1, by omega, rfl, by go_num, Lib.hid ⟨_, _, _, HN3.out⟩⟩
          case measure => have := HGK.out; omega
      · obtain rfl : i = m := by omega
        have hr1 := HQ.out.rr
        have hr2 := HQ.out.ro
        have hi2 := nodeD #[.int .u8 tag, .slice A n c, .slice K' i d'] rfl
        have ho2 : (#[.int .u8 tag, .slice A n c, .slice K' i d'] : Array Value).all (·.oneCell') = true := by simp [Value.oneCell']
        have HE : Hid (kids.take i = kids) := Lib.hid (List.take_of_length_le (by rw [HL.out]; exact Nat.le_refl _))
        have HQ2 : Hid (Gw w0.heap.size w wr g tag A n c K i d K' i d' kids cells) := by
          have h := HQ
          rwa [HE.out] at h
        have o0 : wr.cell? ⟨g + 1 + 1, 0, none⟩ = some (.int .u8 tag) := HQ.out.ro.cell 0
        have o1 : wr.cell? ⟨g + 1 + 1, 1, none⟩ = some (.slice A n c) := HQ.out.ro.cell 1
        have o2 : wr.cell? ⟨g + 1 + 1, 2, none⟩ = some (.slice K' i d') := HQ.out.ro.cell 2
        clear HQ
        go_wp2_with (refine wpList_store_row rfl 26 _ _ rfl (g + 1) _ rfl rfl _ _ hr1 hi2 rfl ho2 ?_)
        refine bodyPost_ret (results_cell_row rfl _ _ (g + 1) _ #[.int .u8 tag, .slice A n c, .slice K' i d'] (0, 0) _ rfl (setRow_heap wr (g + 1) _ _ _ _ hr1) Tryd.underlying26 rfl hi2) rfl ?_
        have hsz : (wr.setRow (g + 1) #[.int .u8 tag, .slice A n c, .slice K' i d']).heap.size = wr.heap.size := by simp [World.setRow]
        refine ⟨_, _, _, rfl, below_setRow HQ2.out.past (by omega) _, fun w'' hw => ?_⟩
        have hbl : ∀ k, k < w0.heap.size ∨ g + 1 + 1 < k → k < wr.heap.size → w''.heap[k]? = wr.heap[k]? := fun k hk hlt2 => by
          have h0 := HW.out.size
          rw [hw k (by rw [hsz]; omega), setRow_other _ (g + 1) _ _ (by omega)]
        refine HQ2.out.kds.node HT.out w'' hbl (Sl.later8 HB.out fun b hb => ?_)
        have h0 := HW.out.size
        have h1 := HQ2.out.past.size
        rw [hbl b (.inl hb) (by omega)]
        exact (HW.out.trans' HQ2.out.past).block b hb

end Go.Proofs.YtdpnfojpeafdhaaDoor
