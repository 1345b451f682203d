/- The reference's reader: a map, over the contract of the level below. -/
import Derived.Test.YtmhgpdfllpgjpaaDoorKidX10
import Derived.Test.YtmhgpdfllpgjpaaDoorRd10M
import Derived.BigQuiet
import Derived.Deep.QuietTactic
import Derived.Deep.RegionLaw
import Derived.Deep.RegionHeld3
namespace Go.Proofs.YtmhgpdfllpgjpaaDoor
open Go.RowKit
set_option linter.unusedVariables false

set_option maxHeartbeats 4000000 in
set_option maxRecDepth 100000 in
theorem read_map (w : World) (b o n c p : Nat) (xs : List Int) (x : Int) (k l : Nat) (ab : Int) (hn : n ≤ 1048576) (h : At10 w (some ⟨b, o, none⟩) n c xs p x k l) (hk : k ≤ 5) (hl : l ≤ 27) (hab : ab < 8) (hshort : p + 1 + szOf l ≤ n) (f : Nat) (hab0 : 0 ≤ ab) (hlen : hsz (numAt xs p l) = szOf l) (hk4 : 4 ≤ k) (hk5 : k = 5) (ih : ∀ at1 w1, Past w w1 → at1 ≤ n → Calls Tryd.prog 34 #[.slice (some ⟨b, o, none⟩) n c, .int .i64 (at1 : Int), .int .i64 (ab + 1)] w1 (ReadR (rd xs f at1) w1)) :
    Calls Tryd.prog 34 #[.slice (some ⟨b, o, none⟩) n c, .int .i64 (p : Int), .int .i64 ab] w (ReadR (kidsR xs f k (numAt xs p l) (p + 1 + szOf l)) w) := by
  have HSH := Lib.hid hshort
  clear hshort
  have HLE := Lib.hid hlen
  clear hlen
  have HIH := Lib.hid ih
  clear ih
  have HK5 := Lib.hid hk5
  clear hk5
  obtain ⟨b', o', eA, hc⟩ := h.sl.bytes (by have := h.lt; omega)
  obtain ⟨rfl, rfl⟩ : b = b' ∧ o = o' := by
    simp only [Option.some.injEq, Addr.mk.injEq] at eA
    exact ⟨eA.1, eA.2.1⟩
  have g0 := hc p h.lt
  rw [h.byte] at g0
  have hlt := h.lt
  have hx := h.rng
  have hdv := h.div
  have hmd := h.mod
  have hp0 : (0 : Int) ≤ (p : Int) := by omega
  have hpn : (p : Int) < (n : Int) := by omega
  have hpp : ¬ (n : Int) ≤ (p : Int) := by omega
  have hxw : IntKind.i64.wrap x = x := IntWalk.i64_in _ (by omega)
  have hk2 : ¬ (5 : Int) < (k : Int) := by omega
  have hl2 : ¬ (27 : Int) < (l : Int) := by omega
  have hab2 : ¬ (8 : Int) ≤ ab := by omega
  have hkw : wrap64 (k : Int) = (k : Int) := IntWalk.wrap64_in _ (by omega)
  have H := Lib.hid h
  have HC := Lib.hid hc
  have g1 : (w.alloc (.cells #[.int .i64 0, .int .u64 0, .slice none 0 0, .slice none 0 0, .int .i64 0, .int .i64 0, .int .i64 0] 36)).cell? ⟨b, o + p, none⟩ = some (.int .u8 x) := by
    rw [Below.cell (past_alloc8 w _) (cell_lt g0)]
    exact g0
  clear h hc eA
  go_enter Tryd.func34, Tryd.ntmps34
  go_upto_if 52 with (fail)
  try rw [hkw]
  obtain ⟨w1, hw1⟩ : ∃ w1, w1 = w.alloc (.cells #[.int .i64 0, .int .u64 0, .slice none 0 0, .slice none 0 0, .int .i64 0, .int .i64 0, .int .i64 0] 36) := ⟨_, rfl⟩
  have HW1 : Hid (Past w w1 ∧ Row w1 w.heap.size 36 zero7) := by
    rw [hw1]
    exact ⟨past_alloc8 _ _, Row.new _ _ _⟩
  rw [← hw1]
  obtain ⟨g, hg⟩ : ∃ g, w.heap.size = g := ⟨_, rfl⟩
  have HG : Hid (w.heap.size ≤ g) := Lib.hid (by omega)
  rw [hg] at HW1 ⊢
  clear hg hw1 g0 g1 hxw hkw
  have HSZ : Hid (szOf l ≤ 8) := Lib.hid (szOf_le l)
  obtain ⟨s, hs⟩ : ∃ s, szOf l = s := ⟨_, rfl⟩
  have HS := Lib.hid hs
  go_cut [9, 10] (fun s9 s10 wx => s9 = .int .i64 (s : Int) ∧ s10 = .int .u64 (zI xs p l 0) ∧ Hid (Past w wx ∧ Row wx g 36 zero7))
  case first =>
    by_cases hl24 : l < 24
    · have hb : ¬ (24 : Int) ≤ (l : Int) := by omega
      have hz : zI xs p l 0 = (l : Int) := by unfold zI; rw [if_pos hl24]
      have hs0 : (s : Int) = 0 := by rw [← hs]; unfold szOf; rw [if_pos hl24]; rfl
      have HZ := Lib.hid (And.intro hz hs0)
      clear hz hs0 hs
      go_wp2_with fail
      go_meet
      case rel => exact ⟨by rw [HZ.out.2], by rw [HZ.out.1], HW1⟩
    · have hb : (24 : Int) ≤ (l : Int) := by omega
      have hz : zI xs p l 0 = 0 := by unfold zI; rw [if_neg hl24]; rfl
      obtain ⟨j, rfl⟩ : ∃ j, l = 24 + j := ⟨l - 24, by omega⟩
      have hj : j < 4 := by omega
      have hsub : ((24 + j : Nat) : Int) - 24 = (j : Int) := by omega
      have hw2 : IntKind.i64.wrap (((24 + j : Nat) : Int) - 24) = (j : Int) := by rw [IntKind.wrap_i64]; omega
      have hj0 : (0 : Int) ≤ (j : Int) := by omega
      have hj4 : (j : Int) < 4 := by omega
      have hcell : (w1.alloc (.cells #[.int .i64 1, .int .i64 2, .int .i64 4, .int .i64 8] 3)).cell? ⟨w1.heap.size, j, none⟩ = some (.int .i64 (s : Int)) := by
        rw [(Row.new w1 3 _).cell, ← hs]
        obtain rfl | rfl | rfl | rfl : j = 0 ∨ j = 1 ∨ j = 2 ∨ j = 3 := by omega
        all_goals rfl
      have HZ := Lib.hid hz
      have HW2 : Hid (Past w (w1.alloc (.cells #[.int .i64 1, .int .i64 2, .int .i64 4, .int .i64 8] 3)) ∧ Row (w1.alloc (.cells #[.int .i64 1, .int .i64 2, .int .i64 4, .int .i64 8] 3)) g 36 zero7) :=
        Lib.hid ⟨HW1.out.1.trans' (past_alloc8 _ _), HW1.out.2.past (past_alloc8 _ _)⟩
      clear hz hs hl24
      go_wp2_with fail
      go_meet
      case rel => exact ⟨rfl, by rw [HZ.out], HW2⟩
  case rest =>
    obtain ⟨rfl, rfl, HW⟩ := hcut
    have hs8 : s ≤ 8 := by rw [← hs]; exact szOf_le l
    have HN : Hid (zI xs p l s = (numAt xs p l : Int)) := Lib.hid (by rw [← hs]; exact zI_num xs H.out.sl.rng p l)
    have hnb := num_bd xs H.out.sl.rng p l
    have hshort := HSH.out
    rw [hs] at hshort
    have hw3 : IntKind.i64.wrap ((p : Int) + 1) = (p : Int) + 1 := by rw [IntKind.wrap_i64]; omega
    have hw4 : IntKind.i64.wrap ((p : Int) + 1 + (s : Int)) = (p : Int) + 1 + (s : Int) := by rw [IntKind.wrap_i64]; omega
    have hl1 : ¬ (n : Int) < (p : Int) + 1 + (s : Int) := by omega
    have HL24 : Hid (0 < s → ¬ l < 24) := Lib.hid (fun h0 h1 => by
      rw [← hs] at h0
      unfold szOf at h0
      rw [if_pos h1] at h0
      omega)
    have HHD : Hid (∀ w, Calls Tryd.prog 26 #[.int .i64 0, .int .u64 (numAt xs p l : Int)] w (HeadP (headB 0 (numAt xs p l)) w)) := Lib.hid (fun w => rhead_any 0 (numAt xs p l) (by omega) hnb w)
    go_wp2_with fail
    go_loopg [10, 12] s (fun q s10 s12 wx => ∃ i : Nat, i ≤ s ∧ q = s - i ∧ s10 = .int .u64 (zI xs p l i) ∧ s12 = .int .i64 (i : Int) ∧ Hid (wx = wc))
    case atStart => exact ⟨0, Nat.zero_le _, rfl, rfl, rfl, Lib.hid rfl⟩
    case round =>
      obtain ⟨i, hi, hgk, rfl, rfl, HO⟩ := hrel
      have HGK := Lib.hid hgk
      clear hgk
      by_cases hlt2 : i < s
      · have hcell : wr.cell? ⟨b, o + (p + 1 + i), none⟩ = some (.int .u8 (xs.getD (p + 1 + i) 0)) := by
          have h := HC.out (p + 1 + i) (by omega)
          rw [HO.out, Below.cell HW.out.1 (cell_lt h)]
          exact h
        have hrg : 0 ≤ xs.getD (p + 1 + i) 0 ∧ xs.getD (p + 1 + i) 0 < 256 := H.out.sl.rng _ (by rw [List.getD_eq_getElem?_getD, List.getElem?_eq_getElem (by rw [H.out.sl.len]; omega)]; exact List.getElem_mem _)
        have hzb := zI_bd xs H.out.sl.rng p l i (HL24.out (by omega))
        have hz7 : zI xs p l i < 72057594037927936 := by
          have h4 : (256 : Int) ^ i ≤ 256 ^ 7 := p256' (by omega)
          omega
        have HST : Hid (zI xs p l (i + 1) = zI xs p l i * 256 + xs.getD (p + 1 + i) 0) := Lib.hid (zI_step xs p l i (HL24.out (by omega)) (by rw [H.out.sl.len]; omega))
        obtain ⟨y, hy⟩ : ∃ y, xs.getD (p + 1 + i) 0 = y := ⟨_, rfl⟩
        rw [hy] at hcell hrg HST
        obtain ⟨hy0, hy1⟩ := hrg
        have hz0 := hzb.1
        clear hy hzb
        generalize zI xs p l i = z at *
        have hi0 : (0 : Int) ≤ (i : Int) := by omega
        have hpi : (p : Int) + 1 + (i : Int) < (n : Int) := by omega
        have hpi0 : (0 : Int) ≤ (p : Int) + 1 + (i : Int) := by omega
        have hti : ((p : Int) + 1 + (i : Int)).toNat = p + 1 + i := by omega
        have hw5 : IntKind.i64.wrap ((p : Int) + 1 + (i : Int)) = (p : Int) + 1 + (i : Int) := by rw [IntKind.wrap_i64]; omega
        have hii : (i : Int) < (s : Int) := by omega
        go_wp2_with fail
        go_roundg (s - (i + 1))
        case rel => exact ⟨i + 1, by omega, rfl, by rw [HST.out], by go_num, HO⟩
        case measure => have := HGK.out; omega
      · obtain rfl : i = s := by omega
        have hwr := HO.out
        subst hwr
        rw [HN.out]
        generalize hnm : numAt xs p l = nm at *
        have hlen := HLE.out
        rw [hs] at hlen
        have hneb : (1 + (hsz nm : Int) != 1 + (i : Int)) = false := by simp; omega
        have hln := headB_len 0 nm
        clear hlen
        generalize hsz nm = z at *
        go_wp2_with fail
        refine (HHD.out _).mono ?_
        rintro e w2 ⟨NA, nc, rfl, _, hp⟩
        rw [hln]
        have HW2 : Hid (Past w w2 ∧ Row w2 g 36 zero7) := Lib.hid ⟨HW.out.1.trans' hp, HW.out.2.past hp⟩
        clear hp
        have hkb : ¬ (k : Int) < 2 := by omega
        have hkb4 : ¬ (k : Int) < 4 := by omega
        obtain ⟨nx, hnx⟩ : ∃ nx, p + 1 + i = nx := ⟨_, rfl⟩
        have hnxi : (p : Int) + 1 + (i : Int) = (nx : Int) := by omega
        have HNX : Hid (p + 1 + szOf l = nx) := Lib.hid (by rw [HS.out]; exact hnx)
        have hnxn : nx ≤ n := by omega
        first | rw [hnx] | rw [HNX.out]
        obtain ⟨w3, hw3⟩ : ∃ w3, w3 = w2.alloc (.cells #[.int .i64 (k : Int), .int .u64 0, .slice none 0 0, .slice none 0 0] 34) := ⟨_, rfl⟩
        have HW3 : Hid (Past w2 w3 ∧ Past w w3 ∧ Row w3 g 36 zero7 ∧ Row w3 w2.heap.size 34 #[.int .i64 (k : Int), .int .u64 0, .slice none 0 0, .slice none 0 0] ∧ g < w2.heap.size) := by
          have hp : Past w2 w3 := by rw [hw3]; exact past_alloc8 _ _
          refine Lib.hid ⟨hp, HW2.out.1.trans' hp, HW2.out.2.past hp, ?_, HW2.out.2.lt⟩
          rw [hw3]
          exact Row.new _ _ _
        have HW3e := Lib.hid hw3
        have HLB : Hid (∀ f p t e, rd xs f p = .good t e → p < e ∧ e ≤ n ∧ shp t = true ∧ kok t = true ∧ cnt t ≤ 1000000000 ∧ (txt t).length ≤ 10000000) := Lib.hid (fun f p t e h => by
          have := rd_short xs H.out.sl.rng (by rw [H.out.sl.len]; exact hn) h
          rw [H.out.sl.len] at this
          exact this)
        clear hw3 hs
        go_upto_region 37 with (fail)
        rw [← HW3e.out]
        generalize w2.heap.size = q at *
        have H3 : Hid (Kw xs f k w w3 g q nm nx n 0 nx 0 none 0 [] []) :=
          Lib.hid ⟨by simp, HW3.out.2.1, HW3.out.2.2.1, HW3.out.2.2.2.1, Kds.nil _ _ _, HW3.out.2.2.2.2, Nat.zero_le _, hnxn, fun j hj => absurd hj (Nat.not_lt_zero _)⟩
        have hwq : Hid (w.heap.size ≤ g) := HG
        clear HW HW3 HS H HC HW1 HHD HN HL24 HSZ HW2 HW3e
        try clear hx
        try clear hdv
        try clear hmd
        try clear hp0
        try clear hpn
        try clear hpp
        try clear hlt
        try clear hl2
        try clear hw3
        try clear hw4
        try clear hl1
        try clear hneb
        try clear hln
        try clear hs8
        try clear hlt2
        try clear hnxi
        try clear hk2
        try clear hl
        try clear hnm
        go_wp2_with fail
        go_loopg [11, 15, 16, 17] nm (fun kk s11 s15 s16 s17 wx => ∃ (i' nx' m d : Nat) (K : Option Addr) (kids : List T) (cells : List Value), i' ≤ nm ∧ Hid (m = 2 * i') ∧ kk = nm - i' ∧ s11 = .int .i64 (nx' : Int) ∧ s15 = .int .u64 (i' : Int) ∧ Hid (Kw xs f k w wx g q nm nx n i' nx' m K d kids cells))
        case atStart => exact ⟨0, nx, 0, 0, none, [], [], Nat.zero_le _, Lib.hid rfl, rfl, rfl, rfl, H3⟩
        case round =>
          clear H3
          obtain ⟨i', nx', m, d, K, kids, cells, hi', HM, hgk, rfl, rfl, HK⟩ := hrel
          have HGK := Lib.hid hgk
          clear hgk
          by_cases hlt5 : i' < nm
          · have hii : (i' : Int) < (nm : Int) := by omega
            have hnxb := HK.out.nn
            have hmn := HK.out.mn
            have hab1 : IntKind.i64.wrap (ab + 1) = ab + 1 := by rw [IntKind.wrap_i64]; omega
            have HCC := Lib.hid (HIH.out nx' wr HK.out.past hnxb)
            have hk5 : ((k : Int) == 5) = true := by have := HK5.out; simp; omega
            have hk5n : (k == 5) = true := by have := HK5.out; simp; omega
            have HKB := Lib.hid hk5n
            clear hk5n
            cases hq : rd xs f nx' with
            | bad c0 a0 =>
              rw [hq] at HCC
              have hc0 := rd_err xs f nx' c0 a0 hq
              have HITER : Hid (itemsR (rd xs f) (k == 5) (nm - i') nx' kids = .inl (c0, a0)) := Lib.hid (by
                rw [show nm - i' = (nm - (i' + 1)) + 1 by omega]
                unfold itemsR
                rw [hq])
              have HQ : Hid (kidsR xs f k nm nx = .bad c0 a0) := Lib.hid (by
                unfold kidsR
                rw [HK.out.same, HITER.out])
              have hcb : ((c0 : Int) != 0) = true := by simp; omega
              clear hq
              go_wp2_with fail
              refine HCC.out.mono ?_
              rintro e w4 ⟨rfl, hp⟩
              unfold badV
              have hn3 := heap_alloc_new w4 (.cells zero7 36)
              have hi2 := res_size (err7 c0 a0) rfl
              have ho2 : (err7 c0 a0).all (·.oneCell') = true := by simp [err7, Value.oneCell']
              obtain ⟨w5, hw5⟩ : ∃ w5, w5 = w4.alloc (.cells (err7 c0 a0) 36) := ⟨_, rfl⟩
              have H5 : Hid (Past w w5 ∧ Row w5 g 36 zero7 ∧ Row w5 w4.heap.size 36 (err7 c0 a0)) := by
                have hp4 : Past wr w5 := by rw [hw5]; exact hp.trans' (past_alloc8 _ _)
                refine Lib.hid ⟨HK.out.past.trans' hp4, HK.out.rg.past hp4, ?_⟩
                rw [hw5]
                exact Row.new _ _ _
              have k5 : w5.cell? ⟨w4.heap.size, 5, none⟩ = some (.int .i64 (c0 : Int)) := H5.out.2.2.cell 5
              have hr4 := H5.out.2.2
              have hrg := H5.out.2.1
              have HW5 := Lib.hid hw5
              clear hw5 hp HK
              go_wp2_with (first
                | (refine wpList_store_row rfl 36 _ _ rfl w4.heap.size _ rfl rfl _ _ hn3 hi2 rfl ho2 ?_; rw [World.setRow_alloc_new, ← HW5.out])
                | (refine wpList_load_row rfl 36 _ rfl w4.heap.size rfl _ _ (0, 0) _ hr4 Tryd.underlying36 rfl hi2 ?_)
                | (refine wpList_store_row rfl 36 _ _ rfl g _ rfl rfl _ _ hrg hi2 rfl ho2 ?_))
              refine bodyPost_ret (results_cell_row rfl _ _ g _ (err7 c0 a0) (0, 0) _ rfl (setRow_heap w5 g _ _ _ _ hrg) Tryd.underlying36 rfl hi2) rfl ?_
              try rw [HNX.out]
              rw [HQ.out]
              exact ⟨rfl, below_setRow H5.out.1 HG.out _⟩
            | good t e1 =>
              rw [hq] at HCC
              have hb1 := HLB.out f nx' t e1 hq
              obtain ⟨bd, hbd⟩ : ∃ bd, bd = (decide (0 < i') && !(befB (txt (kids.getD (m - 2) default)) (txt t))) := ⟨_, rfl⟩
              have HBD := Lib.hid hbd
              have HB1 := Lib.hid hb1
              have HE1 := Lib.hid hq
              have he1 : e1 ≤ n := hb1.2.1
              have hnx1 : nx' < e1 := hb1.1
              clear hq hbd hb1
              go_wp2_with fail
              refine HCC.out.mono ?_
              rintro e w4 ⟨x4, y4, z4, u4, rfl, hlv, hp⟩
              obtain ⟨kt, kn, kA, kln, kc, kK, km, kd, rfl, rfl, rfl, rfl⟩ := (hlv w4 (fun _ _ _ => rfl)).shape
              have hn3 := heap_alloc_new w4 (.cells zero7 36)
              have hi2 := res_size #[.int .i64 kt, .int .u64 kn, .slice kA kln kc, .slice kK km kd, .int .i64 (e1 : Int), .int .i64 0, .int .i64 0] rfl
              have ho2 : (#[.int .i64 kt, .int .u64 kn, .slice kA kln kc, .slice kK km kd, .int .i64 (e1 : Int), .int .i64 0, .int .i64 0] : Array Value).all (·.oneCell') = true := by simp [Value.oneCell']
              obtain ⟨w5, hw5⟩ : ∃ w5, w5 = w4.alloc (.cells #[.int .i64 kt, .int .u64 kn, .slice kA kln kc, .slice kK km kd, .int .i64 (e1 : Int), .int .i64 0, .int .i64 0] 36) := ⟨_, rfl⟩
              have hp5 : Past w4 w5 := by rw [hw5]; exact past_alloc8 _ _
              have hr5 : Row w5 w4.heap.size 36 #[.int .i64 kt, .int .u64 kn, .slice kA kln kc, .slice kK km kd, .int .i64 (e1 : Int), .int .i64 0, .int .i64 0] := by rw [hw5]; exact Row.new _ _ _
              have H5 : Hid (Past wr w4 ∧ Past w4 w5 ∧ Row w5 w4.heap.size 36 #[.int .i64 kt, .int .u64 kn, .slice kA kln kc, .slice kK km kd, .int .i64 (e1 : Int), .int .i64 0, .int .i64 0] ∧ Row w5 q 34 #[.int .i64 (k : Int), .int .u64 0, .slice none 0 0, .slice K m d] ∧ wr.heap.size ≤ w4.heap.size) := Lib.hid ⟨hp, hp5, hr5, HK.out.rq.past (hp.trans' hp5), hp.size⟩
              have HLV := Lib.hid hlv
              have k5 : w5.cell? ⟨w4.heap.size, 5, none⟩ = some (.int .i64 0) := hr5.cell 5
              have kq : w5.cell? ⟨q, 3, none⟩ = some (.slice K m d) := H5.out.2.2.2.1.cell 3
              have HW5 := Lib.hid hw5
              clear hw5 hp hp5 hr5 hlv
              go_wp2_with (first
                | (refine wpList_store_row rfl 36 _ _ rfl w4.heap.size _ rfl rfl _ _ hn3 hi2 rfl ho2 ?_; rw [World.setRow_alloc_new, ← HW5.out]))
              clear hn3 hi2 ho2 HW5 k5
              obtain ⟨rr, hrr⟩ : ∃ rr, w4.heap.size = rr := ⟨_, rfl⟩
              have HRR := Lib.hid hrr
              rw [hrr] at H5 ⊢
              clear hrr
              go_cut [193] (fun s193 wx => s193 = .bool bd ∧ Hid (Past w5 wx))
              case first =>
                by_cases hi0 : i' = 0
                · have hbf : bd = false := by rw [HBD.out, hi0]; rfl
                  have hg0 : ¬ (0 : Int) < (i' : Int) := by omega
                  have hg1 : decide ((0 : Int) < (i' : Int)) = false := decide_eq_false hg0
                  have hg2 : decide (0 < i') = false := decide_eq_false (by omega)
                  have hg3 : ¬ 0 < i' := by omega
                  have HBF := Lib.hid hbf
                  clear hbf hi0
                  go_quiet (fail)
                  go_wp2_with fail
                  go_meet
                  case rel => exact ⟨by rw [HBF.out], Lib.hid (Past.drewN (Below.refl _ _) _)⟩
                · have hi0p : 0 < i' := by omega
                  have hgi : (0 : Int) < (i' : Int) := by omega
                  have hM := HM.out
                  obtain ⟨j, hj⟩ : ∃ j, j + 2 = m := ⟨m - 2, by omega⟩
                  have hjm : j < m := by omega
                  have hm8 : m ≤ 1048576 := by omega
                  have hsub : IntKind.i64.wrap ((m : Int) - 2) = (j : Int) := by rw [IntWalk.i64_in _ (by omega)]; omega
                  have hj0 : (0 : Int) ≤ (j : Int) := by omega
                  have hjm2 : (j : Int) < (m : Int) := by omega
                  have hkx := (HK.out.kds.x (r := rr) H5.out.2.2.2.2).later (H5.out.1.trans' H5.out.2.1)
                  obtain ⟨x', y', z', u', c0, c1, c2, c3, hin⟩ := hkx.kid hjm w5 (fun _ _ _ _ => rfl)
                  obtain ⟨jt, jn, jA, jln, jc, jK, jm, jd, rfl, rfl, rfl, rfl⟩ := hin.shape
                  obtain ⟨kb, rfl⟩ : ∃ kb, K = some ⟨kb, 0, none⟩ := by
                    rcases hkx.own.2 with ⟨h1, h2⟩ | ⟨g', cap, cur, e1', _⟩
                    · injection h1 with a1 a2 a3
                      omega
                    · injection e1' with a1 a2 a3
                      exact ⟨g', a1⟩
                  have hcl : ∀ jj u, cells[jj]? = some u → w5.cell? ⟨kb, 0 + jj, none⟩ = some u := fun jj u h => by
                    have h1 := hkx.own.cells (g := kb) rfl jj u h
                    rw [add_none] at h1
                    exact h1
                  have d0 := hcl _ _ c0
                  have d1 := hcl _ _ c1
                  have d2 := hcl _ _ c2
                  have d3 := hcl _ _ c3
                  rw [← Nat.add_assoc] at d1 d2 d3
                  have hq3 : w5.cell? ⟨q, 3, none⟩ = some (.slice (some ⟨kb, 0, none⟩) m d) := H5.out.2.2.2.1.cell 3
                  obtain ⟨ko, hko⟩ : ∃ ko, ko = 0 := ⟨0, rfl⟩
                  rw [← hko] at d0 d1 d2 d3 hq3
                  have e0 : w5.cell? ⟨rr, 0, none⟩ = some (.int .i64 kt) := H5.out.2.2.1.cell 0
                  have e1' : w5.cell? ⟨rr, 1, none⟩ = some (.int .u64 kn) := H5.out.2.2.1.cell 1
                  have e2' : w5.cell? ⟨rr, 2, none⟩ = some (.slice kA kln kc) := H5.out.2.2.1.cell 2
                  have e3' : w5.cell? ⟨rr, 3, none⟩ = some (.slice kK km kd) := H5.out.2.2.1.cell 3
                  have HSK : Hid (∀ w', Past w5.drew w' → w'.cell? ⟨q, 3, none⟩ = some (.slice (some ⟨kb, ko, none⟩) m d) ∧ w'.cell? ⟨kb, ko + j * 4, none⟩ = some (.int .i64 jt) ∧ w'.cell? ⟨kb, ko + j * 4 + 1, none⟩ = some (.int .u64 jn) ∧ w'.cell? ⟨kb, ko + j * 4 + 2, none⟩ = some (.slice jA jln jc) ∧ w'.cell? ⟨kb, ko + j * 4 + 3, none⟩ = some (.slice jK jm jd) ∧ w'.cell? ⟨rr, 0, none⟩ = some (.int .i64 kt) ∧ w'.cell? ⟨rr, 1, none⟩ = some (.int .u64 kn) ∧ w'.cell? ⟨rr, 2, none⟩ = some (.slice kA kln kc) ∧ w'.cell? ⟨rr, 3, none⟩ = some (.slice kK km kd)) := Lib.hid (fun w' hp => by
                    have hp' : Past w5 w' := Past.trans' (Past.drewN (Below.refl _ w5) 1) hp
                    exact ⟨(hp'.cell (cell_lt hq3)).trans hq3, (hp'.cell (cell_lt d0)).trans d0, (hp'.cell (cell_lt d1)).trans d1, (hp'.cell (cell_lt d2)).trans d2, (hp'.cell (cell_lt d3)).trans d3, (hp'.cell (cell_lt e0)).trans e0, (hp'.cell (cell_lt e1')).trans e1', (hp'.cell (cell_lt e2')).trans e2', (hp'.cell (cell_lt e3')).trans e3'⟩)
                  have hsj := HK.out.sh j hjm
                  have HB5 : Hid (Past w5 w5.drew) := Lib.hid (Past.drewN (Below.refl _ w5) 1)
                  have HCJ := Lib.hid (fun wx (hp : Past w5 wx) => rcode_any hin wx hp hsj.2.1 hsj.2.2 hsj.1)
                  have hin2 : InM w5 (.agg #[.int .i64 kt, .int .u64 kn, .slice kA kln kc, .slice kK km kd]) t := HLV.out w5 fun kk h1 h2 => H5.out.2.1.block kk h2
                  have HCI := Lib.hid (fun wx (hp : Past w5 wx) => rcode_any hin2 wx hp HB1.out.2.2.2.2.1 HB1.out.2.2.2.2.2 HB1.out.2.2.2.1)
                  have HBE : Hid (∀ (A1 A2 : Option Addr) (c1 c2 : Nat) (wx : World), Sl wx A1 (txt (kids.getD j default)).length c1 (txt (kids.getD j default)) → Sl wx A2 (txt t).length c2 (txt t) → _) := Lib.hid (fun A1 A2 c1 c2 wx h1 h2 => rbefore_any A1 A2 _ _ c1 c2 _ _ wx h1 h2)
                  have HBD2 : Hid (bd = !(befB (txt (kids.getD j default)) (txt t))) := Lib.hid (by rw [HBD.out, show m - 2 = j by omega, decide_eq_true hi0p, Bool.true_and])
                  clear hkx c0 c1 c2 c3 d0 d1 d2 d3 hcl hin hin2 hsj e0 e1' e2' e3' hko hi0 hM hj kq hq3 HLV
                  generalize txt (kids.getD j default) = tj at *
                  generalize txt t = ti at *
                  cases hbf : befB tj ti with
                  | false =>
                    rw [hbf] at HBD2
                    simp only [hbf] at HBE
                    have HBD3 := Lib.hid HBD2.out
                    clear hbf
                    first | (go_region_held3 (fun w' => w'.cell? ⟨q, 3, none⟩ = some (.slice (some ⟨kb, ko, none⟩) m d) ∧ w'.cell? ⟨kb, ko + j * 4, none⟩ = some (.int .i64 jt) ∧ w'.cell? ⟨kb, ko + j * 4 + 1, none⟩ = some (.int .u64 jn) ∧ w'.cell? ⟨kb, ko + j * 4 + 2, none⟩ = some (.slice jA jln jc) ∧ w'.cell? ⟨kb, ko + j * 4 + 3, none⟩ = some (.slice jK jm jd) ∧ w'.cell? ⟨rr, 0, none⟩ = some (.int .i64 kt) ∧ w'.cell? ⟨rr, 1, none⟩ = some (.int .u64 kn) ∧ w'.cell? ⟨rr, 2, none⟩ = some (.slice kA kln kc) ∧ w'.cell? ⟨rr, 3, none⟩ = some (.slice kK km kd))
                      (first
                      | exact HSK.out _ HP5.out
                      | exact HSK.out _ HP4.out
                      | exact HSK.out _ HP3.out
                      | exact HSK.out _ (Below.refl _ w5.drew))
                      (first
                      | (go_at_call 21; (with_reducible refine (HCJ.out _ HB5.out).mono ?_); rintro e3 a3 ⟨A3, c3, rfl, hs3, hp3⟩; have HP3 : Hid (Past w5.drew a3) := Lib.hid hp3; have HA3 := Lib.hid hs3; clear hp3 hs3)
                      | (go_at_call 21; (with_reducible refine (HCI.out _ (Past.trans' HB5.out HP3.out)).mono ?_); rintro e4 a4 ⟨A4, c4, rfl, hs4, hp4⟩; have HB3 := Lib.hid (HA3.out.past hp4); have HP4 : Hid (Past w5.drew a4) := Lib.hid (Past.trans' HP3.out hp4); have HA4 := Lib.hid hs4; clear hp4 hs4)
                      | (go_at_call 50; (with_reducible refine (HBE.out _ _ _ _ _ HB3.out HA4.out).mono ?_); rintro e5 a5 ⟨rfl, m5, rfl⟩; have HP5 : Hid (Past w5.drew (a4.drewN m5)) := Lib.hid (Past.drewN HP4.out m5)))) | fail
                    all_goals
                      go_wp2_with fail
                      go_meet
                      case rel => exact ⟨by rw [HBD2.out]; rfl, Lib.hid (Past.trans' HB5.out HP5.out)⟩
                  | true =>
                    rw [hbf] at HBD2
                    simp only [hbf] at HBE
                    clear hbf
                    first | (go_region_held3 (fun w' => w'.cell? ⟨q, 3, none⟩ = some (.slice (some ⟨kb, ko, none⟩) m d) ∧ w'.cell? ⟨kb, ko + j * 4, none⟩ = some (.int .i64 jt) ∧ w'.cell? ⟨kb, ko + j * 4 + 1, none⟩ = some (.int .u64 jn) ∧ w'.cell? ⟨kb, ko + j * 4 + 2, none⟩ = some (.slice jA jln jc) ∧ w'.cell? ⟨kb, ko + j * 4 + 3, none⟩ = some (.slice jK jm jd) ∧ w'.cell? ⟨rr, 0, none⟩ = some (.int .i64 kt) ∧ w'.cell? ⟨rr, 1, none⟩ = some (.int .u64 kn) ∧ w'.cell? ⟨rr, 2, none⟩ = some (.slice kA kln kc) ∧ w'.cell? ⟨rr, 3, none⟩ = some (.slice kK km kd))
                      (first
                      | exact HSK.out _ HP5.out
                      | exact HSK.out _ HP4.out
                      | exact HSK.out _ HP3.out
                      | exact HSK.out _ (Below.refl _ w5.drew))
                      (first
                      | (go_at_call 21; (with_reducible refine (HCJ.out _ HB5.out).mono ?_); rintro e3 a3 ⟨A3, c3, rfl, hs3, hp3⟩; have HP3 : Hid (Past w5.drew a3) := Lib.hid hp3; have HA3 := Lib.hid hs3; clear hp3 hs3)
                      | (go_at_call 21; (with_reducible refine (HCI.out _ (Past.trans' HB5.out HP3.out)).mono ?_); rintro e4 a4 ⟨A4, c4, rfl, hs4, hp4⟩; have HB3 := Lib.hid (HA3.out.past hp4); have HP4 : Hid (Past w5.drew a4) := Lib.hid (Past.trans' HP3.out hp4); have HA4 := Lib.hid hs4; clear hp4 hs4)
                      | (go_at_call 50; (with_reducible refine (HBE.out _ _ _ _ _ HB3.out HA4.out).mono ?_); rintro e5 a5 ⟨rfl, m5, rfl⟩; have HP5 : Hid (Past w5.drew (a4.drewN m5)) := Lib.hid (Past.drewN HP4.out m5)))) | fail
                    all_goals
                      go_wp2_with fail
                      go_meet
                      case rel => exact ⟨by rw [HBD2.out]; rfl, Lib.hid (Past.trans' HB5.out HP5.out)⟩
              case rest =>
                obtain ⟨rfl, HP6⟩ := hcut
                have hmm := HM.out
                have hgq := HK.out.gq
                have hwg := HG.out
                have hqs := HK.out.rq.lt
                have hsz := H5.out.2.2.2.2
                have hrl := H5.out.2.2.1.lt
                have HPC : Hid (Past wr wc) := Lib.hid (Past.trans' (H5.out.1.trans' H5.out.2.1) HP6.out)
                cases bd with
                | true =>
                  have HITER : Hid (itemsR (rd xs f) (k == 5) (nm - i') nx' kids = .inl (7, nx')) := Lib.hid (by
                    have h := HBD.out.symm
                    rw [Bool.and_eq_true, decide_eq_true_iff, Bool.not_eq_true'] at h
                    have hl2 := HK.out.kds.len
                    rw [show nm - i' = (nm - (i' + 1)) + 1 by omega]
                    unfold itemsR
                    rw [HE1.out]
                    simp only
                    rw [if_pos HKB.out, if_pos]
                    refine ⟨fun e => ?_, by rw [hl2]; exact h.2⟩
                    rw [e] at hl2
                    simp at hl2
                    omega)
                  have HQ : Hid (kidsR xs f k nm nx = .bad 7 nx') := Lib.hid (by
                    unfold kidsR
                    rw [HK.out.same, HITER.out])
                  have hi2 := res_size (err7 7 nx') rfl
                  have ho2 : (err7 7 nx').all (·.oneCell') = true := by simp [err7, Value.oneCell']
                  have hr := HK.out.rg.past HPC.out
                  clear hmm
                  go_wp2_with (refine wpList_store_row rfl 36 _ _ rfl g _ rfl rfl _ _ hr hi2 rfl ho2 ?_)
                  refine bodyPost_ret (results_cell_row rfl _ _ g _ (err7 7 nx') (0, 0) _ rfl (setRow_heap wc g _ _ _ _ hr) Tryd.underlying36 rfl hi2) rfl ?_
                  try rw [HNX.out]
                  rw [HQ.out]
                  exact ⟨rfl, below_setRow (HK.out.past.trans' HPC.out) HG.out _⟩
                | false =>
                  have HNB : Hid (¬ (kids ≠ [] ∧ befB (txt (kids.getD (kids.length - 2) default)) (txt t) = false)) := Lib.hid (fun h => by
                    have h0 := HBD.out.symm
                    have hl2 := HK.out.kds.len
                    rw [hl2] at h
                    rw [h.2, Bool.not_false, Bool.and_true, decide_eq_false_iff_not] at h0
                    refine h.1 (List.length_eq_zero_iff.1 ?_)
                    omega)
                  have hr6 : Row wc rr 36 #[.int .i64 kt, .int .u64 kn, .slice kA kln kc, .slice kK km kd, .int .i64 (e1 : Int), .int .i64 0, .int .i64 0] := H5.out.2.2.1.past HP6.out
                  have hq6 : Row wc q 34 #[.int .i64 (k : Int), .int .u64 0, .slice none 0 0, .slice K m d] := H5.out.2.2.2.1.past HP6.out
                  have H6 : Hid (Row wc rr 36 #[.int .i64 kt, .int .u64 kn, .slice kA kln kc, .slice kK km kd, .int .i64 (e1 : Int), .int .i64 0, .int .i64 0] ∧ Row wc q 34 #[.int .i64 (k : Int), .int .u64 0, .slice none 0 0, .slice K m d]) := Lib.hid ⟨hr6, hq6⟩
                  have j0 : wc.cell? ⟨rr, 0, none⟩ = some (.int .i64 kt) := hr6.cell 0
                  have j1 : wc.cell? ⟨rr, 1, none⟩ = some (.int .u64 kn) := hr6.cell 1
                  have j2 : wc.cell? ⟨rr, 2, none⟩ = some (.slice kA kln kc) := hr6.cell 2
                  have j3 : wc.cell? ⟨rr, 3, none⟩ = some (.slice kK km kd) := hr6.cell 3
                  have j4 : wc.cell? ⟨rr, 4, none⟩ = some (.int .i64 (e1 : Int)) := hr6.cell 4
                  have jq : wc.cell? ⟨q, 3, none⟩ = some (.slice K m d) := hq6.cell 3
                  obtain ⟨iN, hiN, hzN, hsN, hbN⟩ := info_parts infoI
                  have hm8 : m ≤ 1048576 := by omega
                  clear hr6 hq6 hmm kq
                  go_wp2_with (at_builtin; refine wpList_append_own_at _ rfl _ _ 32 rfl (q + 1) 34 iN _ 4 64 Tryd.underlying32 hiN hzN hsN hbN rfl (by decide) (.slice K m d) m cells rfl ?b1 ⟨wc.heap.size, 0, none⟩ 1 1 [.int .i64 kt, .int .u64 kn, .slice kA kln kc, .slice kK km kd] rfl rfl (four_cells wc _ _ _ _ _) ?b2 ?b3 ?b4 ?b5 ?_)
                  case b1 => exact (HK.out.kds.later HPC.out).own.alloc _
                  case b2 => simp [Value.oneCell']
                  case b3 => unfold maxLen; omega
                  case b4 => omega
                  case b5 => have := H6.out.2.lt; simp; omega
                  intro v' w7 hown hgrow _ hat
                  obtain ⟨K', d', rfl⟩ := own_slice hown
                  have hol := HK.out.kds.own.lt
                  have hqb : some q ≠ (Value.slice K m d).ownBlock := fun e => by have := (hol q e.symm).1; omega
                  have hgb : some g ≠ (Value.slice K m d).ownBlock := fun e => by have := (hol g e.symm).1; omega
                  have hpb : some rr ≠ (Value.slice K m d).ownBlock := fun e => by have := (hol _ e.symm).2; omega
                  have rq7 : Row w7 q 34 #[.int .i64 (k : Int), .int .u64 0, .slice none 0 0, .slice K m d] := (H6.out.2.alloc _).grown hgrow hqb
                  have rp7 : Row w7 rr 36 #[.int .i64 kt, .int .u64 kn, .slice kA kln kc, .slice kK km kd, .int .i64 (e1 : Int), .int .i64 0, .int .i64 0] := (H6.out.1.alloc _).grown hgrow hpb
                  have kq7 : w7.cell? ⟨q, 3, none⟩ = some (.slice K m d) := rq7.cell 3
                  have kf7 : w7.frozen? ⟨q, 3, none⟩ = false := rq7.fr 3
                  have rp8 := row_setOther rp7 (h := q) (by omega) 3 (.slice K' (m + 1) d')
                  have k48 : (w7.setCell ⟨q, 3, none⟩ (.slice K' (m + 1) d')).cell? ⟨rr, 4, none⟩ = some (.int .i64 (e1 : Int)) := rp8.cell 4
                  have HKD : Hid (Past w (w7.setCell ⟨q, 3, none⟩ (.slice K' (m + 1) d')) ∧ Row (w7.setCell ⟨q, 3, none⟩ (.slice K' (m + 1) d')) g 36 zero7 ∧ Row (w7.setCell ⟨q, 3, none⟩ (.slice K' (m + 1) d')) q 34 #[.int .i64 (k : Int), .int .u64 0, .slice none 0 0, .slice K' (m + 1) d'] ∧ KdsX (w7.setCell ⟨q, 3, none⟩ (.slice K' (m + 1) d')) q rr 34 (.slice K' (m + 1) d') (m + 1) (kids ++ [t]) (cells ++ [.int .i64 kt, .int .u64 kn, .slice kA kln kc, .slice kK km kd]) ∧ Row (w7.setCell ⟨q, 3, none⟩ (.slice K' (m + 1) d')) rr 36 #[.int .i64 kt, .int .u64 kn, .slice kA kln kc, .slice kK km kd, .int .i64 (e1 : Int), .int .i64 0, .int .i64 0]) := by
                    have hpa : Past w (wc.alloc (.cells #[.int .i64 kt, .int .u64 kn, .slice kA kln kc, .slice kK km kd] 34)) := (HK.out.past.trans' HPC.out).trans' (past_alloc8 _ _)
                    have h34 := HP6.out.size
                    refine Lib.hid ⟨Below.setCell (hpa.grown hgrow hpa.size fun kb hk => by have := (hol kb hk).1; omega) (by show _ ≤ q; omega) _,
                      row_setOther (((HK.out.rg.past HPC.out).alloc _).grown hgrow hgb) (by omega) _ _, rq7.set 3 _, ?_, rp8⟩
                    refine KdsX.set (KdsX.push (((HK.out.kds.x (r := rr) hsz).later HPC.out).later (past_alloc8 wc (.cells #[.int .i64 kt, .int .u64 kn, .slice kA kln kc, .slice kK km kd] 34))) (lo := wr.heap.size) (hi := w4.heap.size) hqs (by have := HRR.out; simp; omega) (fun kb hk => (hol kb hk).2) (.inr (by have := HRR.out; omega)) (by simp; omega) (fun w'' hw => HLV.out w'' fun kk h1 h2 => ?_) hown hgrow (by rw [World.size_alloc]; exact hat)) 3 _
                    have h45 := H5.out.2.1.size
                    rw [hw kk h1 h2, (past_alloc8 wc (.cells #[.int .i64 kt, .int .u64 kn, .slice kA kln kc, .slice kK km kd] 34)).block kk (by omega), HP6.out.block kk (by omega), H5.out.2.1.block kk h2]
                  clear hown hgrow hat rq7 rp7 rp8 hol hqb hgb hpb j0 j1 j2 j3 j4 jq HLV H6 hqs hrl hsz
                  have HCC2 := Lib.hid (HIH.out e1 (w7.setCell ⟨q, 3, none⟩ (.slice K' (m + 1) d')) HKD.out.1 he1)
                  cases hq2 : rd xs f e1 with
                  | bad c0 a0 =>
                    rw [hq2] at HCC2
                    have hc0 := rd_err xs f e1 c0 a0 hq2
                    have HITER : Hid (itemsR (rd xs f) (k == 5) (nm - i') nx' kids = .inl (c0, a0)) := Lib.hid (by
                      rw [show nm - i' = (nm - (i' + 1)) + 1 by omega]
                      unfold itemsR
                      rw [HE1.out]
                      simp only
                      rw [if_pos HKB.out, if_neg HNB.out, hq2])
                    have HQ : Hid (kidsR xs f k nm nx = .bad c0 a0) := Lib.hid (by
                      unfold kidsR
                      rw [HK.out.same, HITER.out])
                    have hcb : ((c0 : Int) != 0) = true := by simp; omega
                    clear hq2
                    go_wp2_with fail
                    generalize hw8 : w7.setCell ⟨q, 3, none⟩ (.slice K' (m + 1) d') = w8 at *
                    clear hw8 kq7 kf7
                    refine HCC2.out.mono ?_
                    rintro e w9 ⟨rfl, hp9⟩
                    unfold badV
                    have hi2 := res_size (err7 c0 a0) rfl
                    have ho2 : (err7 c0 a0).all (·.oneCell') = true := by simp [err7, Value.oneCell']
                    have hr9 := HKD.out.2.2.2.2.past hp9
                    obtain ⟨w10, hw10⟩ : ∃ w10, w10 = w9.setRow rr (err7 c0 a0) := ⟨_, rfl⟩
                    have hwr := HK.out.past.size
                    have hrw : w.heap.size ≤ rr := by have := H5.out.2.2.2.2; omega
                    have hgr : g ≠ rr := by have := HK.out.rg.lt; have := H5.out.2.2.2.2; omega
                    have H10 : Hid (Past w w10 ∧ Row w10 g 36 zero7 ∧ Row w10 rr 36 (err7 c0 a0)) := by
                      rw [hw10]
                      refine Lib.hid ⟨below_setRow (HKD.out.1.trans' hp9) hrw _, ?_, setRow_heap w9 rr _ _ _ _ hr9⟩
                      unfold Row
                      rw [setRow_other w9 rr g _ hgr]
                      exact HKD.out.2.1.past hp9
                    have k105 : w10.cell? ⟨rr, 5, none⟩ = some (.int .i64 (c0 : Int)) := H10.out.2.2.cell 5
                    have hr10 := H10.out.2.2
                    have hrg := H10.out.2.1
                    have HW10 := Lib.hid hw10
                    clear hw10 hp9 HKD hwr hrw hgr
                    go_wp2_with (first
                      | (refine wpList_store_row rfl 36 _ _ rfl rr _ rfl rfl _ _ hr9 hi2 rfl ho2 ?_; rw [← HW10.out])
                      | (refine wpList_load_row rfl 36 _ rfl rr rfl _ _ (0, 0) _ hr10 Tryd.underlying36 rfl hi2 ?_)
                      | (refine wpList_store_row rfl 36 _ _ rfl g _ rfl rfl _ _ hrg hi2 rfl ho2 ?_))
                    refine bodyPost_ret (results_cell_row rfl _ _ g _ (err7 c0 a0) (0, 0) _ rfl (setRow_heap w10 g _ _ _ _ hrg) Tryd.underlying36 rfl hi2) rfl ?_
                    try rw [HNX.out]
                    rw [HQ.out]
                    exact ⟨rfl, below_setRow H10.out.1 HG.out _⟩
                  | good v e2 =>
                    rw [hq2] at HCC2
                    have hb2 := HLB.out f e1 v e2 hq2
                    have HITER : Hid (itemsR (rd xs f) (k == 5) (nm - i') nx' kids = itemsR (rd xs f) (k == 5) (nm - (i' + 1)) e2 (kids ++ [t] ++ [v])) := Lib.hid (by
                      rw [show nm - i' = (nm - (i' + 1)) + 1 by omega, List.append_assoc]
                      conv => lhs; unfold itemsR
                      rw [HE1.out]
                      simp only
                      rw [if_pos HKB.out, if_neg HNB.out, hq2]
                      rfl)
                    have HB2 := Lib.hid hb2
                    have he2 : e2 ≤ n := hb2.2.1
                    have he12 : e1 < e2 := hb2.1
                    clear hq2 hb2
                    go_wp2_with fail
                    generalize hw8 : w7.setCell ⟨q, 3, none⟩ (.slice K' (m + 1) d') = w8 at *
                    clear hw8 kq7 kf7
                    refine HCC2.out.mono ?_
                    rintro e w9 ⟨x9, y9, z9, u9, rfl, hlv2, hp9⟩
                    obtain ⟨vt, vn, vA, vln, vc, vK, vm, vd, rfl, rfl, rfl, rfl⟩ := (hlv2 w9 (fun _ _ _ => rfl)).shape
                    have hi2 := res_size #[.int .i64 vt, .int .u64 vn, .slice vA vln vc, .slice vK vm vd, .int .i64 (e2 : Int), .int .i64 0, .int .i64 0] rfl
                    have ho2 : (#[.int .i64 vt, .int .u64 vn, .slice vA vln vc, .slice vK vm vd, .int .i64 (e2 : Int), .int .i64 0, .int .i64 0] : Array Value).all (·.oneCell') = true := by simp [Value.oneCell']
                    have hr9 := HKD.out.2.2.2.2.past hp9
                    obtain ⟨w10, hw10⟩ : ∃ w10, w10 = w9.setRow rr #[.int .i64 vt, .int .u64 vn, .slice vA vln vc, .slice vK vm vd, .int .i64 (e2 : Int), .int .i64 0, .int .i64 0] := ⟨_, rfl⟩
                    have hwr := HK.out.past.size
                    have hrw : w.heap.size ≤ rr := by have := H5.out.2.2.2.2; omega
                    have hgr : g ≠ rr := by have := HK.out.rg.lt; have := H5.out.2.2.2.2; omega
                    have hqr : q ≠ rr := by have := HK.out.rq.lt; have := H5.out.2.2.2.2; omega
                    have H10 : Hid (Past w w10 ∧ Row w10 g 36 zero7 ∧ Row w10 rr 36 #[.int .i64 vt, .int .u64 vn, .slice vA vln vc, .slice vK vm vd, .int .i64 (e2 : Int), .int .i64 0, .int .i64 0] ∧ Row w10 q 34 #[.int .i64 (k : Int), .int .u64 0, .slice none 0 0, .slice K' (m + 1) d'] ∧ KdsX w10 q rr 34 (.slice K' (m + 1) d') (m + 1) (kids ++ [t]) (cells ++ [.int .i64 kt, .int .u64 kn, .slice kA kln kc, .slice kK km kd]) ∧ w10.heap.size = w9.heap.size ∧ rr < w8.heap.size ∧ w8.heap.size ≤ w9.heap.size ∧ q < w8.heap.size ∧ (∀ kb, (Value.slice K' (m + 1) d').ownBlock = some kb → q + 1 ≤ kb ∧ kb < w8.heap.size ∧ kb ≠ rr) ∧ (∀ kk, kk ≠ rr → w10.heap[kk]? = w9.heap[kk]?)) := by
                      rw [hw10]
                      refine Lib.hid ⟨below_setRow (HKD.out.1.trans' hp9) hrw _, ?_, setRow_heap w9 rr _ _ _ _ hr9, ?_, (HKD.out.2.2.2.1.later hp9).beside _, by simp [World.setRow], HKD.out.2.2.2.2.lt, hp9.size, HKD.out.2.2.1.lt, fun kb hk => ⟨(HKD.out.2.2.2.1.own.lt kb hk).1, (HKD.out.2.2.2.1.own.lt kb hk).2, HKD.out.2.2.2.1.ne kb hk⟩, fun kk hk => setRow_other w9 rr kk _ hk⟩
                      · unfold Row
                        rw [setRow_other w9 rr g _ hgr]
                        exact HKD.out.2.1.past hp9
                      · unfold Row
                        rw [setRow_other w9 rr q _ hqr]
                        exact HKD.out.2.2.1.past hp9
                    have hr10 := H10.out.2.2.1
                    have l0 : w10.cell? ⟨rr, 0, none⟩ = some (.int .i64 vt) := hr10.cell 0
                    have l1 : w10.cell? ⟨rr, 1, none⟩ = some (.int .u64 vn) := hr10.cell 1
                    have l2 : w10.cell? ⟨rr, 2, none⟩ = some (.slice vA vln vc) := hr10.cell 2
                    have l3 : w10.cell? ⟨rr, 3, none⟩ = some (.slice vK vm vd) := hr10.cell 3
                    have l4 : w10.cell? ⟨rr, 4, none⟩ = some (.int .i64 (e2 : Int)) := hr10.cell 4
                    have l5 : w10.cell? ⟨rr, 5, none⟩ = some (.int .i64 0) := hr10.cell 5
                    have lq : w10.cell? ⟨q, 3, none⟩ = some (.slice K' (m + 1) d') := H10.out.2.2.2.1.cell 3
                    have HLV2 := Lib.hid hlv2
                    have HW10 := Lib.hid hw10
                    clear hw10 hp9 hwr hrw hlv2 hr10
                    go_wp2_with (first
                      | (refine wpList_store_row rfl 36 _ _ rfl rr _ rfl rfl _ _ hr9 hi2 rfl ho2 ?_; rw [← HW10.out])
                      | (at_builtin; refine wpList_append_own_at _ rfl _ _ 32 rfl (q + 1) 34 iN _ 4 64 Tryd.underlying32 hiN hzN hsN hbN rfl (by decide) (.slice K' (m + 1) d') (m + 1) (cells ++ [.int .i64 kt, .int .u64 kn, .slice kA kln kc, .slice kK km kd]) rfl ?b1 ⟨w10.heap.size, 0, none⟩ 1 1 [.int .i64 vt, .int .u64 vn, .slice vA vln vc, .slice vK vm vd] rfl rfl (four_cells w10 _ _ _ _ _) ?b2 ?b3 ?b4 ?b5 ?_))
                    case b1 => exact H10.out.2.2.2.2.1.own.alloc _
                    case b2 => simp [Value.oneCell']
                    case b3 => unfold maxLen; omega
                    case b4 => omega
                    case b5 => have := H10.out.2.2.2.1.lt; simp; omega
                    intro v'' w11 hown hgrow _ hat
                    obtain ⟨K2, d2, rfl⟩ := own_slice hown
                    obtain ⟨hP10, hg10, hr10, hq10, hk10, hs10, hrs8, hs89, hqs8, hol, hoth⟩ := H10.out
                    have hqb : some q ≠ (Value.slice K' (m + 1) d').ownBlock := fun e => by have := (hol q e.symm).1; omega
                    have hgb : some g ≠ (Value.slice K' (m + 1) d').ownBlock := fun e => by have := (hol g e.symm).1; omega
                    have hpb : some rr ≠ (Value.slice K' (m + 1) d').ownBlock := fun e => (hol rr e.symm).2.2 rfl
                    have rq7 : Row w11 q 34 #[.int .i64 (k : Int), .int .u64 0, .slice none 0 0, .slice K' (m + 1) d'] := (hq10.alloc _).grown hgrow hqb
                    have rp7 : Row w11 rr 36 #[.int .i64 vt, .int .u64 vn, .slice vA vln vc, .slice vK vm vd, .int .i64 (e2 : Int), .int .i64 0, .int .i64 0] := (hr10.alloc _).grown hgrow hpb
                    have kq7 : w11.cell? ⟨q, 3, none⟩ = some (.slice K' (m + 1) d') := rq7.cell 3
                    have kf7 : w11.frozen? ⟨q, 3, none⟩ = false := rq7.fr 3
                    have rp8 := row_setOther rp7 (h := q) hqr 3 (.slice K2 (m + 1 + 1) d2)
                    have k58 : (w11.setCell ⟨q, 3, none⟩ (.slice K2 (m + 1 + 1) d2)).cell? ⟨rr, 4, none⟩ = some (.int .i64 (e2 : Int)) := rp8.cell 4
                    have HSH : Hid (∀ j, j < m + 1 + 1 → kok ((kids ++ [t] ++ [v]).getD j default) = true ∧ cnt ((kids ++ [t] ++ [v]).getD j default) ≤ 1000000000 ∧ (txt ((kids ++ [t] ++ [v]).getD j default)).length ≤ 10000000) := Lib.hid (fun j hj => by
                      have hkl := HK.out.kds.len
                      by_cases hjm : j < m
                      · rw [List.getD_eq_getElem?_getD, List.append_assoc, List.getElem?_append_left (by omega), ← List.getD_eq_getElem?_getD]
                        exact HK.out.sh j hjm
                      · by_cases hj1 : j = m
                        · rw [List.getD_eq_getElem?_getD, List.append_assoc, List.getElem?_append_right (by omega), hkl, show j - m = 0 by omega]
                          exact ⟨HB1.out.2.2.2.1, HB1.out.2.2.2.2.1, HB1.out.2.2.2.2.2⟩
                        · rw [List.getD_eq_getElem?_getD, List.append_assoc, List.getElem?_append_right (by omega), hkl, show j - m = 1 by omega]
                          exact ⟨HB2.out.2.2.2.1, HB2.out.2.2.2.2.1, HB2.out.2.2.2.2.2⟩)
                    have H8 : Hid (Kw xs f k w (w11.setCell ⟨q, 3, none⟩ (.slice K2 (m + 1 + 1) d2)) g q nm nx n (i' + 1) e2 (m + 1 + 1) K2 d2 (kids ++ [t] ++ [v]) (cells ++ [.int .i64 kt, .int .u64 kn, .slice kA kln kc, .slice kK km kd] ++ [.int .i64 vt, .int .u64 vn, .slice vA vln vc, .slice vK vm vd])) := by
                      have hpa : Past w (w10.alloc (.cells #[.int .i64 vt, .int .u64 vn, .slice vA vln vc, .slice vK vm vd] 34)) := hP10.trans' (past_alloc8 _ _)
                      refine Lib.hid ⟨HK.out.same.trans HITER.out, Below.setCell (hpa.grown hgrow hpa.size fun kb hk => by have := (hol kb hk).1; omega) (by show _ ≤ q; omega) _,
                        row_setOther ((hg10.alloc _).grown hgrow hgb) (by omega) _ _, rq7.set 3 _, ?_, HK.out.gq, by omega, he2, HSH.out⟩
                      refine (KdsX.set (KdsX.push (hk10.later (past_alloc8 w10 (.cells #[.int .i64 vt, .int .u64 vn, .slice vA vln vc, .slice vK vm vd] 34))) (lo := w8.heap.size) (hi := w9.heap.size) hqs8 (by simp; omega) (fun kb hk => (hol kb hk).2.1) (.inl hrs8) (by simp; omega) (fun w'' hw => HLV2.out w'' fun kk h1 h2 => ?_) (by rw [List.append_assoc]; exact hown) hgrow (by rw [World.size_alloc]; exact hat)) 3 _).base
                      rw [hw kk h1 h2, (past_alloc8 w10 (.cells #[.int .i64 vt, .int .u64 vn, .slice vA vln vc, .slice vK vm vd] 34)).block kk (by omega), hoth kk (by omega)]
                    have HM2 : Hid (m + 1 + 1 = 2 * (i' + 1)) := Lib.hid (by have := HM.out; omega)
                    clear hown hgrow hat rq7 rp7 rp8 hol hqb hgb hpb hP10 hg10 hr10 hq10 hk10 hs10 hrs8 hs89 hqs8 hoth l0 l1 l2 l3 l4 l5 lq HLV2 H10 HKD H5 HK HW10 hr9
                    go_wp2_with fail
                    go_roundg (nm - (i' + 1))
                    case rel => exact ⟨i' + 1, e2, m + 1 + 1, d2, K2, _, _, by omega, HM2, rfl, by go_num, by go_num, H8⟩
                    case measure => have := HGK.out; omega
          · obtain rfl : i' = nm := by omega
            have HQ : Hid (kidsR xs f k i' nx = .good (.node (k : Int) 0 [] kids) nx') := Lib.hid (by
              unfold kidsR
              rw [HK.out.same, Nat.sub_self]
              rfl)
            have hrq := HK.out.rq
            have hrg := HK.out.rg
            have hiN : (Tryd.prog.info? 34).map (·.size) = some (#[Value.int .i64 (k : Int), .int .u64 0, .slice none 0 0, .slice K m d] : Array Value).size := by kernel_rfl
            have hi2 := res_size #[.int .i64 (k : Int), .int .u64 0, .slice none 0 0, .slice K m d, .int .i64 (nx' : Int), .int .i64 0, .int .i64 0] rfl
            have ho2 : (#[Value.int .i64 (k : Int), .int .u64 0, .slice none 0 0, .slice K m d, .int .i64 (nx' : Int), .int .i64 0, .int .i64 0] : Array Value).all (·.oneCell') = true := by simp [Value.oneCell']
            have hbi : ¬ (i' : Int) < (i' : Int) := by omega
            clear HGK hlt5
            go_wp2_with (first
              | (refine wpList_load_row rfl 34 _ rfl q rfl _ _ (0, 0) _ hrq Tryd.underlying34 rfl hiN ?_)
              | (refine wpList_store_row rfl 36 _ _ rfl g _ rfl rfl _ _ hrg hi2 rfl ho2 ?_))
            refine bodyPost_ret (results_cell_row rfl _ _ g _ _ (0, 0) _ rfl (setRow_heap wr g _ _ _ _ hrg) Tryd.underlying36 rfl hi2) rfl ?_
            try rw [HNX.out]
            rw [HQ.out]
            refine ⟨.int .i64 (k : Int), .int .u64 0, .slice none 0 0, .slice K m d, rfl, fun w'' hag => ?_, below_setRow HK.out.past HG.out _⟩
            have hgq := HK.out.gq
            have hwg := HG.out
            refine HK.out.kds.node (by omega) w'' fun kk h1 h2 => ?_
            rw [hag kk (by omega) (by simpa [World.setRow] using h2), setRow_other _ _ _ _ (by omega)]


end Go.Proofs.YtmhgpdfllpgjpaaDoor
