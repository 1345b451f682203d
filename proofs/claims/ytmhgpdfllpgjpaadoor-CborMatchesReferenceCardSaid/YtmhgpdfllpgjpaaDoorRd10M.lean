/- The reference's reader: a list, over the contract of the level below. -/
import Derived.Test.YtmhgpdfllpgjpaaDoorRd10L
import Derived.BigQuiet
import Derived.Deep.QuietTactic
namespace Go.Proofs.YtmhgpdfllpgjpaaDoor
open Go.RowKit
set_option linter.unusedVariables false

set_option maxHeartbeats 4000000 in
set_option maxRecDepth 100000 in
theorem read_list (w : World) (b o n c p : Nat) (xs : List Int) (x : Int) (k l : Nat) (ab : Int) (hn : n ≤ 1048576) (h : At10 w (some ⟨b, o, none⟩) n c xs p x k l) (hk : k ≤ 5) (hl : l ≤ 27) (hab : ab < 8) (hshort : p + 1 + szOf l ≤ n) (f : Nat) (hab0 : 0 ≤ ab) (hlen : hsz (numAt xs p l) = szOf l) (hk4 : 4 ≤ k) (hk5n : k ≠ 5) (ih : ∀ at1 w1, Past w w1 → at1 ≤ n → Calls Tryd.prog 34 #[.slice (some ⟨b, o, none⟩) n c, .int .i64 (at1 : Int), .int .i64 (ab + 1)] w1 (ReadR (rd xs f at1) w1)) :
    Calls Tryd.prog 34 #[.slice (some ⟨b, o, none⟩) n c, .int .i64 (p : Int), .int .i64 ab] w (ReadR (kidsR xs f k (numAt xs p l) (p + 1 + szOf l)) w) := by
  have HSH := Lib.hid hshort
  clear hshort
  have HLE := Lib.hid hlen
  clear hlen
  have HIH := Lib.hid ih
  clear ih
  obtain ⟨b', o', eA, hc⟩ := h.sl.bytes (by have := h.lt; omega)
  obtain ⟨rfl, rfl⟩ : b = b' ∧ o = o' := by
    simp only [Option.some.injEq, Addr.mk.injEq] at eA
    exact ⟨eA.1, eA.2.1⟩
  have g0 := hc p h.lt
  rw [h.byte] at g0
  have hlt := h.lt
  have hx := h.rng
  have hdv := h.div
  have hmd := h.mod
  have hp0 : (0 : Int) ≤ (p : Int) := by omega
  have hpn : (p : Int) < (n : Int) := by omega
  have hpp : ¬ (n : Int) ≤ (p : Int) := by omega
  have hxw : IntKind.i64.wrap x = x := IntWalk.i64_in _ (by omega)
  have hk2 : ¬ (5 : Int) < (k : Int) := by omega
  have hl2 : ¬ (27 : Int) < (l : Int) := by omega
  have hab2 : ¬ (8 : Int) ≤ ab := by omega
  have hkw : wrap64 (k : Int) = (k : Int) := IntWalk.wrap64_in _ (by omega)
  have H := Lib.hid h
  have HC := Lib.hid hc
  have g1 : (w.alloc (.cells #[.int .i64 0, .int .u64 0, .slice none 0 0, .slice none 0 0, .int .i64 0, .int .i64 0, .int .i64 0] 36)).cell? ⟨b, o + p, none⟩ = some (.int .u8 x) := by
    rw [Below.cell (past_alloc8 w _) (cell_lt g0)]
    exact g0
  clear h hc eA
  go_enter Tryd.func34, Tryd.ntmps34
  go_upto_if 52 with (fail)
  try rw [hkw]
  obtain ⟨w1, hw1⟩ : ∃ w1, w1 = w.alloc (.cells #[.int .i64 0, .int .u64 0, .slice none 0 0, .slice none 0 0, .int .i64 0, .int .i64 0, .int .i64 0] 36) := ⟨_, rfl⟩
  have HW1 : Hid (Past w w1 ∧ Row w1 w.heap.size 36 zero7) := by
    rw [hw1]
    exact ⟨past_alloc8 _ _, Row.new _ _ _⟩
  rw [← hw1]
  obtain ⟨g, hg⟩ : ∃ g, w.heap.size = g := ⟨_, rfl⟩
  have HG : Hid (w.heap.size ≤ g) := Lib.hid (by omega)
  rw [hg] at HW1 ⊢
  clear hg hw1 g0 g1 hxw hkw
  have HSZ : Hid (szOf l ≤ 8) := Lib.hid (szOf_le l)
  obtain ⟨s, hs⟩ : ∃ s, szOf l = s := ⟨_, rfl⟩
  have HS := Lib.hid hs
  go_cut [9, 10] (fun s9 s10 wx => s9 = .int .i64 (s : Int) ∧ s10 = .int .u64 (zI xs p l 0) ∧ Hid (Past w wx ∧ Row wx g 36 zero7))
  case first =>
    by_cases hl24 : l < 24
    · have hb : ¬ (24 : Int) ≤ (l : Int) := by omega
      have hz : zI xs p l 0 = (l : Int) := by unfold zI; rw [if_pos hl24]
      have hs0 : (s : Int) = 0 := by rw [← hs]; unfold szOf; rw [if_pos hl24]; rfl
      have HZ := Lib.hid (And.intro hz hs0)
      clear hz hs0 hs
      go_wp2_with fail
      go_meet
      case rel => exact ⟨by rw [HZ.out.2], by rw [HZ.out.1], HW1⟩
    · have hb : (24 : Int) ≤ (l : Int) := by omega
      have hz : zI xs p l 0 = 0 := by unfold zI; rw [if_neg hl24]; rfl
      obtain ⟨j, rfl⟩ : ∃ j, l = 24 + j := ⟨l - 24, by omega⟩
      have hj : j < 4 := by omega
      have hsub : ((24 + j : Nat) : Int) - 24 = (j : Int) := by omega
      have hw2 : IntKind.i64.wrap (((24 + j : Nat) : Int) - 24) = (j : Int) := by rw [IntKind.wrap_i64]; omega
      have hj0 : (0 : Int) ≤ (j : Int) := by omega
      have hj4 : (j : Int) < 4 := by omega
      have hcell : (w1.alloc (.cells #[.int .i64 1, .int .i64 2, .int .i64 4, .int .i64 8] 3)).cell? ⟨w1.heap.size, j, none⟩ = some (.int .i64 (s : Int)) := by
        rw [(Row.new w1 3 _).cell, ← hs]
        obtain rfl | rfl | rfl | rfl : j = 0 ∨ j = 1 ∨ j = 2 ∨ j = 3 := by omega
        all_goals rfl
      have HZ := Lib.hid hz
      have HW2 : Hid (Past w (w1.alloc (.cells #[.int .i64 1, .int .i64 2, .int .i64 4, .int .i64 8] 3)) ∧ Row (w1.alloc (.cells #[.int .i64 1, .int .i64 2, .int .i64 4, .int .i64 8] 3)) g 36 zero7) :=
        Lib.hid ⟨HW1.out.1.trans' (past_alloc8 _ _), HW1.out.2.past (past_alloc8 _ _)⟩
      clear hz hs hl24
      go_wp2_with fail
      go_meet
      case rel => exact ⟨rfl, by rw [HZ.out], HW2⟩
  case rest =>
    obtain ⟨rfl, rfl, HW⟩ := hcut
    have hs8 : s ≤ 8 := by rw [← hs]; exact szOf_le l
    have HN : Hid (zI xs p l s = (numAt xs p l : Int)) := Lib.hid (by rw [← hs]; exact zI_num xs H.out.sl.rng p l)
    have hnb := num_bd xs H.out.sl.rng p l
    have hshort := HSH.out
    rw [hs] at hshort
    have hw3 : IntKind.i64.wrap ((p : Int) + 1) = (p : Int) + 1 := by rw [IntKind.wrap_i64]; omega
    have hw4 : IntKind.i64.wrap ((p : Int) + 1 + (s : Int)) = (p : Int) + 1 + (s : Int) := by rw [IntKind.wrap_i64]; omega
    have hl1 : ¬ (n : Int) < (p : Int) + 1 + (s : Int) := by omega
    have HL24 : Hid (0 < s → ¬ l < 24) := Lib.hid (fun h0 h1 => by
      rw [← hs] at h0
      unfold szOf at h0
      rw [if_pos h1] at h0
      omega)
    have HHD : Hid (∀ w, Calls Tryd.prog 26 #[.int .i64 0, .int .u64 (numAt xs p l : Int)] w (HeadP (headB 0 (numAt xs p l)) w)) := Lib.hid (fun w => rhead_any 0 (numAt xs p l) (by omega) hnb w)
    go_wp2_with fail
    go_loopg [10, 12] s (fun q s10 s12 wx => ∃ i : Nat, i ≤ s ∧ q = s - i ∧ s10 = .int .u64 (zI xs p l i) ∧ s12 = .int .i64 (i : Int) ∧ Hid (wx = wc))
    case atStart => exact ⟨0, Nat.zero_le _, rfl, rfl, rfl, Lib.hid rfl⟩
    case round =>
      obtain ⟨i, hi, hgk, rfl, rfl, HO⟩ := hrel
      have HGK := Lib.hid hgk
      clear hgk
      by_cases hlt2 : i < s
      · have hcell : wr.cell? ⟨b, o + (p + 1 + i), none⟩ = some (.int .u8 (xs.getD (p + 1 + i) 0)) := by
          have h := HC.out (p + 1 + i) (by omega)
          rw [HO.out, Below.cell HW.out.1 (cell_lt h)]
          exact h
        have hrg : 0 ≤ xs.getD (p + 1 + i) 0 ∧ xs.getD (p + 1 + i) 0 < 256 := H.out.sl.rng _ (by rw [List.getD_eq_getElem?_getD, List.getElem?_eq_getElem (by rw [H.out.sl.len]; omega)]; exact List.getElem_mem _)
        have hzb := zI_bd xs H.out.sl.rng p l i (HL24.out (by omega))
        have hz7 : zI xs p l i < 72057594037927936 := by
          have h4 : (256 : Int) ^ i ≤ 256 ^ 7 := p256' (by omega)
          omega
        have HST : Hid (zI xs p l (i + 1) = zI xs p l i * 256 + xs.getD (p + 1 + i) 0) := Lib.hid (zI_step xs p l i (HL24.out (by omega)) (by rw [H.out.sl.len]; omega))
        obtain ⟨y, hy⟩ : ∃ y, xs.getD (p + 1 + i) 0 = y := ⟨_, rfl⟩
        rw [hy] at hcell hrg HST
        obtain ⟨hy0, hy1⟩ := hrg
        have hz0 := hzb.1
        clear hy hzb
        generalize zI xs p l i = z at *
        have hi0 : (0 : Int) ≤ (i : Int) := by omega
        have hpi : (p : Int) + 1 + (i : Int) < (n : Int) := by omega
        have hpi0 : (0 : Int) ≤ (p : Int) + 1 + (i : Int) := by omega
        have hti : ((p : Int) + 1 + (i : Int)).toNat = p + 1 + i := by omega
        have hw5 : IntKind.i64.wrap ((p : Int) + 1 + (i : Int)) = (p : Int) + 1 + (i : Int) := by rw [IntKind.wrap_i64]; omega
        have hii : (i : Int) < (s : Int) := by omega
        go_wp2_with fail
        go_roundg (s - (i + 1))
        case rel => exact ⟨i + 1, by omega, rfl, by rw [HST.out], by go_num, HO⟩
        case measure => have := HGK.out; omega
      · obtain rfl : i = s := by omega
        have hwr := HO.out
        subst hwr
        rw [HN.out]
        generalize hnm : numAt xs p l = nm at *
        have hlen := HLE.out
        rw [hs] at hlen
        have hneb : (1 + (hsz nm : Int) != 1 + (i : Int)) = false := by simp; omega
        have hln := headB_len 0 nm
        clear hlen
        generalize hsz nm = z at *
        go_wp2_with fail
        refine (HHD.out _).mono ?_
        rintro e w2 ⟨NA, nc, rfl, _, hp⟩
        rw [hln]
        have HW2 : Hid (Past w w2 ∧ Row w2 g 36 zero7) := Lib.hid ⟨HW.out.1.trans' hp, HW.out.2.past hp⟩
        clear hp
        have hkb : ¬ (k : Int) < 2 := by omega
        have hkb4 : ¬ (k : Int) < 4 := by omega
        obtain ⟨nx, hnx⟩ : ∃ nx, p + 1 + i = nx := ⟨_, rfl⟩
        have hnxi : (p : Int) + 1 + (i : Int) = (nx : Int) := by omega
        have HNX : Hid (p + 1 + szOf l = nx) := Lib.hid (by rw [HS.out]; exact hnx)
        have hnxn : nx ≤ n := by omega
        first | rw [hnx] | rw [HNX.out]
        obtain ⟨w3, hw3⟩ : ∃ w3, w3 = w2.alloc (.cells #[.int .i64 (k : Int), .int .u64 0, .slice none 0 0, .slice none 0 0] 34) := ⟨_, rfl⟩
        have HW3 : Hid (Past w2 w3 ∧ Past w w3 ∧ Row w3 g 36 zero7 ∧ Row w3 w2.heap.size 34 #[.int .i64 (k : Int), .int .u64 0, .slice none 0 0, .slice none 0 0] ∧ g < w2.heap.size) := by
          have hp : Past w2 w3 := by rw [hw3]; exact past_alloc8 _ _
          refine Lib.hid ⟨hp, HW2.out.1.trans' hp, HW2.out.2.past hp, ?_, HW2.out.2.lt⟩
          rw [hw3]
          exact Row.new _ _ _
        have HW3e := Lib.hid hw3
        have HLB : Hid (∀ f p t e, rd xs f p = .good t e → p < e ∧ e ≤ n ∧ shp t = true ∧ kok t = true ∧ cnt t ≤ 1000000000 ∧ (txt t).length ≤ 10000000) := Lib.hid (fun f p t e h => by
          have := rd_short xs H.out.sl.rng (by rw [H.out.sl.len]; exact hn) h
          rw [H.out.sl.len] at this
          exact this)
        clear hw3 hs
        go_upto_region 37 with (fail)
        rw [← HW3e.out]
        generalize w2.heap.size = q at *
        have H3 : Hid (Kw xs f k w w3 g q nm nx n 0 nx 0 none 0 [] []) :=
          Lib.hid ⟨by simp, HW3.out.2.1, HW3.out.2.2.1, HW3.out.2.2.2.1, Kds.nil _ _ _, HW3.out.2.2.2.2, Nat.zero_le _, hnxn, fun j hj => absurd hj (Nat.not_lt_zero _)⟩
        have hwq : Hid (w.heap.size ≤ g) := HG
        clear HW HW3 HS H HC HW1 HHD HN HL24 HSZ HW2 HW3e
        go_wp2_with fail
        go_loopg [11, 15, 16, 17] nm (fun kk s11 s15 s16 s17 wx => ∃ (i' nx' m d : Nat) (K : Option Addr) (kids : List T) (cells : List Value), i' ≤ nm ∧ kk = nm - i' ∧ s11 = .int .i64 (nx' : Int) ∧ s15 = .int .u64 (i' : Int) ∧ Hid (Kw xs f k w wx g q nm nx n i' nx' m K d kids cells))
        case atStart => exact ⟨0, nx, 0, 0, none, [], [], Nat.zero_le _, rfl, rfl, rfl, H3⟩
        case round =>
          clear H3
          obtain ⟨i', nx', m, d, K, kids, cells, hi', hgk, rfl, rfl, HK⟩ := hrel
          have HGK := Lib.hid hgk
          clear hgk
          by_cases hlt5 : i' < nm
          · have hii : (i' : Int) < (nm : Int) := by omega
            have hnxb := HK.out.nn
            have hab1 : IntKind.i64.wrap (ab + 1) = ab + 1 := by rw [IntKind.wrap_i64]; omega
            have HCC := Lib.hid (HIH.out nx' wr HK.out.past hnxb)
            have hk5 : ((k : Int) == 5) = false := by simp; omega
            cases hq : rd xs f nx' with
            | bad c0 a0 =>
              rw [hq] at HCC
              have hc0 := rd_err xs f nx' c0 a0 hq
              have HITER : Hid (itemsR (rd xs f) (k == 5) (nm - i') nx' kids = .inl (c0, a0)) := Lib.hid (by
                rw [show nm - i' = (nm - (i' + 1)) + 1 by omega]
                unfold itemsR
                rw [hq])
              have HQ : Hid (kidsR xs f k nm nx = .bad c0 a0) := Lib.hid (by
                unfold kidsR
                rw [HK.out.same, HITER.out])
              have hcb : ((c0 : Int) != 0) = true := by simp; omega
              clear hq
              go_wp2_with fail
              refine HCC.out.mono ?_
              rintro e w4 ⟨rfl, hp⟩
              unfold badV
              have hn3 := heap_alloc_new w4 (.cells zero7 36)
              have hi2 := res_size (err7 c0 a0) rfl
              have ho2 : (err7 c0 a0).all (·.oneCell') = true := by simp [err7, Value.oneCell']
              obtain ⟨w5, hw5⟩ : ∃ w5, w5 = w4.alloc (.cells (err7 c0 a0) 36) := ⟨_, rfl⟩
              have H5 : Hid (Past w w5 ∧ Row w5 g 36 zero7 ∧ Row w5 w4.heap.size 36 (err7 c0 a0)) := by
                have hp4 : Past wr w5 := by rw [hw5]; exact hp.trans' (past_alloc8 _ _)
                refine Lib.hid ⟨HK.out.past.trans' hp4, HK.out.rg.past hp4, ?_⟩
                rw [hw5]
                exact Row.new _ _ _
              have k5 : w5.cell? ⟨w4.heap.size, 5, none⟩ = some (.int .i64 (c0 : Int)) := H5.out.2.2.cell 5
              have hr4 := H5.out.2.2
              have hrg := H5.out.2.1
              have HW5 := Lib.hid hw5
              clear hw5 hp HK
              go_wp2_with (first
                | (refine wpList_store_row rfl 36 _ _ rfl w4.heap.size _ rfl rfl _ _ hn3 hi2 rfl ho2 ?_; rw [World.setRow_alloc_new, ← HW5.out])
                | (refine wpList_load_row rfl 36 _ rfl w4.heap.size rfl _ _ (0, 0) _ hr4 Tryd.underlying36 rfl hi2 ?_)
                | (refine wpList_store_row rfl 36 _ _ rfl g _ rfl rfl _ _ hrg hi2 rfl ho2 ?_))
              refine bodyPost_ret (results_cell_row rfl _ _ g _ (err7 c0 a0) (0, 0) _ rfl (setRow_heap w5 g _ _ _ _ hrg) Tryd.underlying36 rfl hi2) rfl ?_
              try rw [HNX.out]
              rw [HQ.out]
              exact ⟨rfl, below_setRow H5.out.1 HG.out _⟩
            | good t e1 =>
              rw [hq] at HCC
              have hb1 := HLB.out f nx' t e1 hq
              have HITER : Hid (itemsR (rd xs f) (k == 5) (nm - i') nx' kids = itemsR (rd xs f) (k == 5) (nm - (i' + 1)) e1 (kids ++ [t])) := Lib.hid (by
                rw [show nm - i' = (nm - (i' + 1)) + 1 by omega]
                conv => lhs; unfold itemsR
                rw [hq]
                simp only
                rw [if_neg (by simp; omega)])
              clear hq
              go_wp2_with fail
              refine HCC.out.mono ?_
              rintro e w4 ⟨x4, y4, z4, u4, rfl, hlv, hp⟩
              obtain ⟨kt, kn, kA, kln, kc, kK, km, kd, rfl, rfl, rfl, rfl⟩ := (hlv w4 (fun _ _ _ => rfl)).shape
              have hn3 := heap_alloc_new w4 (.cells zero7 36)
              have hi2 := res_size #[.int .i64 kt, .int .u64 kn, .slice kA kln kc, .slice kK km kd, .int .i64 (e1 : Int), .int .i64 0, .int .i64 0] rfl
              have ho2 : (#[Value.int .i64 kt, .int .u64 kn, .slice kA kln kc, .slice kK km kd, .int .i64 (e1 : Int), .int .i64 0, .int .i64 0] : Array Value).all (·.oneCell') = true := by simp [Value.oneCell']
              obtain ⟨w5, hw5⟩ : ∃ w5, w5 = w4.alloc (.cells #[.int .i64 kt, .int .u64 kn, .slice kA kln kc, .slice kK km kd, .int .i64 (e1 : Int), .int .i64 0, .int .i64 0] 36) := ⟨_, rfl⟩
              have hp5 : Past w4 w5 := by rw [hw5]; exact past_alloc8 _ _
              have hr5 : Row w5 w4.heap.size 36 #[.int .i64 kt, .int .u64 kn, .slice kA kln kc, .slice kK km kd, .int .i64 (e1 : Int), .int .i64 0, .int .i64 0] := by rw [hw5]; exact Row.new _ _ _
              have H5 : Hid (Past wr w4 ∧ Past w4 w5 ∧ Row w5 w4.heap.size 36 #[.int .i64 kt, .int .u64 kn, .slice kA kln kc, .slice kK km kd, .int .i64 (e1 : Int), .int .i64 0, .int .i64 0] ∧ Row w5 q 34 #[.int .i64 (k : Int), .int .u64 0, .slice none 0 0, .slice K m d] ∧ wr.heap.size ≤ w4.heap.size) := Lib.hid ⟨hp, hp5, hr5, HK.out.rq.past (hp.trans' hp5), hp.size⟩
              have HLV := Lib.hid hlv
              have k5 : w5.cell? ⟨w4.heap.size, 5, none⟩ = some (.int .i64 0) := hr5.cell 5
              have kq : w5.cell? ⟨q, 3, none⟩ = some (.slice K m d) := H5.out.2.2.2.1.cell 3
              have HW5 := Lib.hid hw5
              clear hw5 hp hp5 hr5 hlv
              go_wp2_with (first
                | (refine wpList_store_row rfl 36 _ _ rfl w4.heap.size _ rfl rfl _ _ hn3 hi2 rfl ho2 ?_; rw [World.setRow_alloc_new, ← HW5.out]))
              go_quiet (fail)
              obtain ⟨w6, hw6⟩ : ∃ w6, w6 = w5.drewN nq := ⟨_, rfl⟩
              rw [← hw6]
              have hp6 : Past w5 w6 := by rw [hw6]; exact Past.drewN (Below.refl _ _) _
              have hr6 : Row w6 w4.heap.size 36 #[.int .i64 kt, .int .u64 kn, .slice kA kln kc, .slice kK km kd, .int .i64 (e1 : Int), .int .i64 0, .int .i64 0] := H5.out.2.2.1.past hp6
              have hq6 : Row w6 q 34 #[.int .i64 (k : Int), .int .u64 0, .slice none 0 0, .slice K m d] := H5.out.2.2.2.1.past hp6
              have H6 : Hid (Past w4 w6 ∧ Row w6 w4.heap.size 36 #[.int .i64 kt, .int .u64 kn, .slice kA kln kc, .slice kK km kd, .int .i64 (e1 : Int), .int .i64 0, .int .i64 0] ∧ Row w6 q 34 #[.int .i64 (k : Int), .int .u64 0, .slice none 0 0, .slice K m d]) := Lib.hid ⟨Past.trans' H5.out.2.1 hp6, hr6, hq6⟩
              have j0 : w6.cell? ⟨w4.heap.size, 0, none⟩ = some (.int .i64 kt) := hr6.cell 0
              have j1 : w6.cell? ⟨w4.heap.size, 1, none⟩ = some (.int .u64 kn) := hr6.cell 1
              have j2 : w6.cell? ⟨w4.heap.size, 2, none⟩ = some (.slice kA kln kc) := hr6.cell 2
              have j3 : w6.cell? ⟨w4.heap.size, 3, none⟩ = some (.slice kK km kd) := hr6.cell 3
              have j4 : w6.cell? ⟨w4.heap.size, 4, none⟩ = some (.int .i64 (e1 : Int)) := hr6.cell 4
              have jq : w6.cell? ⟨q, 3, none⟩ = some (.slice K m d) := hq6.cell 3
              obtain ⟨iN, hiN, hzN, hsN, hbN⟩ := info_parts infoI
              have hmn := HK.out.mn
              have hm8 : m ≤ 1048576 := by omega
              clear hw6 hp6 hr6 hq6 k5 kq hn3 hi2 ho2 HW5
              go_wp2_with (at_builtin; refine wpList_append_own_at _ rfl _ _ 32 rfl (q + 1) 34 iN _ 4 64 Tryd.underlying32 hiN hzN hsN hbN rfl (by decide) (.slice K m d) m cells rfl ?b1 ⟨w6.heap.size, 0, none⟩ 1 1 [.int .i64 kt, .int .u64 kn, .slice kA kln kc, .slice kK km kd] rfl rfl (four_cells w6 _ _ _ _ _) ?b2 ?b3 ?b4 ?b5 ?_)
              case b1 => exact (HK.out.kds.later (H5.out.1.trans' H6.out.1)).own.alloc _
              case b2 => simp [Value.oneCell']
              case b3 => unfold maxLen; omega
              case b4 => omega
              case b5 => have := H6.out.2.2.lt; simp; omega
              intro v' w7 hown hgrow _ hat
              obtain ⟨K', d', rfl⟩ := own_slice hown
              have hol := HK.out.kds.own.lt
              have hqs := HK.out.rq.lt
              have hgq := HK.out.gq
              have hwg := HG.out
              have hsz := H5.out.2.2.2.2
              have hqb : some q ≠ (Value.slice K m d).ownBlock := fun e => by have := (hol q e.symm).1; omega
              have hgb : some g ≠ (Value.slice K m d).ownBlock := fun e => by have := (hol g e.symm).1; omega
              have hpb : some w4.heap.size ≠ (Value.slice K m d).ownBlock := fun e => by have := (hol _ e.symm).2; omega
              have rq7 : Row w7 q 34 #[.int .i64 (k : Int), .int .u64 0, .slice none 0 0, .slice K m d] := (H6.out.2.2.alloc _).grown hgrow hqb
              have rp7 : Row w7 w4.heap.size 36 #[.int .i64 kt, .int .u64 kn, .slice kA kln kc, .slice kK km kd, .int .i64 (e1 : Int), .int .i64 0, .int .i64 0] := (H6.out.2.1.alloc _).grown hgrow hpb
              have kq7 : w7.cell? ⟨q, 3, none⟩ = some (.slice K m d) := rq7.cell 3
              have kf7 : w7.frozen? ⟨q, 3, none⟩ = false := rq7.fr 3
              have rp8 := row_setOther rp7 (h := q) (by omega) 3 (.slice K' (m + 1) d')
              have k48 : (w7.setCell ⟨q, 3, none⟩ (.slice K' (m + 1) d')).cell? ⟨w4.heap.size, 4, none⟩ = some (.int .i64 (e1 : Int)) := rp8.cell 4
              have HKD : Hid (Past w (w7.setCell ⟨q, 3, none⟩ (.slice K' (m + 1) d')) ∧ Row (w7.setCell ⟨q, 3, none⟩ (.slice K' (m + 1) d')) g 36 zero7 ∧ Row (w7.setCell ⟨q, 3, none⟩ (.slice K' (m + 1) d')) q 34 #[.int .i64 (k : Int), .int .u64 0, .slice none 0 0, .slice K' (m + 1) d'] ∧ Kds (w7.setCell ⟨q, 3, none⟩ (.slice K' (m + 1) d')) q 34 (.slice K' (m + 1) d') (m + 1) (kids ++ [t]) (cells ++ [.int .i64 kt, .int .u64 kn, .slice kA kln kc, .slice kK km kd])) := by
                have hpa : Past w (w6.alloc (.cells #[.int .i64 kt, .int .u64 kn, .slice kA kln kc, .slice kK km kd] 34)) := (HK.out.past.trans' (H5.out.1.trans' H6.out.1)).trans' (past_alloc8 _ _)
                have h34 := H6.out.1.size
                refine Lib.hid ⟨Below.setCell (hpa.grown hgrow hpa.size fun kb hk => by have := (hol kb hk).1; omega) (by show _ ≤ q; omega) _,
                  row_setOther (((HK.out.rg.past (H5.out.1.trans' H6.out.1)).alloc _).grown hgrow hgb) (by omega) _ _, rq7.set 3 _, ?_⟩
                refine Kds.set (Kds.push (HK.out.kds.later ((H5.out.1.trans' H6.out.1).trans' (past_alloc8 w6 (.cells #[.int .i64 kt, .int .u64 kn, .slice kA kln kc, .slice kK km kd] 34)))) (lo := wr.heap.size) (hi := w4.heap.size) hqs (by simp; omega) (fun kb hk => (hol kb hk).2) (fun w'' hw => HLV.out w'' fun kk h1 h2 => ?_) hown hgrow (by rw [World.size_alloc]; exact hat)) 3 _
                rw [hw kk h1 h2, (past_alloc8 w6 (.cells #[.int .i64 kt, .int .u64 kn, .slice kA kln kc, .slice kK km kd] 34)).block kk (by omega), H6.out.1.block kk h2]
              have HSH : Hid (∀ j, j < m + 1 → kok ((kids ++ [t]).getD j default) = true ∧ cnt ((kids ++ [t]).getD j default) ≤ 1000000000 ∧ (txt ((kids ++ [t]).getD j default)).length ≤ 10000000) := Lib.hid (fun j hj => by
                by_cases hjm : j < m
                · rw [List.getD_eq_getElem?_getD, List.getElem?_append_left (by rw [HK.out.kds.len]; exact hjm), ← List.getD_eq_getElem?_getD]
                  exact HK.out.sh j hjm
                · rw [List.getD_eq_getElem?_getD, List.getElem?_append_right (by rw [HK.out.kds.len]; omega), HK.out.kds.len, show j - m = 0 by omega]
                  exact ⟨hb1.2.2.2.1, hb1.2.2.2.2.1, hb1.2.2.2.2.2⟩)
              have H8 : Hid (Kw xs f k w (w7.setCell ⟨q, 3, none⟩ (.slice K' (m + 1) d')) g q nm nx n (i' + 1) e1 (m + 1) K' d' (kids ++ [t]) (cells ++ [.int .i64 kt, .int .u64 kn, .slice kA kln kc, .slice kK km kd])) :=
                Lib.hid ⟨HK.out.same.trans HITER.out, HKD.out.1, HKD.out.2.1, HKD.out.2.2.1, HKD.out.2.2.2, HK.out.gq, by have := hb1.1; omega, hb1.2.1, HSH.out⟩
              clear hown hgrow hat rq7 rp7 rp8 hol hqb hgb hpb j0 j1 j2 j3 j4 jq HLV H6 H5 HK
              go_wp2_with fail
              go_roundg (nm - (i' + 1))
              case rel => exact ⟨i' + 1, e1, m + 1, d', K', _, _, by omega, rfl, by go_num, by go_num, H8⟩
              case measure => have := HGK.out; omega
          · obtain rfl : i' = nm := by omega
            have HQ : Hid (kidsR xs f k i' nx = .good (.node (k : Int) 0 [] kids) nx') := Lib.hid (by
              unfold kidsR
              rw [HK.out.same, Nat.sub_self]
              rfl)
            have hrq := HK.out.rq
            have hrg := HK.out.rg
            have hiN : (Tryd.prog.info? 34).map (·.size) = some (#[Value.int .i64 (k : Int), .int .u64 0, .slice none 0 0, .slice K m d] : Array Value).size := by kernel_rfl
            have hi2 := res_size #[.int .i64 (k : Int), .int .u64 0, .slice none 0 0, .slice K m d, .int .i64 (nx' : Int), .int .i64 0, .int .i64 0] rfl
            have ho2 : (#[Value.int .i64 (k : Int), .int .u64 0, .slice none 0 0, .slice K m d, .int .i64 (nx' : Int), .int .i64 0, .int .i64 0] : Array Value).all (·.oneCell') = true := by simp [Value.oneCell']
            have hbi : ¬ (i' : Int) < (i' : Int) := by omega
            clear HGK hlt5
            go_wp2_with (first
              | (refine wpList_load_row rfl 34 _ rfl q rfl _ _ (0, 0) _ hrq Tryd.underlying34 rfl hiN ?_)
              | (refine wpList_store_row rfl 36 _ _ rfl g _ rfl rfl _ _ hrg hi2 rfl ho2 ?_))
            refine bodyPost_ret (results_cell_row rfl _ _ g _ _ (0, 0) _ rfl (setRow_heap wr g _ _ _ _ hrg) Tryd.underlying36 rfl hi2) rfl ?_
            try rw [HNX.out]
            rw [HQ.out]
            refine ⟨.int .i64 (k : Int), .int .u64 0, .slice none 0 0, .slice K m d, rfl, fun w'' hag => ?_, below_setRow HK.out.past HG.out _⟩
            have hgq := HK.out.gq
            have hwg := HG.out
            refine HK.out.kds.node (by omega) w'' fun kk h1 h2 => ?_
            rw [hag kk (by omega) (by simpa [World.setRow] using h2), setRow_other _ _ _ _ (by omega)]


end Go.Proofs.YtmhgpdfllpgjpaaDoor
