/- The reference's reader: bytes and texts. -/
import Derived.Test.YtmhgpdfllpgjpaaDoorRd10J
namespace Go.Proofs.YtmhgpdfllpgjpaaDoor
open Go.RowKit
set_option linter.unusedVariables false

theorem findBad_cons (x : Int) (xs : List Int) (i : Nat) : findBad (x :: xs) i = if 32 ≤ x ∧ x ≤ 126 then findBad xs (i + 1) else some i := rfl
def bytesR (b : List Int) (k nx nm : Nat) : R10 :=
  if b.length - nx < nm then .bad 3 b.length
  else match (if k = 3 then findBad ((b.drop nx).take nm) nx else none) with
    | some i => .bad 5 i
    | none => .good (.node (k : Int) 0 ((b.drop nx).take nm) []) (nx + nm)

set_option maxHeartbeats 4000000 in
set_option maxRecDepth 100000 in
theorem read_bytes (w : World) (b o n c p : Nat) (xs : List Int) (x : Int) (k l : Nat) (ab : Int) (hn : n ≤ 1048576) (h : At10 w (some ⟨b, o, none⟩) n c xs p x k l) (hk : k ≤ 5) (hl : l ≤ 27) (hab : ab < 8) (hshort : p + 1 + szOf l ≤ n) (hlen : hsz (numAt xs p l) = szOf l) (hk2 : 2 ≤ k) (hk4 : k < 4) :
    Calls Tryd.prog 34 #[.slice (some ⟨b, o, none⟩) n c, .int .i64 (p : Int), .int .i64 ab] w (ReadR (bytesR xs k (p + 1 + szOf l) (numAt xs p l)) w) := by
  have HSH := Lib.hid hshort
  clear hshort
  have HLE := Lib.hid hlen
  clear hlen
  obtain ⟨b', o', eA, hc⟩ := h.sl.bytes (by have := h.lt; omega)
  obtain ⟨rfl, rfl⟩ : b = b' ∧ o = o' := by
    simp only [Option.some.injEq, Addr.mk.injEq] at eA
    exact ⟨eA.1, eA.2.1⟩
  have g0 := hc p h.lt
  rw [h.byte] at g0
  have hlt := h.lt
  have hx := h.rng
  have hdv := h.div
  have hmd := h.mod
  have hp0 : (0 : Int) ≤ (p : Int) := by omega
  have hpn : (p : Int) < (n : Int) := by omega
  have hpp : ¬ (n : Int) ≤ (p : Int) := by omega
  have hxw : IntKind.i64.wrap x = x := IntWalk.i64_in _ (by omega)
  have hk2 : ¬ (5 : Int) < (k : Int) := by omega
  have hl2 : ¬ (27 : Int) < (l : Int) := by omega
  have hab2 : ¬ (8 : Int) ≤ ab := by omega
  have hkw : wrap64 (k : Int) = (k : Int) := IntWalk.wrap64_in _ (by omega)
  have H := Lib.hid h
  have HC := Lib.hid hc
  have g1 : (w.alloc (.cells #[.int .i64 0, .int .u64 0, .slice none 0 0, .slice none 0 0, .int .i64 0, .int .i64 0, .int .i64 0] 36)).cell? ⟨b, o + p, none⟩ = some (.int .u8 x) := by
    rw [Below.cell (past_alloc8 w _) (cell_lt g0)]
    exact g0
  clear h hc eA
  go_enter Tryd.func34, Tryd.ntmps34
  go_upto_if 52 with (fail)
  try rw [hkw]
  obtain ⟨w1, hw1⟩ : ∃ w1, w1 = w.alloc (.cells #[.int .i64 0, .int .u64 0, .slice none 0 0, .slice none 0 0, .int .i64 0, .int .i64 0, .int .i64 0] 36) := ⟨_, rfl⟩
  have HW1 : Hid (Past w w1 ∧ Row w1 w.heap.size 36 zero7) := by
    rw [hw1]
    exact ⟨past_alloc8 _ _, Row.new _ _ _⟩
  rw [← hw1]
  obtain ⟨g, hg⟩ : ∃ g, w.heap.size = g := ⟨_, rfl⟩
  have HG : Hid (w.heap.size ≤ g) := Lib.hid (by omega)
  rw [hg] at HW1 ⊢
  clear hg hw1 g0 g1 hxw hkw
  have HSZ : Hid (szOf l ≤ 8) := Lib.hid (szOf_le l)
  obtain ⟨s, hs⟩ : ∃ s, szOf l = s := ⟨_, rfl⟩
  have HS := Lib.hid hs
  go_cut [9, 10] (fun s9 s10 wx => s9 = .int .i64 (s : Int) ∧ s10 = .int .u64 (zI xs p l 0) ∧ Hid (Past w wx ∧ Row wx g 36 zero7))
  case first =>
    by_cases hl24 : l < 24
    · have hb : ¬ (24 : Int) ≤ (l : Int) := by omega
      have hz : zI xs p l 0 = (l : Int) := by unfold zI; rw [if_pos hl24]
      have hs0 : (s : Int) = 0 := by rw [← hs]; unfold szOf; rw [if_pos hl24]; rfl
      have HZ := Lib.hid (And.intro hz hs0)
      clear hz hs0 hs
      go_wp2_with fail
      go_meet
      case rel => exact ⟨by rw [HZ.out.2], by rw [HZ.out.1], HW1⟩
    · have hb : (24 : Int) ≤ (l : Int) := by omega
      have hz : zI xs p l 0 = 0 := by unfold zI; rw [if_neg hl24]; rfl
      obtain ⟨j, rfl⟩ : ∃ j, l = 24 + j := ⟨l - 24, by omega⟩
      have hj : j < 4 := by omega
      have hsub : ((24 + j : Nat) : Int) - 24 = (j : Int) := by omega
      have hw2 : IntKind.i64.wrap (((24 + j : Nat) : Int) - 24) = (j : Int) := by rw [IntKind.wrap_i64]; omega
      have hj0 : (0 : Int) ≤ (j : Int) := by omega
      have hj4 : (j : Int) < 4 := by omega
      have hcell : (w1.alloc (.cells #[.int .i64 1, .int .i64 2, .int .i64 4, .int .i64 8] 3)).cell? ⟨w1.heap.size, j, none⟩ = some (.int .i64 (s : Int)) := by
        rw [(Row.new w1 3 _).cell, ← hs]
        obtain rfl | rfl | rfl | rfl : j = 0 ∨ j = 1 ∨ j = 2 ∨ j = 3 := by omega
        all_goals rfl
      have HZ := Lib.hid hz
      have HW2 : Hid (Past w (w1.alloc (.cells #[.int .i64 1, .int .i64 2, .int .i64 4, .int .i64 8] 3)) ∧ Row (w1.alloc (.cells #[.int .i64 1, .int .i64 2, .int .i64 4, .int .i64 8] 3)) g 36 zero7) :=
        Lib.hid ⟨HW1.out.1.trans' (past_alloc8 _ _), HW1.out.2.past (past_alloc8 _ _)⟩
      clear hz hs hl24
      go_wp2_with fail
      go_meet
      case rel => exact ⟨rfl, by rw [HZ.out], HW2⟩
  case rest =>
    obtain ⟨rfl, rfl, HW⟩ := hcut
    have hs8 : s ≤ 8 := by rw [← hs]; exact szOf_le l
    have HN : Hid (zI xs p l s = (numAt xs p l : Int)) := Lib.hid (by rw [← hs]; exact zI_num xs H.out.sl.rng p l)
    have hnb := num_bd xs H.out.sl.rng p l
    have hshort := HSH.out
    rw [hs] at hshort
    have hw3 : IntKind.i64.wrap ((p : Int) + 1) = (p : Int) + 1 := by rw [IntKind.wrap_i64]; omega
    have hw4 : IntKind.i64.wrap ((p : Int) + 1 + (s : Int)) = (p : Int) + 1 + (s : Int) := by rw [IntKind.wrap_i64]; omega
    have hl1 : ¬ (n : Int) < (p : Int) + 1 + (s : Int) := by omega
    have HL24 : Hid (0 < s → ¬ l < 24) := Lib.hid (fun h0 h1 => by
      rw [← hs] at h0
      unfold szOf at h0
      rw [if_pos h1] at h0
      omega)
    have HHD : Hid (∀ w, Calls Tryd.prog 26 #[.int .i64 0, .int .u64 (numAt xs p l : Int)] w (HeadP (headB 0 (numAt xs p l)) w)) := Lib.hid (fun w => rhead_any 0 (numAt xs p l) (by omega) hnb w)
    go_wp2_with fail
    go_loopg [10, 12] s (fun q s10 s12 wx => ∃ i : Nat, i ≤ s ∧ q = s - i ∧ s10 = .int .u64 (zI xs p l i) ∧ s12 = .int .i64 (i : Int) ∧ Hid (wx = wc))
    case atStart => exact ⟨0, Nat.zero_le _, rfl, rfl, rfl, Lib.hid rfl⟩
    case round =>
      obtain ⟨i, hi, hgk, rfl, rfl, HO⟩ := hrel
      have HGK := Lib.hid hgk
      clear hgk
      by_cases hlt2 : i < s
      · have hcell : wr.cell? ⟨b, o + (p + 1 + i), none⟩ = some (.int .u8 (xs.getD (p + 1 + i) 0)) := by
          have h := HC.out (p + 1 + i) (by omega)
          rw [HO.out, Below.cell HW.out.1 (cell_lt h)]
          exact h
        have hrg : 0 ≤ xs.getD (p + 1 + i) 0 ∧ xs.getD (p + 1 + i) 0 < 256 := H.out.sl.rng _ (by rw [List.getD_eq_getElem?_getD, List.getElem?_eq_getElem (by rw [H.out.sl.len]; omega)]; exact List.getElem_mem _)
        have hzb := zI_bd xs H.out.sl.rng p l i (HL24.out (by omega))
        have hz7 : zI xs p l i < 72057594037927936 := by
          have h4 : (256 : Int) ^ i ≤ 256 ^ 7 := p256' (by omega)
          omega
        have HST : Hid (zI xs p l (i + 1) = zI xs p l i * 256 + xs.getD (p + 1 + i) 0) := Lib.hid (zI_step xs p l i (HL24.out (by omega)) (by rw [H.out.sl.len]; omega))
        obtain ⟨y, hy⟩ : ∃ y, xs.getD (p + 1 + i) 0 = y := ⟨_, rfl⟩
        rw [hy] at hcell hrg HST
        obtain ⟨hy0, hy1⟩ := hrg
        have hz0 := hzb.1
        clear hy hzb
        generalize zI xs p l i = z at *
        have hi0 : (0 : Int) ≤ (i : Int) := by omega
        have hpi : (p : Int) + 1 + (i : Int) < (n : Int) := by omega
        have hpi0 : (0 : Int) ≤ (p : Int) + 1 + (i : Int) := by omega
        have hti : ((p : Int) + 1 + (i : Int)).toNat = p + 1 + i := by omega
        have hw5 : IntKind.i64.wrap ((p : Int) + 1 + (i : Int)) = (p : Int) + 1 + (i : Int) := by rw [IntKind.wrap_i64]; omega
        have hii : (i : Int) < (s : Int) := by omega
        go_wp2_with fail
        go_roundg (s - (i + 1))
        case rel => exact ⟨i + 1, by omega, rfl, by rw [HST.out], by go_num, HO⟩
        case measure => have := HGK.out; omega
      · obtain rfl : i = s := by omega
        have hwr := HO.out
        subst hwr
        rw [HN.out]
        generalize hnm : numAt xs p l = nm at *
        have hlen := HLE.out
        rw [hs] at hlen
        have hneb : (1 + (hsz nm : Int) != 1 + (i : Int)) = false := by simp; omega
        have hln := headB_len 0 nm
        clear hlen
        generalize hsz nm = z at *
        go_wp2_with fail
        refine (HHD.out _).mono ?_
        rintro e w2 ⟨NA, nc, rfl, _, hp⟩
        rw [hln]
        have HW2 : Hid (Past w w2 ∧ Row w2 g 36 zero7) := Lib.hid ⟨HW.out.1.trans' hp, HW.out.2.past hp⟩
        clear hp
        have hkb : ¬ (k : Int) < 2 := by omega
        have hkb4 : (k : Int) < 4 := by omega
        obtain ⟨nx, hnx⟩ : ∃ nx, p + 1 + i = nx := ⟨_, rfl⟩
        have hnxi : (p : Int) + 1 + (i : Int) = (nx : Int) := by omega
        have HNX : Hid (p + 1 + szOf l = nx) := Lib.hid (by rw [HS.out]; exact hnx)
        have hnxn : nx ≤ n := by omega
        first | rw [hnx] | rw [HNX.out]
        have hw6 : IntKind.i64.wrap ((n : Int) - (nx : Int)) = (n : Int) - (nx : Int) := by rw [IntKind.wrap_i64]; omega
        have hw7 : IntKind.u64.wrap ((n : Int) - (nx : Int)) = (n : Int) - (nx : Int) := by rw [IntKind.wrap_u64]; omega
        obtain ⟨w3, hw3⟩ : ∃ w3, w3 = w2.alloc (.cells #[.int .i64 (k : Int), .int .u64 0, .slice none 0 0, .slice none 0 0] 34) := ⟨_, rfl⟩
        have HW3 : Hid (Past w2 w3 ∧ Past w w3 ∧ Row w3 g 36 zero7 ∧ Row w3 w2.heap.size 34 #[.int .i64 (k : Int), .int .u64 0, .slice none 0 0, .slice none 0 0] ∧ g < w2.heap.size) := by
          have hp : Past w2 w3 := by rw [hw3]; exact past_alloc8 _ _
          refine Lib.hid ⟨hp, HW2.out.1.trans' hp, HW2.out.2.past hp, ?_, HW2.out.2.lt⟩
          rw [hw3]
          exact Row.new _ _ _
        have HW3e := Lib.hid hw3
        clear hw3
        go_upto_region 28 with (fail)
        rw [← HW3e.out]
        generalize w2.heap.size = q at *
        by_cases hcb : n - nx < nm
        · have hcbi : (n : Int) - (nx : Int) < (nm : Int) := by omega
          have HB : Hid (bytesR xs k nx nm = .bad 3 n) := Lib.hid (by unfold bytesR; rw [H.out.sl.len, if_pos hcb])
          have hi2 := res_size (err7 3 n) rfl
          have ho2 : (err7 3 n).all (·.oneCell') = true := by simp [err7, Value.oneCell']
          have hr := HW3.out.2.2.1
          clear hs
          go_wp2_with (refine wpList_store_row rfl 36 _ _ rfl g _ rfl rfl _ _ hr hi2 rfl ho2 ?_)
          refine bodyPost_ret (results_cell_row rfl _ _ g _ (err7 3 n) (0, 0) _ rfl (setRow_heap w3 g _ _ _ _ hr) Tryd.underlying36 rfl hi2) rfl ?_
          try rw [HNX.out]
          rw [HB.out]
          exact ⟨rfl, below_setRow HW3.out.2.1 HG.out _⟩
        · have hcbi : ¬ (n : Int) - (nx : Int) < (nm : Int) := by omega
          have hnn : nx + nm ≤ n := by omega
          have hw8 : IntKind.i64.wrap (nm : Int) = (nm : Int) := by rw [IntKind.wrap_i64]; omega
          have hw9 : IntKind.i64.wrap ((nx : Int) + (nm : Int)) = (nx : Int) + (nm : Int) := by rw [IntKind.wrap_i64]; omega
          have HF : Hid (bytesR xs k nx nm = match (if k = 3 then findBad ((xs.drop nx).take nm) nx else none) with
            | some i => .bad 5 i
            | none => .good (.node (k : Int) 0 ((xs.drop nx).take nm) []) (nx + nm)) := Lib.hid (by unfold bytesR; rw [if_neg (by rw [H.out.sl.len]; omega)])
          have HYL : Hid (((xs.drop nx).take nm).length = nm) := Lib.hid (by rw [List.length_take, List.length_drop, H.out.sl.len]; omega)
          have HYA : Hid (∀ j, j < nm → ((xs.drop nx).take nm).getD j 0 = xs.getD (nx + j) 0) := Lib.hid (fun j hj => by simp [List.getD, List.getElem?_drop, hj])
          have hcut := (H.out.sl.past HW3.out.2.1).cut2 (i := nx) (m := nm) (by omega)
          have hs1 := slice_cut8 (some ⟨b, o, none⟩) n c nx nm (by omega) H.out.sl.cap
          generalize (if c = nx then some (⟨b, o, none⟩ : Addr) else (some (⟨b, o, none⟩ : Addr)).map (·.add nx)) = SA at *
          have HCT := Lib.hid hcut
          generalize (xs.drop nx).take nm = ys at *
          clear hs hcut
          go_wp2_with fail
          go_loopg [14] nm (fun q s14 wx => ∃ j : Nat, j ≤ nm ∧ q = nm - j ∧ s14 = .int .i64 ((nx : Int) + (j : Int)) ∧ Hid (k = 3 → findBad (ys.drop j) (nx + j) = findBad ys nx) ∧ Hid (wx = w3))
          case atStart => exact ⟨0, Nat.zero_le _, rfl, by simp, Lib.hid (fun _ => rfl), Lib.hid rfl⟩
          case round =>
            obtain ⟨j, hj, hgk, rfl, HB, HO⟩ := hrel
            have HGK := Lib.hid hgk
            clear hgk
            have hj0 : (0 : Int) ≤ (nx : Int) + (j : Int) := by omega
            by_cases hlt3 : j < nm
            · have hji : (nx : Int) + (j : Int) < (nx : Int) + (nm : Int) := by omega
              have hjn : (nx : Int) + (j : Int) < (n : Int) := by omega
              have htj : ((nx : Int) + (j : Int)).toNat = nx + j := by omega
              by_cases hk3 : k = 3
              · have hcell : wr.cell? ⟨b, o + (nx + j), none⟩ = some (.int .u8 (xs.getD (nx + j) 0)) := by
                  have h := HC.out (nx + j) (by omega)
                  rw [HO.out, Below.cell HW3.out.2.1 (cell_lt h)]
                  exact h
                have hrg : 0 ≤ xs.getD (nx + j) 0 ∧ xs.getD (nx + j) 0 < 256 := H.out.sl.rng _ (by rw [List.getD_eq_getElem?_getD, List.getElem?_eq_getElem (by rw [H.out.sl.len]; omega)]; exact List.getElem_mem _)
                have HYJ : Hid (ys.drop j = xs.getD (nx + j) 0 :: ys.drop (j + 1)) := Lib.hid (by
                  rw [List.drop_eq_getElem_cons (by rw [HYL.out]; exact hlt3), ← HYA.out j hlt3]
                  congr 1
                  simp [List.getD, HYL.out, hlt3])
                obtain ⟨y, hy⟩ : ∃ y, xs.getD (nx + j) 0 = y := ⟨_, rfl⟩
                rw [hy] at hcell hrg HYJ
                obtain ⟨hy0, hy1⟩ := hrg
                clear hy
                have hk3b : ((k : Int) == 3) = true := by simp; omega
                by_cases hgood : 32 ≤ y ∧ y ≤ 126
                · obtain ⟨hg1, hg2⟩ := hgood
                  have HB2 : Hid (k = 3 → findBad (ys.drop (j + 1)) (nx + (j + 1)) = findBad ys nx) := Lib.hid (fun h3 => by
                    have h := HB.out h3
                    rw [HYJ.out, findBad_cons, if_pos ⟨hg1, hg2⟩] at h
                    exact h)
                  clear hk3
                  go_wp2_with fail
                  go_roundg (nm - (j + 1))
                  case rel => exact ⟨j + 1, by omega, rfl, by go_num, HB2, HO⟩
                  case measure => have := HGK.out; omega
                · have HBad : Hid (findBad ys nx = some (nx + j)) := Lib.hid (by
                    have h := HB.out hk3
                    rw [HYJ.out, findBad_cons, if_neg hgood] at h
                    exact h.symm)
                  have hi2 := res_size (err7 5 (nx + j)) rfl
                  have ho2 : (err7 5 (nx + j)).all (·.oneCell') = true := by simp [err7, Value.oneCell']
                  have hr := HW3.out.2.2.1
                  rw [← HO.out] at hr
                  have hcs : ((nx + j : Nat) : Int) = (nx : Int) + (j : Int) := by omega
                  unfold err7 at hi2 ho2
                  rw [hcs] at hi2 ho2
                  have HBR : Hid (bytesR xs k nx nm = .bad 5 (nx + j)) := Lib.hid (by rw [HF.out, if_pos hk3, HBad.out])
                  have HK3 := Lib.hid hk3
                  clear hk3 hcs
                  have hor : y < 32 ∨ (¬ y < 32 ∧ 126 < y) := by omega
                  have hpw : Past w wr := by rw [HO.out]; exact HW3.out.2.1
                  have HPW := Lib.hid hpw
                  clear hpw hgood
                  rcases hor with h1 | ⟨h1, h2⟩
                  all_goals
                    go_wp2_with (refine wpList_store_row rfl 36 _ _ rfl g _ rfl rfl _ _ hr hi2 rfl ho2 ?_)
                    refine bodyPost_ret (results_cell_row rfl _ _ g _ _ (0, 0) _ rfl (setRow_heap wr g _ _ _ _ hr) Tryd.underlying36 rfl hi2) rfl ?_
                    try rw [HNX.out]
                    rw [HBR.out]
                    exact ⟨by unfold badV; rw [show ((nx + j : Nat) : Int) = (nx : Int) + (j : Int) by omega]; rfl, below_setRow HPW.out HG.out _⟩
              · have hk3b : ((k : Int) == 3) = false := by simp; omega
                go_wp2_with fail
                go_roundg (nm - (j + 1))
                case rel => exact ⟨j + 1, by omega, rfl, by go_num, Lib.hid (fun h => absurd h hk3), HO⟩
                case measure => have := HGK.out; omega
            · obtain rfl : j = nm := by omega
              have hwr := HO.out
              subst hwr
              have HNone : Hid ((if k = 3 then findBad ys nx else none) = none) := Lib.hid (by
                split
                · rename_i h3
                  rw [← HB.out h3, List.drop_eq_nil_of_le (by rw [HYL.out]; exact Nat.le_refl _)]
                  rfl
                · rfl)
              have HBR : Hid (bytesR xs k nx j = .good (.node (k : Int) 0 ys []) (nx + j)) := Lib.hid (by rw [HF.out, HNone.out])
              clear HB HF
              go_wp2_with (at_builtin; refine wpList_append_sl rfl _ _ 22 5 rfl Tryd.underlying22 info8 wr.heap.size _ 0 [] rfl (own_empty wr _ rfl (Nat.le_refl _)) SA j (c - nx) ys rfl (HCT.out.past (past_alloc8 _ _)) ?a1 ?a2 ?_)
              case a1 => omega
              intro v5 w5 hown hgrow
              obtain ⟨VA, vc, rfl⟩ := own_slice hown
              have H5 : Hid (Past wr w5 ∧ Sl w5 VA j vc ys ∧ ∀ b o, VA = some ⟨b, o, none⟩ → wr.heap.size ≤ b ∧ b < w5.heap.size) := by
                refine Lib.hid ⟨(past_alloc8 wr (.cells #[] 5)).grown hgrow (by simp) (own_block_ge (own_empty wr 5 rfl (Nat.le_refl _))), Sl.of_own (by simpa using hown) HCT.out.rng, fun b o e => ?_⟩
                subst e
                exact ⟨own_block_ge hown b rfl, (hown.lt b rfl).2⟩
              clear hown hgrow
              have hq5 : Row w5 q 34 #[.int .i64 (k : Int), .int .u64 0, .slice none 0 0, .slice none 0 0] := HW3.out.2.2.2.1.past H5.out.1
              have hc5 : w5.cell? ⟨q, 2, none⟩ = some (.slice none 0 0) := hq5.cell 2
              have hf5 : w5.frozen? ⟨q, 2, none⟩ = false := hq5.fr 2
              have H6 : Hid (Past w (w5.setCell ⟨q, 2, none⟩ (.slice VA j vc)) ∧ Row (w5.setCell ⟨q, 2, none⟩ (.slice VA j vc)) q 34 #[.int .i64 (k : Int), .int .u64 0, .slice VA j vc, .slice none 0 0] ∧ Row (w5.setCell ⟨q, 2, none⟩ (.slice VA j vc)) g 36 zero7 ∧ Sl (w5.setCell ⟨q, 2, none⟩ (.slice VA j vc)) VA j vc ys ∧ ∀ b o, VA = some ⟨b, o, none⟩ → b ≠ g ∧ w.heap.size ≤ b ∧ b < (w5.setCell ⟨q, 2, none⟩ (.slice VA j vc)).heap.size) := by
                have hgq := HW3.out.2.2.2.2
                have hwg := HG.out
                have hw2s := HW3.out.2.2.2.1.lt
                refine Lib.hid ⟨Below.setCell (HW3.out.2.1.trans' H5.out.1) (by show _ ≤ q; omega) _, hq5.set 2 _, row_setOther (HW3.out.2.2.1.past H5.out.1) (by omega) _ _, H5.out.2.1.setCell hc5 (fun x h => by cases h), fun b o e => ?_⟩
                have h5 := H5.out.2.2 b o e
                have hsz : (w5.setCell ⟨q, 2, none⟩ (.slice VA j vc)).heap.size = w5.heap.size := by simp [World.setCell]
                rw [hsz]
                omega
              clear H5 hq5
              go_upto_region 36 with (fail)
              generalize w5.setCell ⟨q, 2, none⟩ (.slice VA j vc) = w6 at *
              have hrq := H6.out.2.1
              have hrg := H6.out.2.2.1
              have hiN : (Tryd.prog.info? 34).map (·.size) = some (#[Value.int .i64 (k : Int), .int .u64 0, .slice VA j vc, .slice none 0 0] : Array Value).size := by kernel_rfl
              have hi2 := res_size #[.int .i64 (k : Int), .int .u64 0, .slice VA j vc, .slice none 0 0, .int .i64 ((nx : Int) + (j : Int)), .int .i64 0, .int .i64 0] rfl
              have ho2 : (#[Value.int .i64 (k : Int), .int .u64 0, .slice VA j vc, .slice none 0 0, .int .i64 ((nx : Int) + (j : Int)), .int .i64 0, .int .i64 0] : Array Value).all (·.oneCell') = true := by simp [Value.oneCell']
              go_wp2_with (first
                | (refine wpList_load_row rfl 34 _ rfl q rfl _ _ (0, 0) _ hrq Tryd.underlying34 rfl hiN ?_)
                | (refine wpList_store_row rfl 36 _ _ rfl g _ rfl rfl _ _ hrg hi2 rfl ho2 ?_))
              refine bodyPost_ret (results_cell_row rfl _ _ g _ _ (0, 0) _ rfl (setRow_heap w6 g _ _ _ _ hrg) Tryd.underlying36 rfl hi2) rfl ?_
              try rw [HNX.out]
              rw [HBR.out]
              refine ⟨.int .i64 (k : Int), .int .u64 0, .slice VA j vc, .slice none 0 0, ?_, ?_, below_setRow H6.out.1 HG.out _⟩
              · rw [show ((nx + j : Nat) : Int) = (nx : Int) + (j : Int) by omega]
              · intro w'' hag
                refine .mk (fun _ => undef) (fun _ => undef) (fun _ => undef) (fun _ => undef) (by omega) (by omega) (sl_agree H6.out.2.2.2.1 fun b o e => ?_) rfl (Nat.le_refl _) (Nat.zero_le _) (fun _ => rfl) (fun h => absurd h (Nat.lt_irrefl 0)) (fun i hi => absurd hi (by omega))
                have hb := H6.out.2.2.2.2 b o e
                rw [hag b hb.2.1 (by simpa [World.setRow] using hb.2.2), setRow_other _ _ _ _ hb.1]


end Go.Proofs.YtmhgpdfllpgjpaaDoor
