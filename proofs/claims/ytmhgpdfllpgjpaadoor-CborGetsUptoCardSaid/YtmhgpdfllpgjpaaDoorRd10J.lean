/- The reference's reader: a number. -/
import Derived.Test.YtmhgpdfllpgjpaaDoorRd10I
namespace Go.Proofs.YtmhgpdfllpgjpaaDoor
open Go.RowKit
set_option linter.unusedVariables false

set_option maxRecDepth 100000 in
theorem slice_cut8 (A : Option Addr) (n c i m : Nat) (h : i + m ≤ n) (hc : n ≤ c) (w : World) : (Instr.slice 22 (.slice A n c) (some (.int .i64 (i : Int))) (some (.int .i64 ((i : Int) + (m : Int)))) none).run Tryd.prog w = .ok (.slice (if c = i then A else A.map (·.add i)) m (c - i)) w := by
  rw [run_slice_lh w 22 A n c Tryd.underlying22 .i64 .i64 (i : Int) ((i : Int) + (m : Int)) (by omega) (by omega) (by omega)]
  have hs : (sizeOf (Tryd.prog.elem 22)).run Tryd.prog w = .ok 1 w := by kernel_rfl
  rw [hs]
  simp only [Result.andThen, sliced, Int.toNat_natCast, show ((i : Int) + (m : Int)).toNat = i + m by omega]
  rw [Nat.add_sub_cancel_left, Nat.mul_one]
theorem sl_agree {w w' : World} {A : Option Addr} {n c : Nat} {xs : List Int} (h : Sl w A n c xs) (hA : ∀ b o, A = some ⟨b, o, none⟩ → w'.heap[b]? = w.heap[b]?) : Sl w' A n c xs :=
  ⟨h.len, h.cap, h.big, fun hn => by
    obtain ⟨b, o, rfl, hc⟩ := h.bytes hn
    refine ⟨b, o, rfl, fun i hi => ?_⟩
    rw [World.cell?_of_block (w := w) (hA b o rfl)]
    exact hc i hi, h.rng, h.nil0⟩
theorem row_setOther {w : World} {g h : Nat} {t : TypeId} {cs : Array Value} (r : Row w g t cs) (hne : h ≠ g) (o : Nat) (v : Value) : Row (w.setCell ⟨h, o, none⟩ v) g t cs := by
  unfold Row at r ⊢
  simp [World.setCell, Array.getElem?_modify, hne, r]
/-- A tree that lies in the blocks that are new since w0: whatever else changes, it is there. -/
def Lives (w0 w' : World) (v : Value) (t : T) : Prop := ∀ w'', (∀ k, w0.heap.size ≤ k → k < w'.heap.size → w''.heap[k]? = w'.heap[k]?) → InM w'' v t
def ReadR (r : R10) (w : World) (e : Ending) (w' : World) : Prop :=
  match r with
  | .bad c a => e = .returned (badV c a) ∧ Past w w'
  | .good t nx => ∃ x y z u, e = .returned (.agg #[x, y, z, u, .int .i64 (nx : Int), .int .i64 0, .int .i64 0]) ∧ Lives w w' (.agg #[x, y, z, u]) t ∧ Past w w'

set_option maxHeartbeats 4000000 in
set_option maxRecDepth 100000 in
theorem read_num (w : World) (b o n c p : Nat) (xs : List Int) (x : Int) (k l : Nat) (ab : Int) (hn : n ≤ 1048576) (h : At10 w (some ⟨b, o, none⟩) n c xs p x k l) (hk : k ≤ 5) (hl : l ≤ 27) (hab : ab < 8) (hshort : p + 1 + szOf l ≤ n) (hlen : hsz (numAt xs p l) = szOf l) (hk2 : k < 2) :
    Calls Tryd.prog 34 #[.slice (some ⟨b, o, none⟩) n c, .int .i64 (p : Int), .int .i64 ab] w (ReadR (.good (.node (k : Int) (numAt xs p l : Int) [] []) (p + 1 + szOf l)) w) := by
  have HSH := Lib.hid hshort
  clear hshort
  have HLE := Lib.hid hlen
  clear hlen
  obtain ⟨b', o', eA, hc⟩ := h.sl.bytes (by have := h.lt; omega)
  obtain ⟨rfl, rfl⟩ : b = b' ∧ o = o' := by
    simp only [Option.some.injEq, Addr.mk.injEq] at eA
    exact ⟨eA.1, eA.2.1⟩
  have g0 := hc p h.lt
  rw [h.byte] at g0
  have hlt := h.lt
  have hx := h.rng
  have hdv := h.div
  have hmd := h.mod
  have hp0 : (0 : Int) ≤ (p : Int) := by omega
  have hpn : (p : Int) < (n : Int) := by omega
  have hpp : ¬ (n : Int) ≤ (p : Int) := by omega
  have hxw : IntKind.i64.wrap x = x := IntWalk.i64_in _ (by omega)
  have hk2 : ¬ (5 : Int) < (k : Int) := by omega
  have hl2 : ¬ (27 : Int) < (l : Int) := by omega
  have hab2 : ¬ (8 : Int) ≤ ab := by omega
  have hkw : wrap64 (k : Int) = (k : Int) := IntWalk.wrap64_in _ (by omega)
  have H := Lib.hid h
  have HC := Lib.hid hc
  have g1 : (w.alloc (.cells #[.int .i64 0, .int .u64 0, .slice none 0 0, .slice none 0 0, .int .i64 0, .int .i64 0, .int .i64 0] 36)).cell? ⟨b, o + p, none⟩ = some (.int .u8 x) := by
    rw [Below.cell (past_alloc8 w _) (cell_lt g0)]
    exact g0
  clear h hc eA
  go_enter Tryd.func34, Tryd.ntmps34
  go_upto_if 52 with (fail)
  try rw [hkw]
  obtain ⟨w1, hw1⟩ : ∃ w1, w1 = w.alloc (.cells #[.int .i64 0, .int .u64 0, .slice none 0 0, .slice none 0 0, .int .i64 0, .int .i64 0, .int .i64 0] 36) := ⟨_, rfl⟩
  have HW1 : Hid (Past w w1 ∧ Row w1 w.heap.size 36 zero7) := by
    rw [hw1]
    exact ⟨past_alloc8 _ _, Row.new _ _ _⟩
  rw [← hw1]
  obtain ⟨g, hg⟩ : ∃ g, w.heap.size = g := ⟨_, rfl⟩
  have HG : Hid (w.heap.size ≤ g) := Lib.hid (by omega)
  rw [hg] at HW1 ⊢
  clear hg hw1 g0 g1 hxw hkw
  have HSZ : Hid (szOf l ≤ 8) := Lib.hid (szOf_le l)
  obtain ⟨s, hs⟩ : ∃ s, szOf l = s := ⟨_, rfl⟩
  have HS := Lib.hid hs
  go_cut [9, 10] (fun s9 s10 wx => s9 = .int .i64 (s : Int) ∧ s10 = .int .u64 (zI xs p l 0) ∧ Hid (Past w wx ∧ Row wx g 36 zero7))
  case first =>
    by_cases hl24 : l < 24
    · have hb : ¬ (24 : Int) ≤ (l : Int) := by omega
      have hz : zI xs p l 0 = (l : Int) := by unfold zI; rw [if_pos hl24]
      have hs0 : (s : Int) = 0 := by rw [← hs]; unfold szOf; rw [if_pos hl24]; rfl
      have HZ := Lib.hid (And.intro hz hs0)
      clear hz hs0 hs
      go_wp2_with fail
      go_meet
      case rel => exact ⟨by rw [HZ.out.2], by rw [HZ.out.1], HW1⟩
    · have hb : (24 : Int) ≤ (l : Int) := by omega
      have hz : zI xs p l 0 = 0 := by unfold zI; rw [if_neg hl24]; rfl
      obtain ⟨j, rfl⟩ : ∃ j, l = 24 + j := ⟨l - 24, by omega⟩
      have hj : j < 4 := by omega
      have hsub : ((24 + j : Nat) : Int) - 24 = (j : Int) := by omega
      have hw2 : IntKind.i64.wrap (((24 + j : Nat) : Int) - 24) = (j : Int) := by rw [IntKind.wrap_i64]; omega
      have hj0 : (0 : Int) ≤ (j : Int) := by omega
      have hj4 : (j : Int) < 4 := by omega
      have hcell : (w1.alloc (.cells #[.int .i64 1, .int .i64 2, .int .i64 4, .int .i64 8] 3)).cell? ⟨w1.heap.size, j, none⟩ = some (.int .i64 (s : Int)) := by
        rw [(Row.new w1 3 _).cell, ← hs]
        obtain rfl | rfl | rfl | rfl : j = 0 ∨ j = 1 ∨ j = 2 ∨ j = 3 := by omega
        all_goals rfl
      have HZ := Lib.hid hz
      have HW2 : Hid (Past w (w1.alloc (.cells #[.int .i64 1, .int .i64 2, .int .i64 4, .int .i64 8] 3)) ∧ Row (w1.alloc (.cells #[.int .i64 1, .int .i64 2, .int .i64 4, .int .i64 8] 3)) g 36 zero7) :=
        Lib.hid ⟨HW1.out.1.trans' (past_alloc8 _ _), HW1.out.2.past (past_alloc8 _ _)⟩
      clear hz hs hl24
      go_wp2_with fail
      go_meet
      case rel => exact ⟨rfl, by rw [HZ.out], HW2⟩
  case rest =>
    obtain ⟨rfl, rfl, HW⟩ := hcut
    have hs8 : s ≤ 8 := by rw [← hs]; exact szOf_le l
    have HN : Hid (zI xs p l s = (numAt xs p l : Int)) := Lib.hid (by rw [← hs]; exact zI_num xs H.out.sl.rng p l)
    have hnb := num_bd xs H.out.sl.rng p l
    have hshort := HSH.out
    rw [hs] at hshort
    have hw3 : IntKind.i64.wrap ((p : Int) + 1) = (p : Int) + 1 := by rw [IntKind.wrap_i64]; omega
    have hw4 : IntKind.i64.wrap ((p : Int) + 1 + (s : Int)) = (p : Int) + 1 + (s : Int) := by rw [IntKind.wrap_i64]; omega
    have hl1 : ¬ (n : Int) < (p : Int) + 1 + (s : Int) := by omega
    have HL24 : Hid (0 < s → ¬ l < 24) := Lib.hid (fun h0 h1 => by
      rw [← hs] at h0
      unfold szOf at h0
      rw [if_pos h1] at h0
      omega)
    have HHD : Hid (∀ w, Calls Tryd.prog 26 #[.int .i64 0, .int .u64 (numAt xs p l : Int)] w (HeadP (headB 0 (numAt xs p l)) w)) := Lib.hid (fun w => rhead_any 0 (numAt xs p l) (by omega) hnb w)
    go_wp2_with fail
    go_loopg [10, 12] s (fun q s10 s12 wx => ∃ i : Nat, i ≤ s ∧ q = s - i ∧ s10 = .int .u64 (zI xs p l i) ∧ s12 = .int .i64 (i : Int) ∧ Hid (wx = wc))
    case atStart => exact ⟨0, Nat.zero_le _, rfl, rfl, rfl, Lib.hid rfl⟩
    case round =>
      obtain ⟨i, hi, hgk, rfl, rfl, HO⟩ := hrel
      have HGK := Lib.hid hgk
      clear hgk
      by_cases hlt2 : i < s
      · have hcell : wr.cell? ⟨b, o + (p + 1 + i), none⟩ = some (.int .u8 (xs.getD (p + 1 + i) 0)) := by
          have h := HC.out (p + 1 + i) (by omega)
          rw [HO.out, Below.cell HW.out.1 (cell_lt h)]
          exact h
        have hrg : 0 ≤ xs.getD (p + 1 + i) 0 ∧ xs.getD (p + 1 + i) 0 < 256 := H.out.sl.rng _ (by rw [List.getD_eq_getElem?_getD, List.getElem?_eq_getElem (by rw [H.out.sl.len]; omega)]; exact List.getElem_mem _)
        have hzb := zI_bd xs H.out.sl.rng p l i (HL24.out (by omega))
        have hz7 : zI xs p l i < 72057594037927936 := by
          have h4 : (256 : Int) ^ i ≤ 256 ^ 7 := p256' (by omega)
          omega
        have HST : Hid (zI xs p l (i + 1) = zI xs p l i * 256 + xs.getD (p + 1 + i) 0) := Lib.hid (zI_step xs p l i (HL24.out (by omega)) (by rw [H.out.sl.len]; omega))
        obtain ⟨y, hy⟩ : ∃ y, xs.getD (p + 1 + i) 0 = y := ⟨_, rfl⟩
        rw [hy] at hcell hrg HST
        obtain ⟨hy0, hy1⟩ := hrg
        have hz0 := hzb.1
        clear hy hzb
        generalize zI xs p l i = z at *
        have hi0 : (0 : Int) ≤ (i : Int) := by omega
        have hpi : (p : Int) + 1 + (i : Int) < (n : Int) := by omega
        have hpi0 : (0 : Int) ≤ (p : Int) + 1 + (i : Int) := by omega
        have hti : ((p : Int) + 1 + (i : Int)).toNat = p + 1 + i := by omega
        have hw5 : IntKind.i64.wrap ((p : Int) + 1 + (i : Int)) = (p : Int) + 1 + (i : Int) := by rw [IntKind.wrap_i64]; omega
        have hii : (i : Int) < (s : Int) := by omega
        go_wp2_with fail
        go_roundg (s - (i + 1))
        case rel => exact ⟨i + 1, by omega, rfl, by rw [HST.out], by go_num, HO⟩
        case measure => have := HGK.out; omega
      · obtain rfl : i = s := by omega
        have hwr := HO.out
        subst hwr
        rw [HN.out]
        generalize hnm : numAt xs p l = nm at *
        have hlen := HLE.out
        rw [hs] at hlen
        have hneb : (1 + (hsz nm : Int) != 1 + (i : Int)) = false := by simp; omega
        have hln := headB_len 0 nm
        clear hlen
        generalize hsz nm = z at *
        go_wp2_with fail
        refine (HHD.out _).mono ?_
        rintro e w2 ⟨NA, nc, rfl, _, hp⟩
        rw [hln]
        have HW2 : Hid (Past w w2 ∧ Row w2 g 36 zero7) := Lib.hid ⟨HW.out.1.trans' hp, HW.out.2.past hp⟩
        clear hp
        have hkb : (k : Int) < 2 := by omega
        go_upto_region 26 with (fail)
        obtain ⟨w3, hw3⟩ : ∃ w3, w3 = w2.alloc (.cells #[.int .i64 (k : Int), .int .u64 (nm : Int), .slice none 0 0, .slice none 0 0] 34) := ⟨_, rfl⟩
        have HW3 : Hid (Past w w3 ∧ Row w3 g 36 zero7 ∧ Row w3 w2.heap.size 34 #[.int .i64 (k : Int), .int .u64 (nm : Int), .slice none 0 0, .slice none 0 0]) := by
          rw [hw3]
          exact Lib.hid ⟨HW2.out.1.trans' (past_alloc8 _ _), HW2.out.2.past (past_alloc8 _ _), Row.new _ _ _⟩
        rw [← hw3]
        clear hw3
        generalize w2.heap.size = q at *
        have hrq := HW3.out.2.2
        have hrg := HW3.out.2.1
        have hiN : (Tryd.prog.info? 34).map (·.size) = some (#[Value.int .i64 (k : Int), .int .u64 (nm : Int), .slice none 0 0, .slice none 0 0] : Array Value).size := by kernel_rfl
        have hi2 := res_size #[.int .i64 (k : Int), .int .u64 (nm : Int), .slice none 0 0, .slice none 0 0, .int .i64 ((p : Int) + 1 + (i : Int)), .int .i64 0, .int .i64 0] rfl
        have ho2 : (#[Value.int .i64 (k : Int), .int .u64 (nm : Int), .slice none 0 0, .slice none 0 0, .int .i64 ((p : Int) + 1 + (i : Int)), .int .i64 0, .int .i64 0] : Array Value).all (·.oneCell') = true := by simp [Value.oneCell']
        go_wp2_with (first
          | (refine wpList_load_row rfl 34 _ rfl q rfl _ _ (0, 0) _ hrq Tryd.underlying34 rfl hiN ?_)
          | (refine wpList_store_row rfl 36 _ _ rfl g _ rfl rfl _ _ hrg hi2 rfl ho2 ?_))
        refine bodyPost_ret (results_cell_row rfl _ _ g _ _ (0, 0) _ rfl (setRow_heap w3 g _ _ _ _ hrg) Tryd.underlying36 rfl hi2) rfl ?_
        refine ⟨.int .i64 (k : Int), .int .u64 (nm : Int), .slice none 0 0, .slice none 0 0, ?_, ?_, below_setRow HW3.out.1 HG.out _⟩
        · rw [HS.out, show ((p + 1 + i : Nat) : Int) = (p : Int) + 1 + (i : Int) by omega]
        · intro w'' hag
          exact .mk (fun _ => undef) (fun _ => undef) (fun _ => undef) (fun _ => undef) (by omega) (by omega) (Sl.nil _) rfl (Nat.le_refl _) (Nat.zero_le _) (fun _ => rfl) (fun h => absurd h (Nat.lt_irrefl 0)) (fun i hi => absurd hi (by omega))


end Go.Proofs.YtmhgpdfllpgjpaaDoor
