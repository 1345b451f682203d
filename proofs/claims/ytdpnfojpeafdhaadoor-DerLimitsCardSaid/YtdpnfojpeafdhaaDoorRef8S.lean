/- The reference's reading of a node: the way through the length. -/
import Derived.Test.YtdpnfojpeafdhaaDoorRef8R
import Derived.Deep.DeepCutAuto
import Derived.Deep.Cut
import Derived.Deep.WholeRow
import Derived.BigFrame
import Derived.Laws.Tables
import Derived.Laws.CopyOwn
namespace Go.Proofs.YtdpnfojpeafdhaaDoor
open Go.RowKit
set_option linter.unusedVariables false

theorem beN_lt (xs : List Int) (p : Nat) (hr : ∀ i, 0 ≤ xs.getD i 0 ∧ xs.getD i 0 < 256) : ∀ k, beN xs p k < 256 ^ k
  | 0 => by simp [beN]
  | k + 1 => by
    have h := beN_lt xs p hr k
    have h2 := hr (p + k)
    simp only [beN]
    rw [Nat.pow_succ]
    omega
theorem getD_rng {w : World} {A : Option Addr} {n c : Nat} {xs : List Int} (h : Sl w A n c xs) (i : Nat) : 0 ≤ xs.getD i 0 ∧ xs.getD i 0 < 256 := by
  by_cases hi : i < xs.length
  · refine h.rng _ ?_
    rw [List.getD_eq_getElem?_getD, List.getElem?_eq_getElem hi]
    exact List.getElem_mem _
  · rw [List.getD_eq_getElem?_getD, List.getElem?_eq_none (by omega)]
    simp
/-- The cells of a result with an error. -/
abbrev err6 (c a : Nat) : Array Value := #[.int .u8 0, .slice none 0 0, .slice none 0 0, .int .i64 0, .int .i64 (c : Int), .int .i64 (a : Int)]
theorem res_size (cs : Array Value) (h : cs.size = 6) : (Tryd.prog.info? 35).map (·.size) = some cs.size := by rw [h]; kernel_rfl
abbrev zero6 : Array Value := #[.int .u8 0, .slice none 0 0, .slice none 0 0, .int .i64 0, .int .i64 0, .int .i64 0]

set_option maxHeartbeats 2000000 in
set_option maxRecDepth 100000 in
theorem read_e7 (b o n c at0 fin : Nat) (above : Int) (xs : List Int) (T0 : Int) (w : World) (k : Nat) (h : Rl w b o n at0 fin xs T0 (k + 128)) (hS : Sl w (some ⟨b, o, none⟩) n c xs) (hab : above < 8) (hk1 : 1 ≤ k) (hk3 : k ≤ 3) (hin : at0 + 2 + k ≤ fin)
    (hx : beN xs (at0 + 2) k < 128 ∨ (numB (beN xs (at0 + 2) k)).length ≠ k) :
    Calls Tryd.prog 28 #[.slice (some ⟨b, o, none⟩) n c, .int .i64 (at0 : Int), .int .i64 (fin : Int), .int .i64 above] w (ReadP (.err 6 (at0 + 1)) w) := by
  have hn := h.hn
  have hf := h.hf
  have ha := h.ha
  have h0 := h.h0
  have h1 := h.h1
  have hc := h.hcell
  have hl := h.hlt
  have hm := h.hmore
  have hc2 := h.hcell2
  have HT := Lib.hid (fun w => rtag_any T0 w h0 h1)
  rw [h.hgood] at HT
  have hb1 : (((k + 128 : Nat) : Int) == 128) = false := by simp; omega
  have hb2 : ((k : Int) + 128 == 128) = false := by simp; omega
  have hk1i : 1 ≤ (k : Int) := by omega
  have hk3i : (k : Int) ≤ 3 := by omega
  have hini : (at0 : Int) + 2 + (k : Int) ≤ (fin : Int) := by omega
  have HC : Hid (∀ i, i < k → w.cell? ⟨b, o + (at0 + 2 + i), none⟩ = some (.int .u8 (xs.getD (at0 + 2 + i) 0))) := Lib.hid fun i hi => by
    obtain ⟨b', o', e, hc, _⟩ := hS.byte (at0 + 2 + i) (by omega)
    injection e with e
    injection e with e1 e2
    subst e1 e2
    exact hc
  have HRG := Lib.hid (getD_rng hS)
  have HBE := Lib.hid (beN_lt xs (at0 + 2) HRG.out)
  have hbk : beN xs (at0 + 2) k < 16777216 := by
    have := HBE.out k
    have h2 : (256 : Nat) ^ k ≤ 256 ^ 3 := Nat.pow_le_pow_right (by omega) hk3
    omega
  have HNM := Lib.hid (fun w => rnumber_any (beN xs (at0 + 2) k) (by omega) w)
  have HX := Lib.hid hx
  clear h hS hx
  go_enter Tryd.func28, Tryd.ntmps28
  go_wp2_with fail
  refine (HT.out _).mono ?_
  rintro e w' ⟨rfl, rfl⟩
  go_wp2_with fail
  obtain ⟨w1, hw1⟩ : ∃ w1, w1 = w.alloc (.cells zero6 35) := ⟨_, rfl⟩
  have HR : Hid (Past w w1 ∧ Row w1 w.heap.size 35 zero6) := by
    rw [hw1]
    exact ⟨past_alloc8 _ _, Row.new _ _ _⟩
  rw [← hw1]
  have HC1 : Hid (∀ i, i < k → w1.cell? ⟨b, o + (at0 + 2 + i), none⟩ = some (.int .u8 (xs.getD (at0 + 2 + i) 0))) := Lib.hid fun i hi => by
    have h := HC.out i hi
    rw [Below.cell HR.out.1 (cell_lt h)]
    exact h
  clear hw1 HC hc hc2
  obtain ⟨g, hg⟩ : ∃ g, w.heap.size = g := ⟨_, rfl⟩
  have HG : Hid (w.heap.size ≤ g) := Lib.hid (by omega)
  rw [hg] at HR hl ⊢
  clear hg
  go_loopg [9, 12] k (fun q s9 s12 wx => ∃ i : Nat, i ≤ k ∧ q = k - i ∧ s9 = .int .i64 (beN xs (at0 + 2) i : Int) ∧ s12 = .int .i64 (i : Int) ∧ Hid (wx = w1))
  case atStart => exact ⟨0, Nat.zero_le _, rfl, rfl, rfl, Lib.hid rfl⟩
  case round =>
    obtain ⟨i, hi, hgk, rfl, rfl, HO⟩ := hrel
    have HGK := Lib.hid hgk
    clear hgk
    by_cases hlt : i < k
    · have hcell := HC1.out i hlt
      rw [← HO.out] at hcell
      have hrg := HRG.out (at0 + 2 + i)
      have hbe := HBE.out i
      have hb3 : beN xs (at0 + 2) i < 65536 := by
        have h2 : (256 : Nat) ^ i ≤ 256 ^ 2 := Nat.pow_le_pow_right (by omega) (by omega)
        omega
      have HS : Hid (beN xs (at0 + 2) (i + 1) = beN xs (at0 + 2) i * 256 + (xs.getD (at0 + 2 + i) 0).toNat) := Lib.hid rfl
      obtain ⟨y, hy⟩ : ∃ y : Nat, xs.getD (at0 + 2 + i) 0 = (y : Int) := ⟨(xs.getD (at0 + 2 + i) 0).toNat, by omega⟩
      rw [hy] at hcell hrg HS
      clear hy hbe
      generalize beN xs (at0 + 2) i = z at *
      go_wp2_with fail
      go_roundg (k - (i + 1))
      case rel => exact ⟨i + 1, by omega, rfl, by rw [HS.out, Int.toNat_natCast]; go_num, by go_num, HO⟩
      case measure => have := HGK.out; omega
    · obtain rfl : i = k := by omega
      have hwr := HO.out
      subst hwr
      generalize beN xs (at0 + 2) i = l at *
      have hi2 := res_size (err6 6 (at0 + 1)) rfl
      have ho2 : (err6 6 (at0 + 1)).all (·.oneCell') = true := by simp [err6, Value.oneCell']
      by_cases hs : l < 128
      · have hr := HR.out.2
        go_wp2_with (refine wpList_store_row rfl 35 _ _ rfl g _ rfl rfl _ _ hr hi2 rfl ho2 ?_)
        refine bodyPost_ret (results_cell_row rfl _ _ g _ (err6 6 (at0 + 1)) (0, 0) _ rfl (setRow_heap wr g _ _ _ _ hr) Tryd.underlying35 rfl hi2) rfl ?_
        exact ⟨rfl, below_setRow HR.out.1 HG.out _⟩
      · have hne : (numB l).length ≠ i := by
          rcases HX.out with h | h
          · exact absurd h hs
          · exact h
        have HNM' := Lib.hid HNM.out
        generalize (numB l).length = m at *
        have hneb : ((m : Int) != (i : Int)) = true := by simp; omega
        go_wp2_with fail
        refine (HNM.out _).mono ?_
        rintro e w2 ⟨NA, nc, rfl, _, hp⟩
        have hr := HR.out.2.past hp
        have HP2 := Lib.hid (HR.out.1.trans' hp)
        go_wp2_with (refine wpList_store_row rfl 35 _ _ rfl g _ rfl rfl _ _ hr hi2 rfl ho2 ?_)
        refine bodyPost_ret (results_cell_row rfl _ _ g _ (err6 6 (at0 + 1)) (0, 0) _ rfl (setRow_heap w2 g _ _ _ _ hr) Tryd.underlying35 rfl hi2) rfl ?_
        exact ⟨rfl, below_setRow HP2.out HG.out _⟩

set_option maxRecDepth 100000 in
theorem slice_cut8 (A : Option Addr) (n c i m : Nat) (h : i + m ≤ n) (hc : n ≤ c) (w : World) : (Instr.slice 22 (.slice A n c) (some (.int .i64 (i : Int))) (some (.int .i64 ((i : Int) + (m : Int)))) none).run Tryd.prog w = .ok (.slice (if c = i then A else A.map (·.add i)) m (c - i)) w := by
  rw [run_slice_lh w 22 A n c Tryd.underlying22 .i64 .i64 (i : Int) ((i : Int) + (m : Int)) (by omega) (by omega) (by omega)]
  have hs : (sizeOf (Tryd.prog.elem 22)).run Tryd.prog w = .ok 1 w := by kernel_rfl
  rw [hs]
  simp only [Result.andThen, sliced, Int.toNat_natCast, show ((i : Int) + (m : Int)).toNat = i + m by omega]
  rw [Nat.add_sub_cancel_left, Nat.mul_one]
theorem sl_setRow {w : World} {A : Option Addr} {n c g : Nat} {xs : List Int} (cs : Array Value) (h : Sl w A n c xs) (hA : ∀ b o, A = some ⟨b, o, none⟩ → b ≠ g) : Sl (w.setRow g cs) A n c xs :=
  ⟨h.len, h.cap, h.big, fun hn => by
    obtain ⟨b, o, rfl, hc⟩ := h.bytes hn
    refine ⟨b, o, rfl, fun i hi => ?_⟩
    rw [World.cell?_of_block (w := w) (setRow_other w g b cs (hA b o rfl))]
    exact hc i hi, h.rng, h.nil0⟩
theorem sl_agree {w w' : World} {A : Option Addr} {n c : Nat} {xs : List Int} (h : Sl w A n c xs) (hA : ∀ b o, A = some ⟨b, o, none⟩ → w'.heap[b]? = w.heap[b]?) : Sl w' A n c xs :=
  ⟨h.len, h.cap, h.big, fun hn => by
    obtain ⟨b, o, rfl, hc⟩ := h.bytes hn
    refine ⟨b, o, rfl, fun i hi => ?_⟩
    rw [World.cell?_of_block (w := w) (hA b o rfl)]
    exact hc i hi, h.rng, h.nil0⟩
theorem row_setOther {w : World} {g h : Nat} {t : TypeId} {cs : Array Value} (r : Row w g t cs) (hne : h ≠ g) (o : Nat) (v : Value) : Row (w.setCell ⟨h, o, none⟩ v) g t cs := by
  unfold Row at r ⊢
  simp [World.setCell, Array.getElem?_modify, hne, r]
/-- What the length has led to. -/
def Good (xs : List Int) (at0 fin L nx l : Nat) : Prop :=
  (L < 128 ∧ nx = at0 + 2 ∧ l = L) ∨ ∃ k, L = k + 128 ∧ 1 ≤ k ∧ k ≤ 3 ∧ at0 + 2 + k ≤ fin ∧ 128 ≤ beN xs (at0 + 2) k ∧ (numB (beN xs (at0 + 2) k)).length = k ∧ nx = at0 + 2 + k ∧ l = beN xs (at0 + 2) k
/-- The rest of a node behind its length. -/
def restW (xs : List Int) (lv : Nat) (T0 : Int) (fin nx l : Nat) : Res :=
  if fin < nx + l then .err 3 fin
  else if simB T0 = true then .ok (.node T0 ((xs.drop nx).take l) []) (nx + l)
  else kidsW (rd xs lv) T0 (nx + l) l nx []

set_option maxHeartbeats 1000000 in
set_option maxRecDepth 100000 in
theorem read_leaf (b o n c at0 fin lv : Nat) (above : Int) (xs : List Int) (T0 : Int) (w : World) (L nx l : Nat) (h : Rl w b o n at0 fin xs T0 L) (hS : Sl w (some ⟨b, o, none⟩) n c xs) (hab0 : 0 ≤ above) (hab : above < 8) (hg : Good xs at0 fin L nx l) (hleaf : fin < nx + l ∨ simB T0 = true) :
    Calls Tryd.prog 28 #[.slice (some ⟨b, o, none⟩) n c, .int .i64 (at0 : Int), .int .i64 (fin : Int), .int .i64 above] w (ReadP (restW xs lv T0 fin nx l) w) := by
  have hn := h.hn
  have hf := h.hf
  have ha := h.ha
  have h0 := h.h0
  have h1 := h.h1
  have hc := h.hcell
  have hl := h.hlt
  have hm := h.hmore
  have hL := h.hl1
  have hc2 := h.hcell2
  have HT := Lib.hid (fun w => rtag_any T0 w h0 h1)
  rw [h.hgood] at HT
  have HRG := Lib.hid (getD_rng hS)
  have HS := Lib.hid hS
  have HGD := Lib.hid hg
  have HR := Lib.hid h
  clear h hS hg
  go_enter Tryd.func28, Tryd.ntmps28
  have hb1 : ((L : Int) == 128) = false := by
    have : L ≠ 128 := by
      rcases HGD.out with h | ⟨k, h⟩ <;> omega
    simp
    omega
  have hb2 : (L : Int) ≤ 131 := by
    rcases HGD.out with h | ⟨k, h⟩ <;> omega
  have hmi : (at0 : Int) + 1 < (fin : Int) := by omega
  go_wp2_with fail
  refine (HT.out _).mono ?_
  rintro e w' ⟨rfl, rfl⟩
  clear HT
  go_upto_if 58 with (fail)
  obtain ⟨w1, hw1⟩ : ∃ w1, w1 = w.alloc (.cells zero6 35) := ⟨_, rfl⟩
  have HW1 : Hid (Past w w1 ∧ Row w1 w.heap.size 35 zero6) := by
    rw [hw1]
    exact ⟨past_alloc8 _ _, Row.new _ _ _⟩
  rw [← hw1]
  obtain ⟨g, hg⟩ : ∃ g, w.heap.size = g := ⟨_, rfl⟩
  have HG : Hid (w.heap.size ≤ g) := Lib.hid (by omega)
  rw [hg] at HW1 hl ⊢
  clear hg hw1 hc hc2
  go_cut [9, 10] (fun s9 s10 wx => s9 = .int .i64 (l : Int) ∧ s10 = .int .i64 (nx : Int) ∧ Hid (Past w wx ∧ Row wx g 35 zero6))
  case first =>
    rcases HGD.out with ⟨h128, hnx, hll⟩ | ⟨k, hLk, hk1, hk3, hin, hbe, hnum, hnx, hll⟩
    · subst hnx hll
      have hb3 : decide (128 < (l : Int)) = false := by simp; omega
      clear HGD HRG HS HR
      go_wp2_with fail
      go_meet
      case rel => exact ⟨rfl, by go_num, HW1⟩
    · subst hLk
      have HLL := Lib.hid hll
      have HNX := Lib.hid hnx
      have hbk : beN xs (at0 + 2) k < 16777216 := by
        have h1 := beN_lt xs (at0 + 2) HRG.out k
        have h2 : (256 : Nat) ^ k ≤ 256 ^ 3 := Nat.pow_le_pow_right (by omega) hk3
        omega
      have HBE := Lib.hid (beN_lt xs (at0 + 2) HRG.out)
      have HNM := Lib.hid (fun w => rnumber_any (beN xs (at0 + 2) k) (by omega) w)
      have HNU := Lib.hid hnum
      have hk1i : 1 ≤ (k : Int) := by omega
      have hk3i : (k : Int) ≤ 3 := by omega
      have hini : (at0 : Int) + 2 + (k : Int) ≤ (fin : Int) := by omega
      have HC1 : Hid (∀ i, i < k → w1.cell? ⟨b, o + (at0 + 2 + i), none⟩ = some (.int .u8 (xs.getD (at0 + 2 + i) 0))) := Lib.hid fun i hi => by
        obtain ⟨b', o', e, hc, _⟩ := (HS.out.past HW1.out.1).byte (at0 + 2 + i) (by omega)
        injection e with e
        injection e with e1 e2
        subst e1 e2
        exact hc
      clear HGD HR hll hnx hnum hb1 hb2
      go_wp2_with fail
      go_loopg [9, 12] k (fun q s9 s12 wx => ∃ i : Nat, i ≤ k ∧ q = k - i ∧ s9 = .int .i64 (beN xs (at0 + 2) i : Int) ∧ s12 = .int .i64 (i : Int) ∧ Hid (wx = w1))
      case atStart => exact ⟨0, Nat.zero_le _, rfl, rfl, rfl, Lib.hid rfl⟩
      case round =>
        obtain ⟨i, hi, hgk, rfl, rfl, HO⟩ := hrel
        have HGK := Lib.hid hgk
        clear hgk
        by_cases hlt : i < k
        · have hcell := HC1.out i hlt
          rw [← HO.out] at hcell
          have hrg := HRG.out (at0 + 2 + i)
          have hbe := HBE.out i
          have hb3 : beN xs (at0 + 2) i < 65536 := by
            have h2 : (256 : Nat) ^ i ≤ 256 ^ 2 := Nat.pow_le_pow_right (by omega) (by omega)
            omega
          have HSS : Hid (beN xs (at0 + 2) (i + 1) = beN xs (at0 + 2) i * 256 + (xs.getD (at0 + 2 + i) 0).toNat) := Lib.hid rfl
          obtain ⟨y, hy⟩ : ∃ y : Nat, xs.getD (at0 + 2 + i) 0 = (y : Int) := ⟨(xs.getD (at0 + 2 + i) 0).toNat, by omega⟩
          rw [hy] at hcell hrg HSS
          clear hy hbe
          generalize beN xs (at0 + 2) i = z at *
          go_wp2_with fail
          go_roundg (k - (i + 1))
          case rel => exact ⟨i + 1, by omega, rfl, by rw [HSS.out, Int.toNat_natCast]; go_num, by go_num, HO⟩
          case measure => have := HGK.out; omega
        · obtain rfl : i = k := by omega
          have hwr := HO.out
          subst hwr
          clear HC1 HBE HO
          generalize beN xs (at0 + 2) i = z at *
          have hz1 : decide ((z : Int) < 128) = false := by simp; omega
          rw [HNU.out] at HNM
          have hneb : ((i : Int) != (i : Int)) = false := by simp
          go_wp2_with fail
          refine (HNM.out _).mono ?_
          rintro e w2 ⟨NA, nc, rfl, _, hp⟩
          have HP2 : Hid (Past w w2 ∧ Row w2 g 35 zero6) := Lib.hid ⟨HW1.out.1.trans' hp, HW1.out.2.past hp⟩
          clear hp
          go_wp2_with fail
          go_meet
          case rel => exact ⟨by rw [HLL.out], by rw [HNX.out]; go_num, HP2⟩
  case rest =>
    obtain ⟨rfl, rfl, HW⟩ := hcut
    have hnf : nx ≤ fin := by
      rcases HGD.out with ⟨h128, hnx, hll⟩ | ⟨k, hLk, hk1, hk3, hin, hbe, hnum, hnx, hll⟩ <;> omega
    have hlb : l < 16777216 := by
      rcases HGD.out with ⟨h128, hnx, hll⟩ | ⟨k, hLk, hk1, hk3, hin, hbe, hnum, hnx, hll⟩
      · omega
      · have h1 := beN_lt xs (at0 + 2) HRG.out k
        have h2 : (256 : Nat) ^ k ≤ 256 ^ 3 := Nat.pow_le_pow_right (by omega) hk3
        omega
    have hc : wc.cell? ⟨b, o + at0, none⟩ = some (.int .u8 T0) := by
      obtain ⟨b', o', e, hc, _⟩ := (HS.out.past HW.out.1).byte at0 (by omega)
      injection e with e
      injection e with e1 e2
      subst e1 e2
      rw [HR.out.htag] at hc
      exact hc
    clear HGD hb1 hb2 HW1 HRG
    by_cases hE : fin < nx + l
    · have hi2 := res_size (err6 3 fin) rfl
      have ho2 : (err6 3 fin).all (·.oneCell') = true := by simp [err6, Value.oneCell']
      have hr := HW.out.2
      have hEb : decide ((fin : Int) < (nx : Int) + (l : Int)) = true := by simp; omega
      have HF : Hid (restW xs lv T0 fin nx l = .err 3 fin) := Lib.hid (by unfold restW; rw [if_pos hE])
      go_wp2_with (refine wpList_store_row rfl 35 _ _ rfl g _ rfl rfl _ _ hr hi2 rfl ho2 ?_)
      refine bodyPost_ret (results_cell_row rfl _ _ g _ (err6 3 fin) (0, 0) _ rfl (setRow_heap wc g _ _ _ _ hr) Tryd.underlying35 rfl hi2) rfl ?_
      rw [HF.out]
      exact ⟨rfl, below_setRow HW.out.1 HG.out _⟩
    · have hEb : decide ((fin : Int) < (nx : Int) + (l : Int)) = false := by simp; omega
      have hnl : nx + l ≤ fin := by omega
      obtain ⟨w2, hw2⟩ : ∃ w2, w2 = wc.alloc (.cells #[.int .u8 T0, .slice none 0 0, .slice none 0 0] 33) := ⟨_, rfl⟩
      have HW2 : Hid (Past wc w2 ∧ Past w w2 ∧ Row w2 g 35 zero6 ∧ Row w2 wc.heap.size 33 #[.int .u8 T0, .slice none 0 0, .slice none 0 0] ∧ g < wc.heap.size) := by
        have hp : Past wc w2 := by rw [hw2]; exact past_alloc8 _ _
        refine Lib.hid ⟨hp, HW.out.1.trans' hp, HW.out.2.past hp, ?_, HW.out.2.lt⟩
        rw [hw2]
        exact Row.new _ _ _
      have hc2 : w2.cell? ⟨b, o + at0, none⟩ = some (.int .u8 T0) := by
        rw [Below.cell HW2.out.1 (cell_lt hc)]
        exact hc
      have HW2e := Lib.hid hw2
      clear hw2 hE
      by_cases hsim : simB T0 = true
      · have hsb : (T0 / 32 % 2 == 0) = true := hsim
        have HF : Hid (restW xs lv T0 fin nx l = .ok (.node T0 ((xs.drop nx).take l) []) (nx + l)) := Lib.hid (by unfold restW; rw [if_neg (by omega), if_pos hsim])
        clear hsim
        go_upto_region 28 with (fail)
        rw [← HW2e.out]
        generalize wc.heap.size = q at *
        have hs1 := slice_cut8 (some ⟨b, o, none⟩) n c nx l (by omega) HS.out.cap
        have hcut := (HS.out.past HW2.out.2.1).cut2 (i := nx) (m := l) (by omega)
        generalize (if c = nx then some (⟨b, o, none⟩ : Addr) else (some (⟨b, o, none⟩ : Addr)).map (·.add nx)) = SA at *
        have HCT := Lib.hid hcut
        have hlen := hcut.len
        have hw1 : IntKind.i64.wrap ((nx : Int) + (l : Int)) = (nx : Int) + (l : Int) := by rw [IntKind.wrap_i64]; omega
        generalize (xs.drop nx).take l = ys at *
        clear hcut HS HW hc
        go_wp2_with (at_builtin; refine wpList_append_sl rfl _ _ 22 5 rfl Tryd.underlying22 info8 w2.heap.size _ 0 [] rfl (own_empty w2 _ rfl (Nat.le_refl _)) SA l (c - nx) ys rfl (HCT.out.past (past_alloc8 _ _)) ?a1 ?a2 ?_)
        case a1 => omega
        case a2 => simp
        intro v5 w5 hown hgrow
        obtain ⟨VA, vc, rfl⟩ := own_slice hown
        have H5 : Hid (Past w2 w5 ∧ Sl w5 VA l vc ys ∧ ∀ b o, VA = some ⟨b, o, none⟩ → w2.heap.size ≤ b ∧ b < w5.heap.size) := by
          refine Lib.hid ⟨(past_alloc8 w2 (.cells #[] 5)).grown hgrow (by simp) (own_block_ge (own_empty w2 5 rfl (Nat.le_refl _))), Sl.of_own hown HCT.out.rng, fun b o e => ?_⟩
          subst e
          exact ⟨own_block_ge hown b rfl, (hown.lt b rfl).2⟩
        clear hown hgrow
        have hq5 : Row w5 q 33 #[.int .u8 T0, .slice none 0 0, .slice none 0 0] := HW2.out.2.2.2.1.past H5.out.1
        have hc5 : w5.cell? ⟨q, 1, none⟩ = some (.slice none 0 0) := hq5.cell 1
        have hf5 : w5.frozen? ⟨q, 1, none⟩ = false := hq5.fr 1
        have H6 : Hid (Past w (w5.setCell ⟨q, 1, none⟩ (.slice VA l vc)) ∧ Row (w5.setCell ⟨q, 1, none⟩ (.slice VA l vc)) q 33 #[.int .u8 T0, .slice VA l vc, .slice none 0 0] ∧ Row (w5.setCell ⟨q, 1, none⟩ (.slice VA l vc)) g 35 zero6 ∧ Sl (w5.setCell ⟨q, 1, none⟩ (.slice VA l vc)) VA l vc ys ∧ ∀ b o, VA = some ⟨b, o, none⟩ → b ≠ g ∧ w.heap.size ≤ b ∧ b < (w5.setCell ⟨q, 1, none⟩ (.slice VA l vc)).heap.size) := by
          have hgq := HW2.out.2.2.2.2
          have hwg := HG.out
          have hw2s := HW2.out.2.2.1.lt
          refine Lib.hid ⟨Below.setCell (HW2.out.2.1.trans' H5.out.1) (by show _ ≤ q; omega) _, hq5.set 1 _, row_setOther (HW2.out.2.2.1.past H5.out.1) (by omega) _ _, H5.out.2.1.setCell hc5 (fun x h => by cases h), fun b o e => ?_⟩
          have h5 := H5.out.2.2 b o e
          have hw02 := HW2.out.2.1.size
          have hsz : (w5.setCell ⟨q, 1, none⟩ (.slice VA l vc)).heap.size = w5.heap.size := by simp [World.setCell]
          rw [hsz]
          omega
        clear hc2 H5 hq5
        go_upto_region 30 with (fail)
        generalize w5.setCell ⟨q, 1, none⟩ (.slice VA l vc) = w6 at *
        have hrq := H6.out.2.1
        have hrg := H6.out.2.2.1
        have hiN : (Tryd.prog.info? 33).map (·.size) = some (#[Value.int .u8 T0, .slice VA l vc, .slice none 0 0] : Array Value).size := by kernel_rfl
        have hi2 := res_size #[.int .u8 T0, .slice VA l vc, .slice none 0 0, .int .i64 ((nx : Int) + (l : Int)), .int .i64 0, .int .i64 0] rfl
        have ho2 : (#[Value.int .u8 T0, .slice VA l vc, .slice none 0 0, .int .i64 ((nx : Int) + (l : Int)), .int .i64 0, .int .i64 0] : Array Value).all (·.oneCell') = true := by simp [Value.oneCell']
        go_wp2_with (first
          | (refine wpList_load_row rfl 33 _ rfl q rfl _ _ (0, 0) _ hrq Tryd.underlying33 rfl hiN ?_)
          | (refine wpList_store_row rfl 35 _ _ rfl g _ rfl rfl _ _ hrg hi2 rfl ho2 ?_))
        refine bodyPost_ret (results_cell_row rfl _ _ g _ _ (0, 0) _ rfl (setRow_heap w6 g _ _ _ _ hrg) Tryd.underlying35 rfl hi2) rfl ?_
        rw [HF.out]
        refine ⟨.int .u8 T0, .slice VA l vc, .slice none 0 0, rfl, ?_, below_setRow H6.out.1 HG.out _⟩
        intro w'' hag
        refine .mk (fun _ => undef) (fun _ => undef) (fun _ => undef) ⟨h0, by omega⟩ (sl_agree H6.out.2.2.2.1 fun b o e => ?_) rfl (Nat.zero_le _) (Nat.zero_le _) (fun _ => rfl) (fun h => absurd h (Nat.lt_irrefl 0)) (fun i hi => absurd hi (by omega))
        have hb := H6.out.2.2.2.2 b o e
        rw [hag b hb.2.1 (by simpa [World.setRow] using hb.2.2), setRow_other _ _ _ _ hb.1]
      · exact absurd hleaf (by rintro (h | h); · omega
                               · exact hsim h)

end Go.Proofs.YtdpnfojpeafdhaaDoor
