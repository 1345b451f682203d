/- The reference's reading of a node: one with kids, over the contract of the level below. -/
import Derived.Test.YtdpnfojpeafdhaaDoorKid8
namespace Go.Proofs.YtdpnfojpeafdhaaDoor
open Go.RowKit
set_option linter.unusedVariables false

theorem InM.forms {w : World} {x y z : Value} {t : T} (h : InM w (.agg #[x, y, z]) t) : ∃ tag A n c K m d, x = .int .u8 tag ∧ y = .slice A n c ∧ z = .slice K m d := by
  cases h with
  | mk v0 v1 v2 ht hb hl hm hd h0 hc hk => exact ⟨_, _, _, _, _, _, _, rfl, rfl, rfl⟩
/-- What the loop over the kids keeps. -/
structure Kw (xs : List Int) (lv : Nat) (T0 : Int) (w wx : World) (g q nx l a m f : Nat) (K : Option Addr) (d : Nat) (kids : List T) (cells : List Value) : Prop where
  fuel : nx + l ≤ a + f
  same : kidsW (rd xs lv) T0 (nx + l) l nx [] = kidsW (rd xs lv) T0 (nx + l) f a kids
  past : Past w wx
  rg : Row wx g 35 zero6
  rq : Row wx q 33 #[.int .u8 T0, .slice none 0 0, .slice K m d]
  kds : Kds wx q 33 (.slice K m d) m kids cells
  gq : g < q
theorem infoN : (Tryd.prog.info? 33).map (fun i => (i.zero, i.size, i.bytes)) = some (some (.agg #[.int .u8 0, .slice none 0 0, .slice none 0 0]), 3, 56) := by kernel_rfl
theorem three_cells (w : World) (e : TypeId) (x y z : Value) : ∀ j u, [x, y, z][j]? = some u → (w.alloc (.cells #[x, y, z] e)).cell? ((⟨w.heap.size, 0, none⟩ : Addr).add j) = some u := by
  intro j u hj
  rw [add_none, (Row.new w e #[x, y, z]).cell, Nat.zero_add]
  match j, hj with
  | 0, hj => exact hj
  | 1, hj => exact hj
  | 2, hj => exact hj
theorem hdr_err {xs : List Int} {at0 fin c a : Nat} (h : hdr xs at0 fin = .err c a) : c ≠ 0 := by
  unfold hdr at h
  generalize (xs.getD (at0 + 1) 0).toNat = L at h
  by_cases h1 : fin ≤ at0 + 1
  · rw [if_pos h1] at h
    injection h with h2 h3
    omega
  · rw [if_neg h1] at h
    by_cases h2 : L = 128 ∨ 131 < L
    · rw [if_pos h2] at h
      injection h with h2 h3
      omega
    · rw [if_neg h2] at h
      by_cases h3 : 128 < L
      · rw [if_pos h3] at h
        by_cases h4 : fin < at0 + 2 + (L - 128)
        · rw [if_pos h4] at h
          injection h with h2 h3
          omega
        · rw [if_neg h4] at h
          by_cases h5 : beN xs (at0 + 2) (L - 128) < 128 ∨ (numB (beN xs (at0 + 2) (L - 128))).length ≠ L - 128
          · rw [if_pos h5] at h
            injection h with h2 h3
            omega
          · rw [if_neg h5] at h
            cases h
      · rw [if_neg h3] at h
        cases h
theorem kidsW_err {r : Nat → Nat → Res} {tag : Int} {stop : Nat} (hr : ∀ a c b, r a stop = .err c b → c ≠ 0) : ∀ f nx acc c a, kidsW r tag stop f nx acc = .err c a → c ≠ 0
  | 0, nx, acc, c, a, hk => by
    simp only [kidsW] at hk
    cases hk
  | f + 1, nx, acc, c, a, hk => by
    simp only [kidsW] at hk
    split at hk
    · cases hq : r nx stop with
      | err c1 a1 =>
        rw [hq] at hk
        injection hk with h1 h2
        have := hr _ _ _ hq
        omega
      | ok t1 n1 =>
        rw [hq] at hk
        exact kidsW_err hr f n1 _ c a hk
    · cases hk
theorem rd_err (xs : List Int) : ∀ lv at0 fin c a, rd xs lv at0 fin = .err c a → c ≠ 0
  | 0, at0, fin, c, a, h => by
    simp only [rd] at h
    split at h
    · injection h with h1 h2
      omega
    · split at h
      · injection h with h1 h2
        omega
      · injection h with h1 h2
        omega
  | lv + 1, at0, fin, c, a, h => by
    simp only [rd] at h
    split at h
    · injection h with h1 h2
      omega
    · split at h
      · injection h with h1 h2
        omega
      · cases hq : hdr xs at0 fin with
        | err c1 a1 =>
          rw [hq] at h
          injection h with h1 h2
          have := hdr_err hq
          omega
        | ok n1 l =>
          rw [hq] at h
          simp only at h
          split at h
          · injection h with h1 h2
            omega
          · split at h
            · cases h
            · exact kidsW_err (fun a c b hr => rd_err xs lv a _ c b hr) _ _ _ _ _ h

set_option maxHeartbeats 4000000 in
set_option maxRecDepth 100000 in
theorem read_comp (b o n c at0 fin lv : Nat) (above : Int) (xs : List Int) (T0 : Int) (w : World) (L nx l : Nat) (h : Rl w b o n at0 fin xs T0 L) (hS : Sl w (some ⟨b, o, none⟩) n c xs) (hab0 : 0 ≤ above) (hab : above < 8) (hg : Good xs at0 fin L nx l) (hE : nx + l ≤ fin) (hcomp : simB T0 = false)
    (ih : ∀ at1 stop w1, Past w w1 → at1 ≤ n → stop ≤ n → Calls Tryd.prog 28 #[.slice (some ⟨b, o, none⟩) n c, .int .i64 (at1 : Int), .int .i64 (stop : Int), .int .i64 (above + 1)] w1 (ReadP (rd xs lv at1 stop) w1)) :
    Calls Tryd.prog 28 #[.slice (some ⟨b, o, none⟩) n c, .int .i64 (at0 : Int), .int .i64 (fin : Int), .int .i64 above] w (ReadP (restW xs lv T0 fin nx l) w) := by
  have hn := h.hn
  have hf := h.hf
  have ha := h.ha
  have h0 := h.h0
  have h1 := h.h1
  have hc := h.hcell
  have hl := h.hlt
  have hm := h.hmore
  have hL := h.hl1
  have hc2 := h.hcell2
  have HT := Lib.hid (fun w => rtag_any T0 w h0 h1)
  rw [h.hgood] at HT
  have HRG := Lib.hid (getD_rng hS)
  have HS := Lib.hid hS
  have HIH := Lib.hid ih
  have HGD := Lib.hid hg
  have HR := Lib.hid h
  clear h hS ih hg
  go_enter Tryd.func28, Tryd.ntmps28
  have hb1 : ((L : Int) == 128) = false := by
    have : L ≠ 128 := by
      rcases HGD.out with h | ⟨k, h⟩ <;> omega
    simp
    omega
  have hb2 : (L : Int) ≤ 131 := by
    rcases HGD.out with h | ⟨k, h⟩ <;> omega
  have hmi : (at0 : Int) + 1 < (fin : Int) := by omega
  go_wp2_with fail
  refine (HT.out _).mono ?_
  rintro e w' ⟨rfl, rfl⟩
  clear HT
  go_upto_if 58 with (fail)
  obtain ⟨w1, hw1⟩ : ∃ w1, w1 = w.alloc (.cells zero6 35) := ⟨_, rfl⟩
  have HW1 : Hid (Past w w1 ∧ Row w1 w.heap.size 35 zero6) := by
    rw [hw1]
    exact ⟨past_alloc8 _ _, Row.new _ _ _⟩
  rw [← hw1]
  obtain ⟨g, hg⟩ : ∃ g, w.heap.size = g := ⟨_, rfl⟩
  have HG : Hid (w.heap.size ≤ g) := Lib.hid (by omega)
  rw [hg] at HW1 hl ⊢
  clear hg hw1 hc hc2
  go_cut [9, 10] (fun s9 s10 wx => s9 = .int .i64 (l : Int) ∧ s10 = .int .i64 (nx : Int) ∧ Hid (Past w wx ∧ Row wx g 35 zero6))
  case first =>
    clear HIH
    rcases HGD.out with ⟨h128, hnx, hll⟩ | ⟨k, hLk, hk1, hk3, hin, hbe, hnum, hnx, hll⟩
    · subst hnx hll
      have hb3 : decide (128 < (l : Int)) = false := by simp; omega
      clear HGD HRG HS HR
      go_wp2_with fail
      go_meet
      case rel => exact ⟨rfl, by go_num, HW1⟩
    · subst hLk
      have HLL := Lib.hid hll
      have HNX := Lib.hid hnx
      have hbk : beN xs (at0 + 2) k < 16777216 := by
        have h1 := beN_lt xs (at0 + 2) HRG.out k
        have h2 : (256 : Nat) ^ k ≤ 256 ^ 3 := Nat.pow_le_pow_right (by omega) hk3
        omega
      have HBE := Lib.hid (beN_lt xs (at0 + 2) HRG.out)
      have HNM := Lib.hid (fun w => rnumber_any (beN xs (at0 + 2) k) (by omega) w)
      have HNU := Lib.hid hnum
      have hk1i : 1 ≤ (k : Int) := by omega
      have hk3i : (k : Int) ≤ 3 := by omega
      have hini : (at0 : Int) + 2 + (k : Int) ≤ (fin : Int) := by omega
      have HC1 : Hid (∀ i, i < k → w1.cell? ⟨b, o + (at0 + 2 + i), none⟩ = some (.int .u8 (xs.getD (at0 + 2 + i) 0))) := Lib.hid fun i hi => by
        obtain ⟨b', o', e, hc, _⟩ := (HS.out.past HW1.out.1).byte (at0 + 2 + i) (by omega)
        injection e with e
        injection e with e1 e2
        subst e1 e2
        exact hc
      clear HGD HR hll hnx hnum hb1 hb2
      go_wp2_with fail
      go_loopg [9, 12] k (fun q s9 s12 wx => ∃ i : Nat, i ≤ k ∧ q = k - i ∧ s9 = .int .i64 (beN xs (at0 + 2) i : Int) ∧ s12 = .int .i64 (i : Int) ∧ Hid (wx = w1))
      case atStart => exact ⟨0, Nat.zero_le _, rfl, rfl, rfl, Lib.hid rfl⟩
      case round =>
        obtain ⟨i, hi, hgk, rfl, rfl, HO⟩ := hrel
        have HGK := Lib.hid hgk
        clear hgk
        by_cases hlt : i < k
        · have hcell := HC1.out i hlt
          rw [← HO.out] at hcell
          have hrg := HRG.out (at0 + 2 + i)
          have hbe := HBE.out i
          have hb3 : beN xs (at0 + 2) i < 65536 := by
            have h2 : (256 : Nat) ^ i ≤ 256 ^ 2 := Nat.pow_le_pow_right (by omega) (by omega)
            omega
          have HSS : Hid (beN xs (at0 + 2) (i + 1) = beN xs (at0 + 2) i * 256 + (xs.getD (at0 + 2 + i) 0).toNat) := Lib.hid rfl
          obtain ⟨y, hy⟩ : ∃ y : Nat, xs.getD (at0 + 2 + i) 0 = (y : Int) := ⟨(xs.getD (at0 + 2 + i) 0).toNat, by omega⟩
          rw [hy] at hcell hrg HSS
          clear hy hbe
          generalize beN xs (at0 + 2) i = z at *
          go_wp2_with fail
          go_roundg (k - (i + 1))
          case rel => exact ⟨i + 1, by omega, rfl, by rw [HSS.out, Int.toNat_natCast]; go_num, by go_num, HO⟩
          case measure => have := HGK.out; omega
        · obtain rfl : i = k := by omega
          have hwr := HO.out
          subst hwr
          clear HC1 HBE HO
          generalize beN xs (at0 + 2) i = z at *
          have hz1 : decide ((z : Int) < 128) = false := by simp; omega
          rw [HNU.out] at HNM
          have hneb : ((i : Int) != (i : Int)) = false := by simp
          go_wp2_with fail
          refine (HNM.out _).mono ?_
          rintro e w2 ⟨NA, nc, rfl, _, hp⟩
          have HP2 : Hid (Past w w2 ∧ Row w2 g 35 zero6) := Lib.hid ⟨HW1.out.1.trans' hp, HW1.out.2.past hp⟩
          clear hp
          go_wp2_with fail
          go_meet
          case rel => exact ⟨by rw [HLL.out], by rw [HNX.out]; go_num, HP2⟩
  case rest =>
    obtain ⟨rfl, rfl, HW⟩ := hcut
    have hnf : nx ≤ fin := by
      rcases HGD.out with ⟨h128, hnx, hll⟩ | ⟨k, hLk, hk1, hk3, hin, hbe, hnum, hnx, hll⟩ <;> omega
    have hlb : l < 16777216 := by
      rcases HGD.out with ⟨h128, hnx, hll⟩ | ⟨k, hLk, hk1, hk3, hin, hbe, hnum, hnx, hll⟩
      · omega
      · have h1 := beN_lt xs (at0 + 2) HRG.out k
        have h2 : (256 : Nat) ^ k ≤ 256 ^ 3 := Nat.pow_le_pow_right (by omega) hk3
        omega
    have hc : wc.cell? ⟨b, o + at0, none⟩ = some (.int .u8 T0) := by
      obtain ⟨b', o', e, hc, _⟩ := (HS.out.past HW.out.1).byte at0 (by omega)
      injection e with e
      injection e with e1 e2
      subst e1 e2
      rw [HR.out.htag] at hc
      exact hc
    clear HGD hb1 hb2 HW1 HRG
    have hEb : decide ((fin : Int) < (nx : Int) + (l : Int)) = false := by simp; omega
    obtain ⟨w2, hw2⟩ : ∃ w2, w2 = wc.alloc (.cells #[.int .u8 T0, .slice none 0 0, .slice none 0 0] 33) := ⟨_, rfl⟩
    have HW2 : Hid (Past wc w2 ∧ Past w w2 ∧ Row w2 g 35 zero6 ∧ Row w2 wc.heap.size 33 #[.int .u8 T0, .slice none 0 0, .slice none 0 0] ∧ g < wc.heap.size) := by
      have hp : Past wc w2 := by rw [hw2]; exact past_alloc8 _ _
      refine Lib.hid ⟨hp, HW.out.1.trans' hp, HW.out.2.past hp, ?_, HW.out.2.lt⟩
      rw [hw2]
      exact Row.new _ _ _
    have hc2 : w2.cell? ⟨b, o + at0, none⟩ = some (.int .u8 T0) := by
      rw [Below.cell HW2.out.1 (cell_lt hc)]
      exact hc
    have HW2e := Lib.hid hw2
    clear hw2
    have hsb : (T0 / 32 % 2 == 0) = false := hcomp
    have HF : Hid (restW xs lv T0 fin nx l = kidsW (rd xs lv) T0 (nx + l) l nx []) := Lib.hid (by unfold restW; rw [if_neg (by omega), if_neg (by rw [hcomp]; decide)])
    clear hcomp
    go_upto_region 28 with (fail)
    rw [← HW2e.out]
    generalize wc.heap.size = q at *
    have H3 : Hid (Kw xs lv T0 w w2 g q nx l nx 0 l none 0 [] []) :=
      Lib.hid ⟨Nat.le_refl _, rfl, HW2.out.2.1, HW2.out.2.2.1, HW2.out.2.2.2.1, Kds.nil _ _ _, HW2.out.2.2.2.2⟩
    have hwq : Hid (w.heap.size ≤ g) := HG
    clear HW HW2 HR HS
    go_wp2_with fail
    clear hc2
    go_loopg [10] (nx + l - nx) (fun k s10 wx => ∃ (a m d f : Nat) (K : Option Addr) (kids : List T) (cells : List Value), nx ≤ a ∧ a ≤ nx + l ∧ k = nx + l - a ∧ m ≤ a ∧ s10 = .int .i64 (a : Int) ∧ Hid (Kw xs lv T0 w wx g q nx l a m f K d kids cells))
    case atStart => exact ⟨nx, 0, 0, l, none, [], [], Nat.le_refl _, Nat.le_add_right _ _, rfl, Nat.zero_le _, rfl, H3⟩
    case round =>
      clear H3
      obtain ⟨a, m, d, f, K, kids, cells, ha1, ha2, hgk, hma, rfl, HK⟩ := hrel
      have HGK := Lib.hid hgk
      clear hgk
      by_cases hlt : a < nx + l
      · obtain ⟨f, rfl⟩ : ∃ f', f = f' + 1 := ⟨f - 1, by have := HK.out.fuel; omega⟩
        have hlti : (a : Int) < (nx : Int) + (l : Int) := by omega
        have HC := HIH.out a (nx + l) wr HK.out.past (by omega) (by omega)
        have hcs : ((nx + l : Nat) : Int) = (nx : Int) + (l : Int) := by omega
        rw [hcs] at HC
        have HCC := Lib.hid HC
        clear HC hcs
        cases hq : rd xs lv a (nx + l) with
        | err c0 a0 =>
          rw [hq] at HCC
          have hc0 := rd_err xs lv a (nx + l) c0 a0 hq
          have HQ : Hid (restW xs lv T0 fin nx l = .err c0 a0) := Lib.hid (by rw [HF.out, HK.out.same]; simp only [kidsW]; rw [if_pos hlt, hq])
          have hcb : ((c0 : Int) != 0) = true := by simp; omega
          clear hq
          go_wp2_with fail
          refine HCC.out.mono ?_
          rintro e w3 ⟨rfl, hp⟩
          unfold resE
          have hn3 := heap_alloc_new w3 (.cells zero6 35)
          have hi2 := res_size (err6 c0 a0) rfl
          have ho2 : (err6 c0 a0).all (·.oneCell') = true := by simp [err6, Value.oneCell']
          obtain ⟨w4, hw4⟩ : ∃ w4, w4 = w3.alloc (.cells (err6 c0 a0) 35) := ⟨_, rfl⟩
          have H4 : Hid (Past w w4 ∧ Row w4 g 35 zero6 ∧ Row w4 w3.heap.size 35 (err6 c0 a0)) := by
            have hp4 : Past wr w4 := by rw [hw4]; exact hp.trans' (past_alloc8 _ _)
            refine Lib.hid ⟨HK.out.past.trans' hp4, HK.out.rg.past hp4, ?_⟩
            rw [hw4]
            exact Row.new _ _ _
          have k4 : w4.cell? ⟨w3.heap.size, 4, none⟩ = some (.int .i64 (c0 : Int)) := H4.out.2.2.cell 4
          have hr4 := H4.out.2.2
          have hrg := H4.out.2.1
          have HW4 := Lib.hid hw4
          clear hw4 hp HK
          go_wp2_with (first
            | (refine wpList_store_row rfl 35 _ _ rfl w3.heap.size _ rfl rfl _ _ hn3 hi2 rfl ho2 ?_; rw [World.setRow_alloc_new, ← HW4.out])
            | (refine wpList_load_row rfl 35 _ rfl w3.heap.size rfl _ _ (0, 0) _ hr4 Tryd.underlying35 rfl hi2 ?_)
            | (refine wpList_store_row rfl 35 _ _ rfl g _ rfl rfl _ _ hrg hi2 rfl ho2 ?_))
          refine bodyPost_ret (results_cell_row rfl _ _ g _ (err6 c0 a0) (0, 0) _ rfl (setRow_heap w4 g _ _ _ _ hrg) Tryd.underlying35 rfl hi2) rfl ?_
          rw [HQ.out]
          exact ⟨rfl, below_setRow H4.out.1 HG.out _⟩
        | ok t n1 =>
          rw [hq] at HCC
          have hn1 := rd_next xs lv a (nx + l) t n1 hq
          have HKS : Hid (kidsW (rd xs lv) T0 (nx + l) (f + 1) a kids = kidsW (rd xs lv) T0 (nx + l) f n1 (kids ++ [t])) := Lib.hid (by
            rw [kidsW, if_pos hlt, hq])
          clear hq
          go_wp2_with fail
          refine HCC.out.mono ?_
          rintro e w3 ⟨x, y, z, rfl, hlv, hp⟩
          obtain ⟨kt, kA, kn, kc, kK, km, kd, rfl, rfl, rfl⟩ := (hlv w3 (fun _ _ _ => rfl)).forms
          have hn3 := heap_alloc_new w3 (.cells zero6 35)
          have hi2 := res_size #[.int .u8 kt, .slice kA kn kc, .slice kK km kd, .int .i64 (n1 : Int), .int .i64 0, .int .i64 0] rfl
          have ho2 : (#[Value.int .u8 kt, .slice kA kn kc, .slice kK km kd, .int .i64 (n1 : Int), .int .i64 0, .int .i64 0] : Array Value).all (·.oneCell') = true := by simp [Value.oneCell']
          obtain ⟨w4, hw4⟩ : ∃ w4, w4 = w3.alloc (.cells #[.int .u8 kt, .slice kA kn kc, .slice kK km kd, .int .i64 (n1 : Int), .int .i64 0, .int .i64 0] 35) := ⟨_, rfl⟩
          have hp4 : Past w3 w4 := by rw [hw4]; exact past_alloc8 _ _
          have hr4 : Row w4 w3.heap.size 35 #[.int .u8 kt, .slice kA kn kc, .slice kK km kd, .int .i64 (n1 : Int), .int .i64 0, .int .i64 0] := by rw [hw4]; exact Row.new _ _ _
          have H4 : Hid (Past wr w3 ∧ Past w3 w4 ∧ Row w4 w3.heap.size 35 #[.int .u8 kt, .slice kA kn kc, .slice kK km kd, .int .i64 (n1 : Int), .int .i64 0, .int .i64 0] ∧ Row w4 q 33 #[.int .u8 T0, .slice none 0 0, .slice K m d] ∧ wr.heap.size ≤ w3.heap.size) := Lib.hid ⟨hp, hp4, hr4, HK.out.rq.past (hp.trans' hp4), hp.size⟩
          have HLV := Lib.hid hlv
          have k0 : w4.cell? ⟨w3.heap.size, 0, none⟩ = some (.int .u8 kt) := hr4.cell 0
          have k1 : w4.cell? ⟨w3.heap.size, 1, none⟩ = some (.slice kA kn kc) := hr4.cell 1
          have k2 : w4.cell? ⟨w3.heap.size, 2, none⟩ = some (.slice kK km kd) := hr4.cell 2
          have k3 : w4.cell? ⟨w3.heap.size, 3, none⟩ = some (.int .i64 (n1 : Int)) := hr4.cell 3
          have k4 : w4.cell? ⟨w3.heap.size, 4, none⟩ = some (.int .i64 0) := hr4.cell 4
          have kq : w4.cell? ⟨q, 2, none⟩ = some (.slice K m d) := H4.out.2.2.2.1.cell 2
          have HW4 := Lib.hid hw4
          obtain ⟨iN, hiN, hzN, hsN, hbN⟩ := info_parts infoN
          have hm8 : m ≤ 1048576 := by omega
          clear hw4 hp hp4 hr4 hlv
          go_wp2_with (first
            | (refine wpList_store_row rfl 35 _ _ rfl w3.heap.size _ rfl rfl _ _ hn3 hi2 rfl ho2 ?_; rw [World.setRow_alloc_new, ← HW4.out])
            | (at_builtin; refine wpList_append_own_at _ rfl _ _ 31 rfl (q + 1) 33 iN _ 3 56 Tryd.underlying31 hiN hzN hsN hbN rfl (by decide) (.slice K m d) m cells rfl ?b1 ⟨w4.heap.size, 0, none⟩ 1 1 [.int .u8 kt, .slice kA kn kc, .slice kK km kd] rfl rfl (three_cells w4 _ _ _ _) ?b2 ?b3 ?b4 ?b5 ?_))
          case b1 => exact (HK.out.kds.later (H4.out.1.trans' H4.out.2.1)).own.alloc _
          case b2 => simp [Value.oneCell']
          case b3 => unfold maxLen; omega
          case b4 => omega
          case b5 => have := H4.out.2.2.2.1.lt; simp; omega
          intro v' w7 hown hgrow _ hat
          obtain ⟨K', d', rfl⟩ := own_slice hown
          have hol := HK.out.kds.own.lt
          have hqs := HK.out.rq.lt
          have hgq := HK.out.gq
          have hwg := HG.out
          have hsz := H4.out.2.2.2.2
          have hqb : some q ≠ (Value.slice K m d).ownBlock := fun e => by have := (hol q e.symm).1; omega
          have hgb : some g ≠ (Value.slice K m d).ownBlock := fun e => by have := (hol g e.symm).1; omega
          have hpb : some w3.heap.size ≠ (Value.slice K m d).ownBlock := fun e => by have := (hol _ e.symm).2; omega
          have rq7 : Row w7 q 33 #[.int .u8 T0, .slice none 0 0, .slice K m d] := (H4.out.2.2.2.1.alloc _).grown hgrow hqb
          have rp7 : Row w7 w3.heap.size 35 #[.int .u8 kt, .slice kA kn kc, .slice kK km kd, .int .i64 (n1 : Int), .int .i64 0, .int .i64 0] := (H4.out.2.2.1.alloc _).grown hgrow hpb
          have kq7 : w7.cell? ⟨q, 2, none⟩ = some (.slice K m d) := rq7.cell 2
          have kf7 : w7.frozen? ⟨q, 2, none⟩ = false := rq7.fr 2
          have rp8 := row_setOther rp7 (h := q) (by omega) 2 (.slice K' (m + 1) d')
          have k38 : (w7.setCell ⟨q, 2, none⟩ (.slice K' (m + 1) d')).cell? ⟨w3.heap.size, 3, none⟩ = some (.int .i64 (n1 : Int)) := rp8.cell 3
          have H8 : Hid (Kw xs lv T0 w (w7.setCell ⟨q, 2, none⟩ (.slice K' (m + 1) d')) g q nx l n1 (m + 1) f K' d' (kids ++ [t]) (cells ++ [.int .u8 kt, .slice kA kn kc, .slice kK km kd])) := by
            have hpa : Past w (w4.alloc (.cells #[.int .u8 kt, .slice kA kn kc, .slice kK km kd] 33)) := (HK.out.past.trans' (H4.out.1.trans' H4.out.2.1)).trans' (past_alloc8 _ _)
            have h34 := H4.out.2.1.size
            refine Lib.hid ⟨by have := HK.out.fuel; omega, HK.out.same.trans HKS.out, Below.setCell (hpa.grown hgrow hpa.size fun kb hk => by have := (hol kb hk).1; omega) (by show _ ≤ q; omega) _,
              row_setOther (((HK.out.rg.past (H4.out.1.trans' H4.out.2.1)).alloc _).grown hgrow hgb) (by omega) _ _, rq7.set 2 _, ?_, HK.out.gq⟩
            refine Kds.set (Kds.push (HK.out.kds.later ((H4.out.1.trans' H4.out.2.1).trans' (past_alloc8 w4 (.cells #[.int .u8 kt, .slice kA kn kc, .slice kK km kd] 33)))) (lo := wr.heap.size) (hi := w3.heap.size) hqs (by simp; omega) (fun kb hk => (hol kb hk).2) (fun w'' hw => HLV.out w'' fun k h1 h2 => ?_) hown hgrow (by rw [World.size_alloc]; exact hat)) 2 _
            rw [hw k h1 h2, (past_alloc8 w4 (.cells #[.int .u8 kt, .slice kA kn kc, .slice kK km kd] 33)).block k (by omega), H4.out.2.1.block k h2]
          clear hown hgrow hat rq7 rp7 rp8 hol hqb hgb hpb k0 k1 k2 k3 k4 kq HLV H4 HK HW4 hn3 hi2 ho2
          go_wp2_with fail
          go_roundg (nx + l - n1)
          case rel => exact ⟨n1, m + 1, d', f, K', _, _, by omega, by omega, rfl, by omega, rfl, H8⟩
          case measure => have := HGK.out; omega
      · obtain rfl : a = nx + l := by omega
        have HQ : Hid (restW xs lv T0 fin nx l = .ok (.node T0 [] kids) (nx + l)) := Lib.hid (by
          rw [HF.out, HK.out.same]
          cases f with
          | zero => rfl
          | succ f => simp only [kidsW]; rw [if_neg hlt])
        have hrq := HK.out.rq
        have hrg := HK.out.rg
        have hiN : (Tryd.prog.info? 33).map (·.size) = some (#[Value.int .u8 T0, .slice none 0 0, .slice K m d] : Array Value).size := by kernel_rfl
        have hi2 := res_size #[.int .u8 T0, .slice none 0 0, .slice K m d, .int .i64 ((nx : Int) + (l : Int)), .int .i64 0, .int .i64 0] rfl
        have ho2 : (#[Value.int .u8 T0, .slice none 0 0, .slice K m d, .int .i64 ((nx : Int) + (l : Int)), .int .i64 0, .int .i64 0] : Array Value).all (·.oneCell') = true := by simp [Value.oneCell']
        clear HGK hlt
        go_wp2_with (first
          | (refine wpList_load_row rfl 33 _ rfl q rfl _ _ (0, 0) _ hrq Tryd.underlying33 rfl hiN ?_)
          | (refine wpList_store_row rfl 35 _ _ rfl g _ rfl rfl _ _ hrg hi2 rfl ho2 ?_))
        refine bodyPost_ret (results_cell_row rfl _ _ g _ _ (0, 0) _ rfl (setRow_heap wr g _ _ _ _ hrg) Tryd.underlying35 rfl hi2) rfl ?_
        rw [HQ.out]
        refine ⟨.int .u8 T0, .slice none 0 0, .slice K m d, rfl, fun w'' hag => ?_, below_setRow HK.out.past HG.out _⟩
        have hgq := HK.out.gq
        have hwg := HG.out
        refine HK.out.kds.node ⟨h0, by omega⟩ w'' fun k h1 h2 => ?_
        rw [hag k (by omega) (by simpa [World.setRow] using h2), setRow_other _ _ _ _ (by omega)]

end Go.Proofs.YtdpnfojpeafdhaaDoor
