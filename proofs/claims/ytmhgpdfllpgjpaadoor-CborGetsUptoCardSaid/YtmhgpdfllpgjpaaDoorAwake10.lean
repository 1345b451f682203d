/- The chapter's examples hold of the program's package cbor. -/
import Derived.Test.YtmhgpdfllpgjpaaDoorC10ME
import Derived.Test.YtmhgpdfllpgjpaaDoorC10P
import Derived.Test.YtmhgpdfllpgjpaaDoorErrM2
import Derived.Test.YtmhgpdfllpgjpaaDoorWireM
namespace Go.Proofs.YtmhgpdfllpgjpaaDoor
open Go.RowKit
set_option linter.unusedVariables false

theorem GetIs.uniq {kids : List T} {kk : T} {o o' : Option T} (h : GetIs kids kk o) (h' : GetIs kids kk o') : o = o' := by
  cases o with
  | none =>
    cases o' with
    | none => rfl
    | some v =>
      obtain ⟨j, hj, _, hk, _⟩ := h'
      exact absurd hk (h j hj)
  | some v =>
    obtain ⟨j, hj, hb, hk, rfl⟩ := h
    cases o' with
    | none => exact absurd hk (h' j hj)
    | some v' =>
      obtain ⟨j', hj', hb', hk', rfl⟩ := h'
      rcases Nat.lt_trichotomy j j' with hlt | rfl | hlt
      · exact absurd hk (hb' j hlt)
      · rfl
      · exact absurd hk' (hb j' hlt)
theorem InM.bytes {w : World} {x y u : Value} {A : Option Addr} {n c : Nat} {kd nm : Int} {bs : List Int} {ks : List T} (h : InM w (.agg #[x, y, .slice A n c, u]) (.node kd nm bs ks)) : Sl w A n c bs := by
  cases h with
  | mk v0 v1 v2 v3 ht hu hb hl hm hd h0 hc hk => exact hb
theorem leaf4 {w : World} {A : Option Addr} {n c : Nat} {xs : List Int} (kd nm : Int) (ht : -9223372036854775808 ≤ kd ∧ kd < 9223372036854775808) (hu : 0 ≤ nm ∧ nm < 18446744073709551616) (h : Sl w A n c xs) : InM w (.agg #[.int .i64 kd, .int .u64 nm, .slice A n c, .slice none 0 0]) (.node kd nm xs []) :=
  .mk (fun _ => undef) (fun _ => undef) (fun _ => undef) (fun _ => undef) ht hu h rfl (Nat.le_refl _) (Nat.zero_le _) (fun _ => rfl) (fun h => absurd h (Nat.lt_irrefl 0)) (fun i hi => absurd hi (Nat.not_lt_zero i))
theorem Sl.lit8 (w : World) (xs : List Int) (cs : Array Value) (n : Nat) (hcs : cs.toList = xs.map (Value.int .u8)) (hn : cs.size = n) (hm : n ≤ maxLen) (hr : ∀ x ∈ xs, 0 ≤ x ∧ x < 256) : Sl (w.alloc (.cells cs 5)) (some ⟨w.heap.size, 0, none⟩) n n xs := by
  have h := World.ownsRow_lit (base := w.heap.size) (e := 5) (size := 1) w cs n (Nat.le_refl _) hm (by rw [hn, Nat.mul_one])
  rw [hcs] at h
  exact Sl.of_own h hr

/-- The chapter's item. -/
def exT : T := .node 5 0 [] [.node 0 1 [] [], .node 0 7 [] [], .node 1 0 [] [], .node 2 0 [5] []]
theorem ex_txt : txt exT = [162, 1, 7, 32, 65, 5] := by kernel_rfl
theorem ex_ok : vldT exT = true := by kernel_rfl
theorem ex_parse : parsL [162, 1, 7, 32, 65, 5] 6 = .good exT 6 := by kernel_rfl
theorem bad_parse : parsL [24, 23] 2 = .bad 6 0 := by kernel_rfl
theorem ex_cnt : cnt exT ≤ 2000000 := by decide
theorem ex_get {o : Option T} (h : GetT exT (intT (-1)) o) : o = some (.node 2 0 [5] []) := by
  have h1 : GetIs [.node 0 1 [] [], .node 0 7 [] [], .node 1 0 [] [], .node 2 0 [5] []] (intT (-1)) o := h.1 rfl
  refine h1.uniq ⟨1, by decide, fun i hi => ?_, rfl, rfl⟩
  obtain rfl : i = 0 := by omega
  intro e
  have e' : T.node 0 1 [] [] = T.node 1 0 [] [] := e
  injection e' with e1
  omega
theorem ex_ne : ¬ exT = .node 2 0 [5] [] := by
  intro h
  injection h with h1
  omega
abbrev kid16 (hb : Nat) : Array Value := #[.int .i64 0, .int .u64 1, .slice none 0 0, .slice none 0 0, .int .i64 0, .int .u64 7, .slice none 0 0, .slice none 0 0, .int .i64 1, .int .u64 0, .slice none 0 0, .slice none 0 0, .int .i64 2, .int .u64 0, .slice (some ⟨hb, 0, none⟩) 1 1, .slice none 0 0]
/-- The blocks of the example. -/
structure Aw (w wx : World) (h : Nat) : Prop where
  past : Past w wx
  r0 : Row wx h 5 #[.int .u8 5]
  r1 : Row wx (h + 1) 27 (kid16 h)
  r2 : Row wx (h + 1 + 1) 27 #[.int .i64 5, .int .u64 0, .slice none 0 0, .slice (some ⟨h + 1, 0, none⟩) 4 4]
theorem Aw.later {w wx wy : World} {h : Nat} (a : Aw w wx h) (hp : Past wx wy) : Aw w wy h := ⟨a.past.trans' hp, a.r0.past hp, a.r1.past hp, a.r2.past hp⟩
theorem Aw.tree {w wx : World} {h : Nat} (a : Aw w wx h) : InM wx (.agg #[.int .i64 5, .int .u64 0, .slice none 0 0, .slice (some ⟨h + 1, 0, none⟩) 4 4]) exT := by
  have hs : Sl wx (some ⟨h, 0, none⟩) 1 1 [5] := ⟨rfl, Nat.le_refl _, by unfold maxLen; omega, fun _ => ⟨h, 0, rfl, fun i hi => by
    obtain rfl : i = 0 := by omega
    exact a.r0.cell 0⟩, fun x hx => by
      simp at hx
      omega, fun e => by cases e⟩
  refine .mk (fun i => (kid16 h).getD (i * 4) undef) (fun i => (kid16 h).getD (i * 4 + 1) undef) (fun i => (kid16 h).getD (i * 4 + 2) undef) (fun i => (kid16 h).getD (i * 4 + 3) undef) (by omega) (by omega) (Sl.nil wx) rfl (Nat.le_refl _) (by unfold maxLen; omega) (fun e => by cases e) (fun _ => ⟨h + 1, 0, rfl, fun i hi => ?_⟩) fun i hi => ?_
  · obtain rfl | rfl | rfl | rfl : i = 0 ∨ i = 1 ∨ i = 2 ∨ i = 3 := by omega
    · exact ⟨a.r1.cell 0, a.r1.cell 1, a.r1.cell 2, a.r1.cell 3⟩
    · exact ⟨a.r1.cell 4, a.r1.cell 5, a.r1.cell 6, a.r1.cell 7⟩
    · exact ⟨a.r1.cell 8, a.r1.cell 9, a.r1.cell 10, a.r1.cell 11⟩
    · exact ⟨a.r1.cell 12, a.r1.cell 13, a.r1.cell 14, a.r1.cell 15⟩
  · obtain rfl | rfl | rfl | rfl : i = 0 ∨ i = 1 ∨ i = 2 ∨ i = 3 := by omega
    · exact leaf4 0 1 (by omega) (by omega) (Sl.nil wx)
    · exact leaf4 0 7 (by omega) (by omega) (Sl.nil wx)
    · exact leaf4 1 0 (by omega) (by omega) (Sl.nil wx)
    · exact leaf4 2 0 (by omega) (by omega) hs

/-- What the library's variables hold. -/
structure Glob10 (w : World) : Prop where
  err : Glob w
  bru : Bru w
theorem Glob10.past {w w' : World} (h : Glob10 w) (hp : Past w w') : Glob10 w' := ⟨h.err.past hp, h.bru.past hp⟩

/-- An item in a block of its own. -/
structure Bx (wx : World) (b : Nat) (kd nm : Int) (A : Option Addr) (n c : Nat) (K : Option Addr) (m d : Nat) (t : T) : Prop where
  row : Row wx b 27 #[.int .i64 kd, .int .u64 nm, .slice A n c, .slice K m d]
  inm : InM wx (.agg #[.int .i64 kd, .int .u64 nm, .slice A n c, .slice K m d]) t
theorem Bx.later {wx wy : World} {b : Nat} {kd nm : Int} {A : Option Addr} {n c : Nat} {K : Option Addr} {m d : Nat} {t : T} (h : Bx wx b kd nm A n c K m d t) (hp : Past wx wy) : Bx wy b kd nm A n c K m d t := ⟨h.row.past hp, h.inm.past hp⟩
theorem bx_new {w1 w2 : World} {kd nm : Int} {A : Option Addr} {n c : Nat} {K : Option Addr} {m d : Nat} {t : T} (hi : InM w1 (.agg #[.int .i64 kd, .int .u64 nm, .slice A n c, .slice K m d]) t) (hw : w2 = w1.alloc (.cells #[.int .i64 kd, .int .u64 nm, .slice A n c, .slice K m d] 27)) : Bx w2 w1.heap.size kd nm A n c K m d t := by
  subst hw
  exact ⟨Row.new _ _ _, hi.past (past_alloc8 _ _)⟩

set_option maxHeartbeats 8000000 in
set_option maxRecDepth 100000 in
theorem awake10 (w : World) (hG : Glob10 w) : Calls Tryd.prog 8 #[] w fun e w' => e = .returned (.bool true) ∧ Past w w' := by
  have HG := Lib.hid hG
  have HI : Hid (∀ (k : Int) (w1 : World), -9223372036854775808 ≤ k ∧ k < 9223372036854775808 → Calls Tryd.prog 22 #[.int .i64 k] w1 fun e w' => e = .returned (intV k) ∧ Past w1 w') := Lib.hid fun k w1 h => int_any k w1 h
  have HTo := Lib.hid (fun w hG => ltold_flt 6 0 w hG (by omega))
  simp only [valFlt] at HTo
  clear hG
  go_enter Tryd.func8, Tryd.ntmps8
  go_wp2_with fail
  refine (HI.out 1 _ (by omega)).mono ?_
  rintro e wa ⟨rfl, hpa⟩
  rw [show intV 1 = .agg (item4 0 1 none 0 0 none 0 0) from rfl]
  have Ha := Lib.hid hpa
  clear hpa
  go_wp2_with fail
  refine (HI.out 7 _ (by omega)).mono ?_
  rintro e wb ⟨rfl, hpb⟩
  rw [show intV 7 = .agg (item4 0 7 none 0 0 none 0 0) from rfl]
  have Hb := Lib.hid (Past.trans' Ha.out hpb)
  clear hpb Ha
  go_wp2_with fail
  refine (HI.out (-1) _ (by omega)).mono ?_
  rintro e wc ⟨rfl, hpc⟩
  rw [show intV (-1) = .agg (item4 1 0 none 0 0 none 0 0) from rfl]
  have Hc := Lib.hid (Past.trans' Hb.out hpc)
  clear hpc Hb
  obtain ⟨w1, hw1⟩ : ∃ w1, w1 = ((wc.alloc (.cells #[.int .u8 5] 5)).alloc (.cells (kid16 wc.heap.size) 27)).alloc (.cells #[.int .i64 5, .int .u64 0, .slice none 0 0, .slice (some ⟨wc.heap.size + 1, 0, none⟩) 4 4] 27) := ⟨_, rfl⟩
  have H1 : Hid (Aw w w1 wc.heap.size) := by
    rw [hw1]
    refine Lib.hid ⟨Hc.out.trans' (((past_alloc8 _ _).trans' (past_alloc8 _ _)).trans' (past_alloc8 _ _)), ((Row.new wc _ _).alloc _).alloc _, ?_, ?_⟩
    · have := (Row.new (wc.alloc (.cells #[.int .u8 5] 5)) 27 (kid16 wc.heap.size)).alloc (.cells #[.int .i64 5, .int .u64 0, .slice none 0 0, .slice (some ⟨wc.heap.size + 1, 0, none⟩) 4 4] 27)
      simpa using this
    · have := Row.new ((wc.alloc (.cells #[.int .u8 5] 5)).alloc (.cells (kid16 wc.heap.size) 27)) 27 #[.int .i64 5, .int .u64 0, .slice none 0 0, .slice (some ⟨wc.heap.size + 1, 0, none⟩) 4 4]
      simpa using this
  have HW1 := Lib.hid hw1
  clear hw1
  go_upto_region 2 with (fail)
  rw [← HW1.out]
  obtain ⟨h, hh⟩ : ∃ h, wc.heap.size = h := ⟨_, rfl⟩
  rw [hh] at H1 ⊢
  clear hh HW1 Hc
  have x0 : w1.cell? ⟨h + 1 + 1, 0, none⟩ = some (.int .i64 5) := H1.out.r2.cell 0
  have x1 : w1.cell? ⟨h + 1 + 1, 1, none⟩ = some (.int .u64 0) := H1.out.r2.cell 1
  have x2 : w1.cell? ⟨h + 1 + 1, 2, none⟩ = some (.slice none 0 0) := H1.out.r2.cell 2
  have x3 : w1.cell? ⟨h + 1 + 1, 3, none⟩ = some (.slice (some ⟨h + 1, 0, none⟩) 4 4) := H1.out.r2.cell 3
  go_wp2_with fail
  refine (encode_any (HG.out.bru.past H1.out.past) H1.out.tree ex_cnt).mono ?_
  rintro e w2 ⟨he, _⟩
  obtain ⟨A, c, rfl, hS, hp⟩ := he ex_ok
  rw [ex_txt] at hS
  replace hS : Sl w2 A 6 c [162, 1, 7, 32, 65, 5] := hS
  rw [show (txt exT).length = 6 by rw [ex_txt]; rfl]
  obtain ⟨w3, hw3⟩ : ∃ w3, w3 = w2.alloc (.cells #[.int .u8 162, .int .u8 1, .int .u8 7, .int .u8 32, .int .u8 65, .int .u8 5] 5) := ⟨_, rfl⟩
  have hp3 : Past w2 w3 := by rw [hw3]; exact past_alloc8 _ _
  have H3 : Hid (Aw w w3 h ∧ Sl w3 A 6 c [162, 1, 7, 32, 65, 5]) := Lib.hid ⟨H1.out.later (hp.trans' hp3), hS.past hp3⟩
  have HL := Sl.lit8 w2 [162, 1, 7, 32, 65, 5] #[.int .u8 162, .int .u8 1, .int .u8 7, .int .u8 32, .int .u8 65, .int .u8 5] 6 rfl rfl (by unfold maxLen; omega) (by decide)
  rw [← hw3] at HL
  have HP := parse_any _ 6 6 _ _ HL
  rw [ex_parse] at HP
  have HPP := Lib.hid HP
  have HW3 := Lib.hid hw3
  clear he hS hp hp3 hw3 HL HP H1 x0 x1 x2 x3
  go_wp2_with fail
  rw [← HW3.out]
  refine HPP.out.mono ?_
  rintro e w4 ⟨x, y, z, u, rfl, hin, hp⟩
  obtain ⟨ykd, ynm, yA, yn, yc, yK, ym, yd, rfl, rfl, rfl, rfl⟩ := hin.shape
  obtain ⟨w5, hw5⟩ : ∃ w5, w5 = w4.alloc (.cells #[.int .i64 ykd, .int .u64 ynm, .slice yA yn yc, .slice yK ym yd] 27) := ⟨_, rfl⟩
  have hp5 : Past w4 w5 := by rw [hw5]; exact past_alloc8 _ _
  have hby := bx_new hin hw5
  obtain ⟨yb, hyb⟩ : ∃ yb, w4.heap.size = yb := ⟨_, rfl⟩
  rw [hyb] at hby
  obtain ⟨w6, hw6⟩ : ∃ w6, w6 = w5.alloc (.cells #[.int .u8 24, .int .u8 23] 5) := ⟨_, rfl⟩
  have hp6 : Past w5 w6 := by rw [hw6]; exact past_alloc8 _ _
  have H6 : Hid (Aw w w6 h ∧ Sl w6 A 6 c [162, 1, 7, 32, 65, 5] ∧ Bx w6 yb ykd ynm yA yn yc yK ym yd exT) := Lib.hid ⟨H3.out.1.later ((hp.trans' hp5).trans' hp6), H3.out.2.past ((hp.trans' hp5).trans' hp6), hby.later hp6⟩
  have HL := Sl.lit8 w5 [24, 23] #[.int .u8 24, .int .u8 23] 2 rfl rfl (by unfold maxLen; omega) (by decide)
  rw [← hw6] at HL
  have HP := parse_any _ 2 2 _ _ HL
  rw [bad_parse] at HP
  have HPP2 := Lib.hid HP
  have HW5 := Lib.hid hw5
  have HW6 := Lib.hid hw6
  have HYB := Lib.hid hyb
  clear hp hp5 hp6 hin hby hw5 hw6 hyb HL HP H3 HPP HW3
  go_upto_region 4 with (fail)
  rw [← HW5.out]
  try rw [HYB.out]
  go_wp2_with fail
  rw [← HW6.out]
  refine HPP2.out.mono ?_
  rintro e w7 ⟨x, y, z, u, rfl, hin, hp⟩
  obtain ⟨bkd, bnm, bA, bn, bc, bK, bm, bd, rfl, rfl, rfl, rfl⟩ := hin.shape
  obtain ⟨w8, hw8⟩ : ∃ w8, w8 = w7.alloc (.cells #[.int .i64 bkd, .int .u64 bnm, .slice bA bn bc, .slice bK bm bd] 27) := ⟨_, rfl⟩
  have hp8 : Past w7 w8 := by rw [hw8]; exact past_alloc8 _ _
  have H8 : Hid (Aw w w8 h ∧ Sl w8 A 6 c [162, 1, 7, 32, 65, 5] ∧ Bx w8 yb ykd ynm yA yn yc yK ym yd exT) := Lib.hid ⟨H6.out.1.later (hp.trans' hp8), H6.out.2.1.past (hp.trans' hp8), H6.out.2.2.later (hp.trans' hp8)⟩
  have HW8 := Lib.hid hw8
  clear hp hp8 hin hw8 H6 HPP2 HW5 HW6 HYB
  simp only [valFlt]
  go_upto_region 5 with (fail)
  rw [← HW8.out]
  clear HW8
  have x0 : w8.cell? ⟨h + 1 + 1, 0, none⟩ = some (.int .i64 5) := H8.out.1.r2.cell 0
  have x1 : w8.cell? ⟨h + 1 + 1, 1, none⟩ = some (.int .u64 0) := H8.out.1.r2.cell 1
  have x2 : w8.cell? ⟨h + 1 + 1, 2, none⟩ = some (.slice none 0 0) := H8.out.1.r2.cell 2
  have x3 : w8.cell? ⟨h + 1 + 1, 3, none⟩ = some (.slice (some ⟨h + 1, 0, none⟩) 4 4) := H8.out.1.r2.cell 3
  go_wp2_with fail
  refine (get_any H8.out.1.tree (-1) (by omega) ex_cnt).mono ?_
  rintro e w9 ⟨o, x, y, z, u, hgt, rfl, hin, hp⟩
  obtain rfl := ex_get hgt
  obtain ⟨vkd, vnm, vA, vn, vc, vK, vm, vd, rfl, rfl, rfl, rfl⟩ := hin.shape
  obtain ⟨wd, hwd⟩ : ∃ wd, wd = w9.alloc (.cells #[.int .i64 vkd, .int .u64 vnm, .slice vA vn vc, .slice vK vm vd] 27) := ⟨_, rfl⟩
  have hpd : Past w9 wd := by rw [hwd]; exact past_alloc8 _ _
  have hbv := bx_new (t := .node 2 0 [5] []) hin hwd
  obtain ⟨vb, hvb⟩ : ∃ vb, w9.heap.size = vb := ⟨_, rfl⟩
  rw [hvb] at hbv
  have Hd : Hid (Aw w wd h ∧ Sl wd A 6 c [162, 1, 7, 32, 65, 5] ∧ Bx wd yb ykd ynm yA yn yc yK ym yd exT ∧ Bx wd vb vkd vnm vA vn vc vK vm vd (.node 2 0 [5] [])) := Lib.hid ⟨H8.out.1.later (hp.trans' hpd), H8.out.2.1.past (hp.trans' hpd), H8.out.2.2.later (hp.trans' hpd), hbv⟩
  have HWd := Lib.hid hwd
  have HVB := Lib.hid hvb
  clear hp hpd hin hwd hvb hbv hgt H8 x0 x1 x2 x3
  have hsome : (some (T.node 2 0 [5] [])).isSome = true := rfl
  rw [hsome]
  clear hsome
  go_upto_region 6 with (fail)
  rw [← HWd.out]
  try rw [HVB.out]
  clear HWd HVB
  go_wp2_with fail
  refine (HI.out (-9) _ (by omega)).mono ?_
  rintro e we ⟨rfl, hp⟩
  rw [show intV (-9) = .agg (item4 1 8 none 0 0 none 0 0) from rfl]
  have He : Hid (Aw w we h ∧ Sl we A 6 c [162, 1, 7, 32, 65, 5] ∧ Bx we yb ykd ynm yA yn yc yK ym yd exT ∧ Bx we vb vkd vnm vA vn vc vK vm vd (.node 2 0 [5] [])) := Lib.hid ⟨Hd.out.1.later hp, Hd.out.2.1.past hp, Hd.out.2.2.1.later hp, Hd.out.2.2.2.later hp⟩
  clear hp Hd
  go_wp2_with fail
  refine (value_any 1 8 none 0 0 none 0 0 _ (by omega)).mono ?_
  rintro e wf ⟨rfl, hp⟩
  rw [show valI 1 8 = -9 from rfl, show valB 1 8 = true by decide]
  obtain ⟨wg, hwg⟩ : ∃ wg, wg = wf.alloc (.cells #[.int .u8 162, .int .u8 1, .int .u8 7, .int .u8 32, .int .u8 65, .int .u8 5] 5) := ⟨_, rfl⟩
  have hpg : Past wf wg := by rw [hwg]; exact past_alloc8 _ _
  have HL := Sl.lit8 wf [162, 1, 7, 32, 65, 5] #[.int .u8 162, .int .u8 1, .int .u8 7, .int .u8 32, .int .u8 65, .int .u8 5] 6 rfl rfl (by unfold maxLen; omega) (by decide)
  rw [← hwg] at HL
  have Hg : Hid (Aw w wg h ∧ Sl wg A 6 c [162, 1, 7, 32, 65, 5] ∧ Bx wg yb ykd ynm yA yn yc yK ym yd exT ∧ Bx wg vb vkd vnm vA vn vc vK vm vd (.node 2 0 [5] [])) := Lib.hid ⟨He.out.1.later (Past.trans' hp hpg), He.out.2.1.past (Past.trans' hp hpg), He.out.2.2.1.later (Past.trans' hp hpg), He.out.2.2.2.later (Past.trans' hp hpg)⟩
  have HRS := rsame_any _ _ _ _ _ _ _ _ wg Hg.out.2.1 HL
  rw [sameB_refl] at HRS
  have HRS2 := Lib.hid HRS
  have HWg := Lib.hid hwg
  clear hp hpg hwg HL HRS He
  go_wp2_with fail
  rw [← HWg.out]
  refine HRS2.out.mono ?_
  rintro e wh ⟨rfl, k1, hwh⟩
  have hp : Past wg wh := by rw [hwh]; exact Past.drewN (Below.refl _ wg) k1
  have Hh : Hid (Aw w wh h ∧ Bx wh yb ykd ynm yA yn yc yK ym yd exT ∧ Bx wh vb vkd vnm vA vn vc vK vm vd (.node 2 0 [5] [])) := Lib.hid ⟨Hg.out.1.later hp, Hg.out.2.2.1.later hp, Hg.out.2.2.2.later hp⟩
  clear hp hwh HRS2 HWg Hg
  have x0 : wh.cell? ⟨h + 1 + 1, 0, none⟩ = some (.int .i64 5) := Hh.out.1.r2.cell 0
  have x1 : wh.cell? ⟨h + 1 + 1, 1, none⟩ = some (.int .u64 0) := Hh.out.1.r2.cell 1
  have x2 : wh.cell? ⟨h + 1 + 1, 2, none⟩ = some (.slice none 0 0) := Hh.out.1.r2.cell 2
  have x3 : wh.cell? ⟨h + 1 + 1, 3, none⟩ = some (.slice (some ⟨h + 1, 0, none⟩) 4 4) := Hh.out.1.r2.cell 3
  have y0 : wh.cell? ⟨yb, 0, none⟩ = some (.int .i64 ykd) := Hh.out.2.1.row.cell 0
  have y1 : wh.cell? ⟨yb, 1, none⟩ = some (.int .u64 ynm) := Hh.out.2.1.row.cell 1
  have y2 : wh.cell? ⟨yb, 2, none⟩ = some (.slice yA yn yc) := Hh.out.2.1.row.cell 2
  have y3 : wh.cell? ⟨yb, 3, none⟩ = some (.slice yK ym yd) := Hh.out.2.1.row.cell 3
  go_wp2_with fail
  refine (psame_any Hh.out.1.tree Hh.out.2.1.inm (by have := ex_cnt; omega)).mono ?_
  rintro e wi ⟨r, rfl, hr, hp⟩
  obtain rfl : r = true := hr.2 rfl
  have Hi : Hid (Aw w wi h ∧ Bx wi vb vkd vnm vA vn vc vK vm vd (.node 2 0 [5] [])) := Lib.hid ⟨Hh.out.1.later hp, Hh.out.2.2.later hp⟩
  clear hp hr Hh x0 x1 x2 x3 y0 y1 y2 y3
  go_wp2_with fail
  refine (HTo.out _ (HG.out.err.past Hi.out.1.past)).mono ?_
  rintro e wj ⟨rfl, hp⟩
  have Hj : Hid (Aw w wj h ∧ Bx wj vb vkd vnm vA vn vc vK vm vd (.node 2 0 [5] [])) := Lib.hid ⟨Hi.out.1.later hp, Hi.out.2.later hp⟩
  have v2 : wj.cell? ⟨vb, 2, none⟩ = some (.slice vA vn vc) := Hj.out.2.row.cell 2
  obtain ⟨wk, hwk⟩ : ∃ wk, wk = wj.alloc (.cells #[.int .u8 5] 5) := ⟨_, rfl⟩
  have hpk : Past wj wk := by rw [hwk]; exact past_alloc8 _ _
  have HL := Sl.lit8 wj [5] #[.int .u8 5] 1 rfl rfl (by unfold maxLen; omega) (by decide)
  rw [← hwk] at HL
  have HRS := rsame_any _ _ _ _ _ _ _ _ wk (Hj.out.2.inm.bytes.past hpk) HL
  rw [sameB_refl] at HRS
  have HRS2 := Lib.hid HRS
  have Hk : Hid (Aw w wk h ∧ Bx wk vb vkd vnm vA vn vc vK vm vd (.node 2 0 [5] [])) := Lib.hid ⟨Hj.out.1.later hpk, Hj.out.2.later hpk⟩
  have HWk := Lib.hid hwk
  clear hp hpk hwk HL HRS Hi Hj
  go_wp2_with fail
  rw [← HWk.out]
  refine HRS2.out.mono ?_
  rintro e wl ⟨rfl, k2, hwl⟩
  have hp : Past wk wl := by rw [hwl]; exact Past.drewN (Below.refl _ wk) k2
  have Hl : Hid (Aw w wl h ∧ Bx wl vb vkd vnm vA vn vc vK vm vd (.node 2 0 [5] [])) := Lib.hid ⟨Hk.out.1.later hp, Hk.out.2.later hp⟩
  clear hp hwl HRS2 HWk Hk v2
  have x0 : wl.cell? ⟨h + 1 + 1, 0, none⟩ = some (.int .i64 5) := Hl.out.1.r2.cell 0
  have x1 : wl.cell? ⟨h + 1 + 1, 1, none⟩ = some (.int .u64 0) := Hl.out.1.r2.cell 1
  have x2 : wl.cell? ⟨h + 1 + 1, 2, none⟩ = some (.slice none 0 0) := Hl.out.1.r2.cell 2
  have x3 : wl.cell? ⟨h + 1 + 1, 3, none⟩ = some (.slice (some ⟨h + 1, 0, none⟩) 4 4) := Hl.out.1.r2.cell 3
  go_wp2_with fail
  refine (valid_any (HG.out.bru.past Hl.out.1.past) Hl.out.1.tree ex_cnt).mono ?_
  rintro e wm ⟨rfl, hp⟩
  rw [ex_ok]
  have Hm : Hid (Aw w wm h ∧ Bx wm vb vkd vnm vA vn vc vK vm vd (.node 2 0 [5] [])) := Lib.hid ⟨Hl.out.1.later hp, Hl.out.2.later hp⟩
  clear hp Hl x0 x1 x2 x3
  have x0 : wm.cell? ⟨h + 1 + 1, 0, none⟩ = some (.int .i64 5) := Hm.out.1.r2.cell 0
  have x1 : wm.cell? ⟨h + 1 + 1, 1, none⟩ = some (.int .u64 0) := Hm.out.1.r2.cell 1
  have x2 : wm.cell? ⟨h + 1 + 1, 2, none⟩ = some (.slice none 0 0) := Hm.out.1.r2.cell 2
  have x3 : wm.cell? ⟨h + 1 + 1, 3, none⟩ = some (.slice (some ⟨h + 1, 0, none⟩) 4 4) := Hm.out.1.r2.cell 3
  have v0 : wm.cell? ⟨vb, 0, none⟩ = some (.int .i64 vkd) := Hm.out.2.row.cell 0
  have v1 : wm.cell? ⟨vb, 1, none⟩ = some (.int .u64 vnm) := Hm.out.2.row.cell 1
  have v2 : wm.cell? ⟨vb, 2, none⟩ = some (.slice vA vn vc) := Hm.out.2.row.cell 2
  have v3 : wm.cell? ⟨vb, 3, none⟩ = some (.slice vK vm vd) := Hm.out.2.row.cell 3
  go_wp2_with fail
  refine (psame_any Hm.out.1.tree Hm.out.2.inm (by have := ex_cnt; omega)).mono ?_
  rintro e wn ⟨r, rfl, hr, hp⟩
  have hrf : r = false := by
    cases r with
    | false => rfl
    | true => exact absurd (hr.1 rfl) ex_ne
  subst hrf
  have Hn := Lib.hid (Hm.out.1.past.trans' hp)
  clear hp hr Hm x0 x1 x2 x3 v0 v1 v2 v3
  go_wp2_with fail
  go_ret
  exact ⟨rfl, Hn.out⟩

end Go.Proofs.YtmhgpdfllpgjpaaDoor
