/- The chapter's examples hold of the program's package der. -/
import Derived.Test.YtdpnfojpeafdhaaDoorP8
namespace Go.Proofs.YtdpnfojpeafdhaaDoor
open Go.RowKit
set_option linter.unusedVariables false

theorem Sl.lit8 (w : World) (xs : List Int) (cs : Array Value) (n : Nat) (hcs : cs.toList = xs.map (Value.int .u8)) (hn : cs.size = n) (hm : n ≤ maxLen) (hr : ∀ x ∈ xs, 0 ≤ x ∧ x < 256) : Sl (w.alloc (.cells cs 5)) (some ⟨w.heap.size, 0, none⟩) n n xs := by
  have h := World.ownsRow_lit (base := w.heap.size) (e := 5) (size := 1) w cs n (Nat.le_refl _) hm (by rw [hn, Nat.mul_one])
  rw [hcs] at h
  exact Sl.of_own h hr
/-- The blocks of the example. -/
structure Aw (w wx : World) (h : Nat) : Prop where
  past : Past w wx
  r0 : Row wx h 5 #[.int .u8 5]
  r1 : Row wx (h + 1) 26 #[.int .u8 2, .slice (some ⟨h, 0, none⟩) 1 1, .slice none 0 0]
  r2 : Row wx (h + 1 + 1) 26 #[.int .u8 48, .slice none 0 0, .slice (some ⟨h + 1, 0, none⟩) 1 1]
theorem Aw.later {w wx wy : World} {h : Nat} (a : Aw w wx h) (hp : Past wx wy) : Aw w wy h := ⟨a.past.trans' hp, a.r0.past hp, a.r1.past hp, a.r2.past hp⟩
theorem Aw.tree {w wx : World} {h : Nat} (a : Aw w wx h) : InM wx (.agg #[.int .u8 48, .slice none 0 0, .slice (some ⟨h + 1, 0, none⟩) 1 1]) exT := by
  refine one_in 48 (by omega) a.r1 (leaf_in 2 (by omega) ⟨rfl, Nat.le_refl _, by unfold maxLen; omega, fun _ => ⟨h, 0, rfl, fun i hi => ?_⟩, fun x hx => ?_, fun e => by cases e⟩)
  · obtain rfl : i = 0 := by omega
    exact a.r0.cell 0
  · simp at hx
    omega

set_option maxHeartbeats 4000000 in
set_option maxRecDepth 100000 in
theorem awake8 (H : Prog8) (w : World) (hG : Glob w) : Calls Tryd.prog 7 #[] w fun e w' => e = .returned (.bool true) ∧ Past w w' := by
  have HG := Lib.hid hG
  have HE := Lib.hid H.encode
  have HPa := Lib.hid H.parse
  have HSa := Lib.hid H.same
  have HDe := Lib.hid H.depth
  have HCo := Lib.hid H.count
  have HVa := Lib.hid H.valid
  have HTo := Lib.hid (fun w hG => ltold_flt 6 1 w hG (by omega))
  have HCd := Lib.hid (fun w hG => lcode_code 12 w hG)
  simp only [valFlt] at HTo
  simp only [valCode] at HCd
  clear hG H
  have H1 : Hid (Aw w (((w.alloc (.cells #[.int .u8 5] 5)).alloc (.cells #[.int .u8 2, .slice (some ⟨w.heap.size, 0, none⟩) 1 1, .slice none 0 0] 26)).alloc (.cells #[.int .u8 48, .slice none 0 0, .slice (some ⟨w.heap.size + 1, 0, none⟩) 1 1] 26)) w.heap.size) := by
    refine Lib.hid ⟨((past_alloc8 _ _).trans' (past_alloc8 _ _)).trans' (past_alloc8 _ _), ((Row.new w _ _).alloc _).alloc _, ?_, ?_⟩
    · have := (Row.new (w.alloc (.cells #[.int .u8 5] 5)) 26 #[.int .u8 2, .slice (some ⟨w.heap.size, 0, none⟩) 1 1, .slice none 0 0]).alloc (.cells #[.int .u8 48, .slice none 0 0, .slice (some ⟨w.heap.size + 1, 0, none⟩) 1 1] 26)
      simpa using this
    · have := Row.new ((w.alloc (.cells #[.int .u8 5] 5)).alloc (.cells #[.int .u8 2, .slice (some ⟨w.heap.size, 0, none⟩) 1 1, .slice none 0 0] 26)) 26 #[.int .u8 48, .slice none 0 0, .slice (some ⟨w.heap.size + 1, 0, none⟩) 1 1]
      simpa using this
  go_enter Tryd.func7, Tryd.ntmps7
  go_wp2_with fail
  generalize ((w.alloc (.cells #[.int .u8 5] 5)).alloc (.cells #[.int .u8 2, .slice (some ⟨w.heap.size, 0, none⟩) 1 1, .slice none 0 0] 26)).alloc (.cells #[.int .u8 48, .slice none 0 0, .slice (some ⟨w.heap.size + 1, 0, none⟩) 1 1] 26) = w1 at *
  generalize w.heap.size = h at *
  -- Encode(n)
  refine (HE.out _ exT _ H1.out.tree ex_fits).mono ?_
  rintro e w2 he
  obtain ⟨A, c, rfl, hS, hp⟩ := he.1 ex_ok
  rw [ex_txt] at hS
  have H2 : Hid (Aw w w2 h ∧ Sl w2 A 5 c [48, 3, 2, 1, 5]) := Lib.hid ⟨H1.out.later hp, hS⟩
  rw [show (txt exT).length = 5 by rw [ex_txt]; rfl]
  clear he hS hp H1
  -- Parse of the example
  have HL := Lib.hid (Sl.lit8 w2 [48, 3, 2, 1, 5] #[.int .u8 48, .int .u8 3, .int .u8 2, .int .u8 1, .int .u8 5] 5 rfl rfl (by unfold maxLen; omega) (by decide))
  have H3 := Lib.hid (H2.out.1.later (past_alloc8 w2 (.cells #[.int .u8 48, .int .u8 3, .int .u8 2, .int .u8 1, .int .u8 5] 5)))
  have H4 := Lib.hid (H2.out.2.past (past_alloc8 w2 (.cells #[.int .u8 48, .int .u8 3, .int .u8 2, .int .u8 1, .int .u8 5] 5)))
  clear H2
  go_wp2_with fail
  generalize w2.alloc (.cells #[.int .u8 48, .int .u8 3, .int .u8 2, .int .u8 1, .int .u8 5] 5) = w3 at *
  generalize w2.heap.size = p at *
  have HX := HPa.out _ 5 _ _ _ HL.out (by omega)
  rw [ex_parse] at HX
  refine HX.mono ?_
  rintro e w4 ⟨x, y, z, rfl, hin, hp⟩
  clear HX
  obtain ⟨tg, A2, n2, c2, K2, m2, d2, rfl, rfl, rfl⟩ := hin.forms
  have hrn := Row.new w4 26 #[.int .u8 tg, .slice A2 n2 c2, .slice K2 m2 d2]
  have hpn := past_alloc8 w4 (.cells #[.int .u8 tg, .slice A2 n2 c2, .slice K2 m2 d2] 26)
  have H5 : Hid (Aw w (w4.alloc (.cells #[.int .u8 tg, .slice A2 n2 c2, .slice K2 m2 d2] 26)) h ∧ Sl (w4.alloc (.cells #[.int .u8 tg, .slice A2 n2 c2, .slice K2 m2 d2] 26)) A 5 c [48, 3, 2, 1, 5] ∧
      InM (w4.alloc (.cells #[.int .u8 tg, .slice A2 n2 c2, .slice K2 m2 d2] 26)) (.agg #[.int .u8 tg, .slice A2 n2 c2, .slice K2 m2 d2]) exT ∧ Row (w4.alloc (.cells #[.int .u8 tg, .slice A2 n2 c2, .slice K2 m2 d2] 26)) w4.heap.size 26 #[.int .u8 tg, .slice A2 n2 c2, .slice K2 m2 d2]) :=
    Lib.hid ⟨(H3.out.later hp).later hpn, (H4.out.past hp).past hpn, hin.past hpn, hrn⟩
  clear hin hp hrn hpn H3 H4 HL
  -- Parse of the bad string
  obtain ⟨w5, hw5⟩ : ∃ w5, w4.alloc (.cells #[.int .u8 tg, .slice A2 n2 c2, .slice K2 m2 d2] 26) = w5 := ⟨_, rfl⟩
  have HW5 := Lib.hid hw5
  rw [hw5] at H5
  clear hw5
  go_wp2_with fail
  rw [HW5.out]
  have HL := Lib.hid (Sl.lit8 w5 [4, 129, 1, 0] #[.int .u8 4, .int .u8 129, .int .u8 1, .int .u8 0] 4 rfl rfl (by unfold maxLen; omega) (by decide))
  have hs5 : w5.heap.size = w4.heap.size + 1 := by rw [← HW5.out]; simp
  have hpl := past_alloc8 w5 (.cells #[.int .u8 4, .int .u8 129, .int .u8 1, .int .u8 0] 5)
  have H6 : Hid (Aw w (w5.alloc (.cells #[.int .u8 4, .int .u8 129, .int .u8 1, .int .u8 0] 5)) h ∧ Sl (w5.alloc (.cells #[.int .u8 4, .int .u8 129, .int .u8 1, .int .u8 0] 5)) A 5 c [48, 3, 2, 1, 5] ∧
      InM (w5.alloc (.cells #[.int .u8 4, .int .u8 129, .int .u8 1, .int .u8 0] 5)) (.agg #[.int .u8 tg, .slice A2 n2 c2, .slice K2 m2 d2]) exT ∧ Row (w5.alloc (.cells #[.int .u8 4, .int .u8 129, .int .u8 1, .int .u8 0] 5)) w4.heap.size 26 #[.int .u8 tg, .slice A2 n2 c2, .slice K2 m2 d2]) := by
    obtain ⟨q1, q2, q3, q4⟩ := H5.out
    exact Lib.hid ⟨q1.later hpl, q2.past hpl, q3.past hpl, q4.past hpl⟩
  rw [hs5] at HL
  clear H5 HW5 hs5 hpl
  generalize w5.alloc (.cells #[.int .u8 4, .int .u8 129, .int .u8 1, .int .u8 0] 5) = w6 at *
  generalize w4.heap.size = r at *
  have HX := HPa.out _ 4 _ _ _ HL.out (by omega)
  rw [bad_parse] at HX
  refine HX.mono ?_
  rintro e w7 ⟨x, y, z, rfl, hin, hp⟩
  clear HX HL
  obtain ⟨tg3, A3, n3, c3, K3, m3, d3, rfl, rfl, rfl⟩ := hin.forms
  have hpl := hp.trans' (past_alloc8 w7 (.cells #[.int .u8 tg3, .slice A3 n3 c3, .slice K3 m3 d3] 26))
  have H7 : Hid (Aw w (w7.alloc (.cells #[.int .u8 tg3, .slice A3 n3 c3, .slice K3 m3 d3] 26)) h ∧ Sl (w7.alloc (.cells #[.int .u8 tg3, .slice A3 n3 c3, .slice K3 m3 d3] 26)) A 5 c [48, 3, 2, 1, 5] ∧
      InM (w7.alloc (.cells #[.int .u8 tg3, .slice A3 n3 c3, .slice K3 m3 d3] 26)) (.agg #[.int .u8 tg, .slice A2 n2 c2, .slice K2 m2 d2]) exT ∧ Row (w7.alloc (.cells #[.int .u8 tg3, .slice A3 n3 c3, .slice K3 m3 d3] 26)) r 26 #[.int .u8 tg, .slice A2 n2 c2, .slice K2 m2 d2]) := by
    obtain ⟨q1, q2, q3, q4⟩ := H6.out
    exact Lib.hid ⟨q1.later hpl, q2.past hpl, q3.past hpl, q4.past hpl⟩
  clear H6 hin hp hpl
  simp only [valFlt]
  go_wp2_with fail
  generalize w7.alloc (.cells #[.int .u8 tg3, .slice A3 n3 c3, .slice K3 m3 d3] 26) = w8 at *
  -- Encode of nothing
  refine (HE.out _ noT _ (no_in _) no_fits).mono ?_
  rintro e w9 he
  obtain ⟨A4, c4, rfl, hp⟩ := he.2 no_ok
  have hpl := hp.trans' (past_alloc8 w9 (.cells #[.int .u8 48, .int .u8 3, .int .u8 2, .int .u8 1, .int .u8 5] 5))
  have HLL := Lib.hid (Sl.lit8 w9 [48, 3, 2, 1, 5] #[.int .u8 48, .int .u8 3, .int .u8 2, .int .u8 1, .int .u8 5] 5 rfl rfl (by unfold maxLen; omega) (by decide))
  have H9 : Hid (Aw w (w9.alloc (.cells #[.int .u8 48, .int .u8 3, .int .u8 2, .int .u8 1, .int .u8 5] 5)) h ∧ Sl (w9.alloc (.cells #[.int .u8 48, .int .u8 3, .int .u8 2, .int .u8 1, .int .u8 5] 5)) A 5 c [48, 3, 2, 1, 5] ∧
      InM (w9.alloc (.cells #[.int .u8 48, .int .u8 3, .int .u8 2, .int .u8 1, .int .u8 5] 5)) (.agg #[.int .u8 tg, .slice A2 n2 c2, .slice K2 m2 d2]) exT ∧ Row (w9.alloc (.cells #[.int .u8 48, .int .u8 3, .int .u8 2, .int .u8 1, .int .u8 5] 5)) r 26 #[.int .u8 tg, .slice A2 n2 c2, .slice K2 m2 d2]) := by
    obtain ⟨q1, q2, q3, q4⟩ := H7.out
    exact Lib.hid ⟨q1.later hpl, q2.past hpl, q3.past hpl, q4.past hpl⟩
  clear H7 he hp hpl
  simp only [valCode]
  go_wp2_with fail
  generalize w9.alloc (.cells #[.int .u8 48, .int .u8 3, .int .u8 2, .int .u8 1, .int .u8 5] 5) = wa at *
  generalize w9.heap.size = v at *
  -- Same(b, ..)
  refine (rsame_any _ _ _ _ _ _ _ _ _ H9.out.2.1 HLL.out).mono ?_
  rintro e wb ⟨rfl, q, rfl⟩
  rw [sameB_refl]
  clear HLL
  have Ha : Hid (Aw w (wa.drewN q) h ∧ InM (wa.drewN q) (.agg #[.int .u8 tg, .slice A2 n2 c2, .slice K2 m2 d2]) exT ∧ Row (wa.drewN q) r 26 #[.int .u8 tg, .slice A2 n2 c2, .slice K2 m2 d2]) := by
    obtain ⟨q1, q2, q3, q4⟩ := H9.out
    have hd := Past.drewN (Below.refl wa.heap.size wa) q
    exact Lib.hid ⟨q1.later hd, q3.past hd, q4.past hd⟩
  clear H9
  generalize wa.drewN q = wb at *
  have f0 : wb.cell? ⟨r, 0, none⟩ = some (.int .u8 tg) := Ha.out.2.2.cell 0
  have f1 : wb.cell? ⟨r, 1, none⟩ = some (.slice A2 n2 c2) := Ha.out.2.2.cell 1
  have f2 : wb.cell? ⟨r, 2, none⟩ = some (.slice K2 m2 d2) := Ha.out.2.2.cell 2
  have g0 : wb.cell? ⟨h + 1 + 1, 0, none⟩ = some (.int .u8 48) := Ha.out.1.r2.cell 0
  have g1 : wb.cell? ⟨h + 1 + 1, 1, none⟩ = some (.slice none 0 0) := Ha.out.1.r2.cell 1
  have g2 : wb.cell? ⟨h + 1 + 1, 2, none⟩ = some (.slice (some ⟨h + 1, 0, none⟩) 1 1) := Ha.out.1.r2.cell 2
  go_wp2_with fail
  -- der.Same(m, n)
  refine (HSa.out _ exT _ exT _ Ha.out.2.1 Ha.out.1.tree ex_fits ex_fits).mono ?_
  rintro e wc ⟨b, rfl, hb, hp⟩
  obtain rfl : b = true := hb.2 rfl
  have Hb : Hid (Aw w wc h ∧ InM wc (.agg #[.int .u8 tg, .slice A2 n2 c2, .slice K2 m2 d2]) exT ∧ Row wc r 26 #[.int .u8 tg, .slice A2 n2 c2, .slice K2 m2 d2]) := by
    obtain ⟨q1, q2, q3⟩ := Ha.out
    exact Lib.hid ⟨q1.later hp, q2.past hp, q3.past hp⟩
  clear Ha f0 f1 f2 g0 g1 g2 hb hp
  go_wp2_with fail
  refine (HTo.out _ (HG.out.past Hb.out.1.past)).mono ?_
  rintro e wd ⟨rfl, hp⟩
  have Hc : Hid (Aw w wd h ∧ InM wd (.agg #[.int .u8 tg, .slice A2 n2 c2, .slice K2 m2 d2]) exT ∧ Row wd r 26 #[.int .u8 tg, .slice A2 n2 c2, .slice K2 m2 d2]) := by
    obtain ⟨q1, q2, q3⟩ := Hb.out
    exact Lib.hid ⟨q1.later hp, q2.past hp, q3.past hp⟩
  clear Hb hp
  go_wp2_with fail
  refine (HCd.out _ (HG.out.past Hc.out.1.past)).mono ?_
  rintro e we ⟨rfl, hp⟩
  have Hd : Hid (Aw w we h ∧ InM we (.agg #[.int .u8 tg, .slice A2 n2 c2, .slice K2 m2 d2]) exT ∧ Row we r 26 #[.int .u8 tg, .slice A2 n2 c2, .slice K2 m2 d2]) := by
    obtain ⟨q1, q2, q3⟩ := Hc.out
    exact Lib.hid ⟨q1.later hp, q2.past hp, q3.past hp⟩
  clear Hc hp
  have g0 : we.cell? ⟨h + 1 + 1, 0, none⟩ = some (.int .u8 48) := Hd.out.1.r2.cell 0
  have g1 : we.cell? ⟨h + 1 + 1, 1, none⟩ = some (.slice none 0 0) := Hd.out.1.r2.cell 1
  have g2 : we.cell? ⟨h + 1 + 1, 2, none⟩ = some (.slice (some ⟨h + 1, 0, none⟩) 1 1) := Hd.out.1.r2.cell 2
  go_wp2_with fail
  refine (HVa.out _ exT _ Hd.out.1.tree ex_fits).mono ?_
  rintro e wf ⟨rfl, hp⟩
  rw [ex_ok]
  have He : Hid (Aw w wf h ∧ InM wf (.agg #[.int .u8 tg, .slice A2 n2 c2, .slice K2 m2 d2]) exT ∧ Row wf r 26 #[.int .u8 tg, .slice A2 n2 c2, .slice K2 m2 d2]) := by
    obtain ⟨q1, q2, q3⟩ := Hd.out
    exact Lib.hid ⟨q1.later hp, q2.past hp, q3.past hp⟩
  clear Hd hp g0 g1 g2
  have g0 : wf.cell? ⟨h + 1 + 1, 0, none⟩ = some (.int .u8 48) := He.out.1.r2.cell 0
  have g1 : wf.cell? ⟨h + 1 + 1, 1, none⟩ = some (.slice none 0 0) := He.out.1.r2.cell 1
  have g2 : wf.cell? ⟨h + 1 + 1, 2, none⟩ = some (.slice (some ⟨h + 1, 0, none⟩) 1 1) := He.out.1.r2.cell 2
  go_wp2_with fail
  refine (HDe.out _ exT _ He.out.1.tree ex_fits).mono ?_
  rintro e wg ⟨rfl, hp⟩
  rw [show ((dep exT : Nat) : Int) = 2 from rfl]
  have Hf : Hid (Aw w wg h ∧ InM wg (.agg #[.int .u8 tg, .slice A2 n2 c2, .slice K2 m2 d2]) exT ∧ Row wg r 26 #[.int .u8 tg, .slice A2 n2 c2, .slice K2 m2 d2]) := by
    obtain ⟨q1, q2, q3⟩ := He.out
    exact Lib.hid ⟨q1.later hp, q2.past hp, q3.past hp⟩
  clear He hp g0 g1 g2
  have g0 : wg.cell? ⟨h + 1 + 1, 0, none⟩ = some (.int .u8 48) := Hf.out.1.r2.cell 0
  have g1 : wg.cell? ⟨h + 1 + 1, 1, none⟩ = some (.slice none 0 0) := Hf.out.1.r2.cell 1
  have g2 : wg.cell? ⟨h + 1 + 1, 2, none⟩ = some (.slice (some ⟨h + 1, 0, none⟩) 1 1) := Hf.out.1.r2.cell 2
  go_wp2_with fail
  refine (HCo.out _ exT _ Hf.out.1.tree ex_fits).mono ?_
  rintro e wh ⟨rfl, hp⟩
  rw [show ((cnt exT : Nat) : Int) = 2 from rfl]
  have Hg : Hid (Aw w wh h ∧ InM wh (.agg #[.int .u8 tg, .slice A2 n2 c2, .slice K2 m2 d2]) exT ∧ Row wh r 26 #[.int .u8 tg, .slice A2 n2 c2, .slice K2 m2 d2]) := by
    obtain ⟨q1, q2, q3⟩ := Hf.out
    exact Lib.hid ⟨q1.later hp, q2.past hp, q3.past hp⟩
  clear Hf hp g0 g1 g2
  have f0 : wh.cell? ⟨r, 0, none⟩ = some (.int .u8 tg) := Hg.out.2.2.cell 0
  have f1 : wh.cell? ⟨r, 1, none⟩ = some (.slice A2 n2 c2) := Hg.out.2.2.cell 1
  have f2 : wh.cell? ⟨r, 2, none⟩ = some (.slice K2 m2 d2) := Hg.out.2.2.cell 2
  go_wp2_with fail
  refine (HSa.out _ exT _ noT _ Hg.out.2.1 (no_in _) ex_fits no_fits).mono ?_
  rintro e wi ⟨b, rfl, hb, hp⟩
  have hbf : b = false := by
    cases b with
    | false => rfl
    | true => exact absurd (hb.1 rfl) (by unfold exT noT; intro h; injection h with h1 h2 h3; omega)
  subst hbf
  have Hh := Lib.hid (Hg.out.1.past.trans' hp)
  clear Hg hb hp f0 f1 f2
  go_wp2_with fail
  go_ret
  exact ⟨rfl, Hh.out⟩

end Go.Proofs.YtdpnfojpeafdhaaDoor
