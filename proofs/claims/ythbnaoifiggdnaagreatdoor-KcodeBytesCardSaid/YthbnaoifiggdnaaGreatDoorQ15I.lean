/- The program's Poly. -/
import Derived.Test.YthbnaoifiggdnaaGreatDoorQ15H
namespace Go.Proofs.YthbnaoifiggdnaaGreatDoor
open Go.RowKit
set_option linter.unusedVariables false
set_option maxRecDepth 100000

theorem firstX_iff {xs : List Int} (h : xs.length = 384) : (firstX xs = -1) ↔ ∀ j, j < 256 → n12 xs j < 3329 := by
  constructor
  · intro h1 j hj
    have := firstX_all h1 (by omega) j (by omega)
    omega
  · intro h1
    refine firstX_low fun i hi => ?_
    have := h1 i (by omega)
    omega
def polyQ (xs : List Int) : Value × Bool := if xs.length = 384 ∧ firstX xs = -1 then (.agg (arr .u16 256 (n12 xs)), true) else (.agg (arr .u16 256 fun _ => 0), false)
theorem load_poly (w : World) (g : Nat) (cs : Array Value) (hg : w.heap[g]? = some (.cells cs 45)) (h : (Tryz.prog.info? 45).map (·.size) = some cs.size) : (loadVar 45 ⟨g, 0, none⟩).run Tryz.prog w = .ok (.agg cs) w :=
  run_loadVar_row w g 45 45 cs (0, 0) _ hg Tryz.underlying45 rfl h
set_option maxHeartbeats 2000000 in
theorem kpoly_any (A : Option Addr) (n c : Nat) (xs : List Int) (w : World) (hS : Sl w A n c xs) (hn : n ≤ 10000) :
    Calls Tryz.prog 21 #[.slice A n c] w fun e w' => e = .returned (.tuple #[(polyQ xs).1, .bool (polyQ xs).2]) ∧ Past w w' := by
  have hl := hS.len
  obtain ⟨cz, hcz⟩ : ∃ x, arr .u16 256 (fun _ => (0 : Int)) = x := ⟨_, rfl⟩
  obtain ⟨g, hg⟩ : ∃ g, w.heap.size = g := ⟨_, rfl⟩
  obtain ⟨g2, hg2⟩ : ∃ g2, g + 1 = g2 := ⟨_, rfl⟩
  obtain ⟨w1, hw1⟩ : ∃ W, w.alloc (.cells cz 45) = W := ⟨_, rfl⟩
  obtain ⟨w2, hw2⟩ : ∃ W, w1.alloc (.cells cz 45) = W := ⟨_, rfl⟩
  have hs1 : w1.heap.size = g2 := by rw [← hw1, World.size_alloc, hg, hg2]
  have hp1 : Past w w1 := by rw [← hw1]; exact (Below.refl _ _).alloc (Nat.le_refl _) _
  have H0 : Hid (Fx [(g, 45, cz)] .u16 256 w w2 g2 45 fun _ => 0) := Lib.hid (by
    have r1 := Row.new w 45 cz
    rw [hg, hw1] at r1
    have r2 := Row.new w1 45 cz
    rw [hs1, hw2] at r2
    refine ⟨by rw [← hw2]; exact hp1.alloc hp1.size _, ?_, by unfold LM; rw [hcz]; exact r2⟩
    intro x hx
    rcases List.mem_cons.1 hx with rfl | hx
    · rw [← hw2]; exact r1.alloc _
    · cases hx)
  have HZP := Lib.hid zeroP
  rw [hcz] at HZP
  have HIZ : Hid ((Tryz.prog.info? 45).map (·.size) = some cz.size) := Lib.hid (by rw [← hcz]; exact infP _)
  have HOZ : Hid (cz.all (·.oneCell') = true) := Lib.hid (by rw [← hcz]; exact arr_one _ _ _)
  have HCZ : Hid (cz.size = 256) := Lib.hid (by rw [← hcz]; exact arr_size _ _ _)
  have HU := Lib.hid (fun w' (h : Past w w') => punpack_any 12 ((2 * 128 : Nat) : Int) A n c xs w' (hS.past h) hn)
  rw [unpack12 xs 128 (by decide), hl] at HU
  change Hid (∀ w', _ → Calls _ _ #[.int .i64 12, .int .i64 256, _] w' _) at HU
  have HG2 : Hid (w.heap.size = g ∧ g < g2) := Lib.hid ⟨hg, by omega⟩
  have HW1 := Lib.hid hw1
  have HW2 := Lib.hid hw2
  have HS1 := Lib.hid hs1
  by_cases h3 : n = 384
  · subst h3
    rw [if_pos rfl] at HU
    change Hid (∀ w', _ → Calls _ _ _ w' (NOpt (some (nums 12 xs 256)) w')) at HU
    have HFI := Lib.hid (firstX_iff (xs := xs) (by omega))
    have HNR := Lib.hid (fun j => n12_rng xs j)
    have HNA := Lib.hid (fun j (hj : j < 256) => nums12 xs 256 j hj)
    have HNL := Lib.hid (nums_len 12 xs 256)
    obtain ⟨V, hV⟩ : ∃ V, arr .u16 256 (n12 xs) = V := ⟨_, rfl⟩
    obtain ⟨R, hR⟩ : ∃ R, polyQ xs = R := ⟨_, rfl⟩
    have hR2 : (if firstX xs = -1 then (Value.agg V, true) else (Value.agg cz, false)) = R := by
      rw [← hR, ← hV, ← hcz]
      unfold polyQ
      by_cases hf : firstX xs = -1
      · rw [if_pos hf, if_pos ⟨by omega, hf⟩]
      · rw [if_neg hf, if_neg (fun h => hf h.2)]
    rw [hR]
    have HR := Lib.hid hR2
    have HV := Lib.hid hV
    have HVL := Lib.hid (fun w => pvalid_any (n12 xs) (fun j => by have := n12_rng xs j; omega) w)
    rw [hV] at HVL
    have HVI : Hid ((Tryz.prog.info? 45).map (·.size) = some V.size ∧ cz.size = V.size ∧ V.all (·.oneCell') = true) := Lib.hid ⟨by rw [← hV]; exact infP _, by rw [← hV, HCZ.out, arr_size], by rw [← hV]; exact arr_one _ _ _⟩
    generalize nums 12 xs 256 = ls at *
    clear hS hn hl hcz hg hg2 hw1 hw2 hs1 hp1 hR hR2 hV
    go_enter Tryz.func21, Tryz.ntmps21
    have hz := HZP.out
    go_upto_region 1 with (fail)
    rw [HW1.out]
    try rw [HG2.out.1]
    go_upto_region 2 with (fail)
    rw [HW2.out]
    try rw [HS1.out]
    clear hz
    go_wp2_with fail
    refine (HU.out w2 H0.out.1).mono ?_
    rintro e w3 ⟨A2, n2, c2, rfl, hS2, hp3⟩
    obtain rfl : n2 = 256 := by rw [← hS2.len, HNL.out]
    have HS2 := Lib.hid hS2
    have H3 : Hid (Fx [(g, 45, cz)] .u16 256 w w3 g2 45 fun _ => 0) := Lib.hid ⟨H0.out.1.trans' hp3, fun x hx => (H0.out.2.1 x hx).past hp3, Row.past H0.out.2.2 hp3⟩
    have HP3 : Hid (∀ h, h = g2 → h < w2.heap.size) := Lib.hid (fun h e => by rw [e]; exact Row.lt H0.out.2.2)
    clear hS2 hp3 HU
    have hok := HNL.out
    clear hok
    go_wp2_with fail
    go_loopg [7, 8, 16] 256 (fun q s7 s8 s16 wx => ∃ i : Nat, i ≤ 256 ∧ q = 256 - i ∧ s16 = .int .i64 (i : Int) ∧ Hid (w3.grownBy wx (some g2)) ∧ Hid (∃ F, Fx [(g, 45, cz)] .u16 256 w wx g2 45 F ∧ ∀ j, j < i → F j = n12 xs j))
    case atStart => exact ⟨0, Nat.zero_le _, rfl, rfl, Lib.hid (World.grownBy.refl w3 _), Lib.hid ⟨_, H3.out, fun j hj => absurd hj (Nat.not_lt_zero _)⟩⟩
    case round =>
      obtain ⟨i, hi, hq, rfl, HGR, HQ⟩ := hrel
      have HGQ := Lib.hid hq
      clear hq
      have hi0 : (0 : Int) ≤ (i : Int) := by omega
      obtain ⟨F, hT, hFF⟩ := HQ.out
      by_cases hlt : i < 256
      · have hii : (i : Int) < 256 := by omega
        have HLT := Lib.hid hlt
        obtain ⟨b, o, rfl, hc⟩ := HS2.out.cells (by decide)
        have hx0 := hc i hlt
        rw [HNA.out i hlt] at hx0
        have hbg : b ≠ g2 := by
          intro e
          rw [e] at hx0
          have h1 := Row.cell H3.out.2.2 (o + i)
          rw [h1] at hx0
          by_cases ho : o + i < 256
          · rw [arr_get .u16 256 _ _ ho] at hx0
            cases hx0
          · rw [Array.getElem?_eq_none (by rw [arr_size]; omega)] at hx0
            cases hx0
        have hx : wr.cell? ⟨b, o + i, none⟩ = some (.int .u32 (n12 xs i)) := HGR.out.cell hx0 (by intro e; injection e with e; exact hbg e)
        obtain ⟨x0, x1⟩ := HNR.out i
        obtain ⟨x, hxe⟩ : ∃ x, n12 xs i = x := ⟨_, rfl⟩
        have HX := Lib.hid hxe
        rw [hxe] at hx x0 x1
        have HWX : Hid (IntKind.u16.wrap x = x) := Lib.hid (by rw [IntKind.wrap_u16]; omega)
        have hc9 := hT.2.2.at i hlt
        have hf9 := hT.2.2.fr i
        have hT1 := hT.put (by have := HG2.out; omega) (by intro y hy; have := HG2.out; simp at hy; rcases hy with rfl; simp; omega) i hlt x
        have HT := Lib.hid (show ∃ F', Fx _ _ _ _ _ _ _ F' ∧ ∀ j, j < i + 1 → F' j = n12 xs j from ⟨_, hT1, fun j hj => by
          by_cases k1 : j = i
          · subst k1
            rw [upd_at, HX.out]
          · rw [upd_ne _ _ k1]
            exact hFF j (by omega)⟩)
        have HGR2 : Hid (w3.grownBy (wr.setCell ⟨g2, i, none⟩ (.int .u16 x)) (some g2)) := Lib.hid (only_setCell HGR.out (.inl rfl) _)
        clear hT hT1 hFF hlt hi hxe hc hx0 hbg x0 x1 HQ HX
        have hwx := HWX.out
        go_wp2_with fail
        go_roundg (256 - (i + 1))
        case rel => exact ⟨i + 1, HLT.out, rfl, by go_num, HGR2, HT⟩
        case measure => have := HGQ.out; have := HLT.out; omega
      · obtain rfl : i = 256 := by omega
        have he : arr .u16 256 F = arr .u16 256 (n12 xs) := arr_ext fun j hj => hFF j hj
        have hrf0 := hT.2.2
        unfold LM at hrf0
        rw [he, HV.out] at hrf0
        have hrg0 := hT.2.1 (g, 45, cz) (by simp)
        simp only at hrg0
        have HPW := Lib.hid hT.1
        have HRF := Lib.hid hrf0
        have HRG := Lib.hid hrg0
        clear hT hFF he hrf0 hrg0 HQ
        have hrf := HRF.out
        have hiv := HVI.out.1
        go_wp2_with fail
        refine wp_load_row 45 (.tmp 4) rfl g2 rfl _ _ (0, 0) _ hrf Tryz.underlying45 rfl hiv ?_
        go_wp2_with fail
        refine (HVL.out _).mono ?_
        rintro e w5 ⟨v, rfl, hv, hp5⟩
        have HPF := Lib.hid (HPW.out.trans' hp5)
        have hrf := HRF.out.past hp5
        have hrg := HRG.out.past hp5
        have HRG5 := Lib.hid hrg
        have HVV := Lib.hid hv
        clear hp5 hv
        cases v with
        | true =>
          have HRR : Hid (R = (.agg V, true)) := Lib.hid (by rw [← HR.out, if_pos (HFI.out.2 (HVV.out.1 rfl))])
          go_wp2_with (first
            | (refine wpList_load_row rfl 45 _ rfl g2 rfl _ _ (0, 0) _ hrf Tryz.underlying45 rfl hiv ?_)
            | (refine wpList_store_row rfl 45 _ _ rfl g _ rfl rfl _ _ hrg hiv HVI.out.2.1 HVI.out.2.2 ?_))
          refine bodyPost_ret (results_cr rfl _ _ ⟨g, 0, none⟩ _ rfl (load_poly _ g _ (setRow_heap _ g _ _ _ _ HRG5.out) HVI.out.1)) (by rfl) ?_
          exact ⟨by rw [HRR.out]; rfl, below_setRow HPF.out (by have := HG2.out; omega) _⟩
        | false =>
          have HRR : Hid (R = (.agg cz, false)) := Lib.hid (by
            rw [← HR.out, if_neg]
            intro h
            have := HVV.out.2 (HFI.out.1 h)
            cases this)
          have hz := HZP.out
          go_wp2_with (refine wpList_store_row rfl 45 _ _ rfl g _ rfl rfl _ _ hrg HIZ.out (by rfl) HOZ.out ?_)
          refine bodyPost_ret (results_cr rfl _ _ ⟨g, 0, none⟩ _ rfl (load_poly _ g _ (setRow_heap _ g _ _ _ _ HRG5.out) HIZ.out)) (by rfl) ?_
          exact ⟨by rw [HRR.out]; rfl, below_setRow HPF.out (by have := HG2.out; omega) _⟩
  · rw [if_neg (by omega)] at HU
    change Hid (∀ w', _ → Calls _ _ _ w' (NOpt none w')) at HU
    have hpq : polyQ xs = (.agg cz, false) := by unfold polyQ; rw [if_neg (by omega), hcz]
    rw [hpq]
    have HPQ := Lib.hid hpq
    clear hS hn hl hcz hg hg2 hw1 hw2 hs1 hp1 h3 hpq
    go_enter Tryz.func21, Tryz.ntmps21
    have hz := HZP.out
    go_upto_region 1 with (fail)
    rw [HW1.out]
    try rw [HG2.out.1]
    go_upto_region 2 with (fail)
    rw [HW2.out]
    try rw [HS1.out]
    clear hz
    go_wp2_with fail
    refine (HU.out w2 H0.out.1).mono ?_
    rintro e w3 ⟨rfl, hp3⟩
    have HPF := Lib.hid (H0.out.1.trans' hp3)
    have hrg0 := (H0.out.2.1 (g, 45, cz) (by simp)).past hp3
    simp only at hrg0
    have HRG5 := Lib.hid hrg0
    clear hp3 HU hrg0
    go_wp2_with fail
    go_loopg [7, 8, 16] 0 (fun q s7 s8 s16 wx => q = 0 ∧ s16 = .int .i64 0 ∧ Hid (wx = w3))
    case atStart => exact ⟨rfl, rfl, Lib.hid rfl⟩
    case round =>
      obtain ⟨hq, rfl, HW⟩ := hrel
      clear hq
      rw [HW.out]
      have hrg := HRG5.out
      have hz := HZP.out
      go_wp2_with (refine wpList_store_row rfl 45 _ _ rfl g _ rfl rfl _ _ hrg HIZ.out (by rfl) HOZ.out ?_)
      refine bodyPost_ret (results_cr rfl _ _ ⟨g, 0, none⟩ _ rfl (load_poly _ g _ (setRow_heap _ g _ _ _ _ HRG5.out) HIZ.out)) (by rfl) ?_
      exact ⟨rfl, below_setRow HPF.out (by have := HG2.out; omega) _⟩
end Go.Proofs.YthbnaoifiggdnaaGreatDoor
