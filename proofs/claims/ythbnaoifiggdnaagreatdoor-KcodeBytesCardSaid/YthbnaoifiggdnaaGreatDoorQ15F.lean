/- The program's CheckPrivate. The program's Public. -/
import Derived.Test.YthbnaoifiggdnaaGreatDoorQ15D
import Derived.Test.YthbnaoifiggdnaaGreatDoorR15E
import Derived.Test.YthbnaoifiggdnaaGreatDoorSp7A
import Derived.Deep.RegionHeld
import Derived.Laws.Cover3
namespace Go.Proofs.YthbnaoifiggdnaaGreatDoor
open Go.RowKit
set_option linter.unusedVariables false
set_option maxRecDepth 100000

theorem eqNilCode (c : Int) (w : World) : (binOp .eql 30 .nilIface (.iface 59 (.int .i64 c))).run Tryz.prog w = .ok (.bool false) w := by kernel_rfl
theorem isNil_any (c : Int) (w : World) : Calls Tryz.prog 35 #[.nilIface, .iface 59 (.int .i64 c)] w fun e w' => e = .returned (.bool false) ∧ Past w w' := by
  have h0 := eqNilCode c
  go_enter Tryz.func35, Tryz.ntmps35
  go_wp2_with fail
  go_ret
  exact ⟨rfl, Below.refl _ _⟩
theorem seg_seg (xs : List Int) (a m : Nat) : seg (seg xs a (m + 32)) 0 m = seg xs a m := by
  unfold seg
  rw [List.drop_zero, List.take_take, show min m (m + 32) = m by omega]
theorem eqB_same (f : Nat → Int) (ys : List Int) (n : Nat) (hl : ys.length = n) : eqB n f (fun i => ys.getD i 0) = sameB (bl f n) ys := by
  cases hs : sameB (bl f n) ys with
  | true =>
    have e := sameB_true hs
    exact eqB_true fun i hi => by rw [← e, bl_getD f n i hi]
  | false =>
    cases he : eqB n f (fun i => ys.getD i 0) with
    | false => rfl
    | true =>
      exfalso
      unfold eqB at he
      rw [List.all_eq_true] at he
      have : bl f n = ys := list_ext5 (by rw [bl_len, hl]) fun i hi => by
        rw [bl_len] at hi
        rw [bl_getD f n i hi]
        simpa using he i (List.mem_range.2 hi)
      rw [this, sameB_refl] at hs
      cases hs
theorem inf32 : (Tryz.prog.info? 75).map (·.size) = some 32 := by kernel_rfl
theorem eg32 : Tryz.prog.eqGuardType Tryz.prog.depth 75 = false := by kernel_rfl
theorem runEq32 (f g : Nat → Int) (w : World) : (Op.equalIn 10000 75 (.agg (arr .u8 32 f)) (.agg (arr .u8 32 g))).run Tryz.prog w = .ok (eqB 32 f g) w := by
  obtain ⟨i, hi, hz⟩ : ∃ i, Tryz.prog.info? 5 = some i ∧ i.size = 1 := by
    cases hq : Tryz.prog.info? 5 with
    | none =>
      have : (Tryz.prog.info? 5).isSome = true := by kernel_rfl
      rw [hq] at this
      cases this
    | some i =>
      have : (Tryz.prog.info? 5).map (·.size) = some 1 := by kernel_rfl
      rw [hq] at this
      exact ⟨i, rfl, by simpa using this⟩
  exact run_eq_arr w Tryz.underlying75 Tryz.underlying5 hi hz
theorem hsum_any (b o N c : Nat) (xs : List Int) (w : World) (hS : Sl w (some ⟨b, o, none⟩) N c xs) (hN : N ≤ 100000) :
    Calls Tryz.prog 37 #[.slice (some ⟨w.heap.size, 0, none⟩) 1 1] (w.alloc (.cells #[.slice (some ⟨b, o, none⟩) N c] 25)) fun e w' =>
      e = .returned (.agg (arr .u8 32 (rout (rstate xs 136 6) 136))) ∧ Past (w.alloc (.cells #[.slice (some ⟨b, o, none⟩) N c] 25)) w' := by
  have h := hSHA256_any _ 1 1 _ _ _ _ (Sls.one w 25 hS) (by decide) (by rw [cat_one, hS.len]; omega)
  rw [cat_one] at h
  exact h
theorem errV_shape (R : Int × Int) : errV R = .nilIface ∨ ∃ t v, errV R = .iface t v := by
  unfold errV
  split
  · exact .inl rfl
  · exact .inr ⟨_, _, rfl⟩
theorem chkPriv_in {a : Int} {xs : List Int} {N P n : Nat} (ha : 1 ≤ a ∧ a ≤ 3) (hN : 384 * (a + 1) = (N : Int)) (hP : N + (N + 32) = P) (hl : xs.length = n) : chkPriv a xs = if n ≠ P + 64 then (6, 0) else if 0 ≤ firstX (seg xs 0 N) then (9, firstX (seg xs 0 N)) else
    if 0 ≤ firstX (seg xs N N) then (9, (N : Int) + firstX (seg xs N N)) else if sameB (shaL (seg xs N (N + 32))) (seg xs P 32) = false then (11, (P : Int)) else (0, 0) := by
  unfold chkPriv
  rw [if_neg (show ¬ (a < 1 ∨ 3 < a) by omega), hN, Int.toNat_natCast, hl, show 2 * N + 32 = P by omega, show 2 * (N : Int) + 32 = (P : Int) by omega]
  by_cases h : n = P + 64
  · rw [if_neg (show ¬ (n : Int) ≠ 2 * (N : Int) + 96 by omega), if_neg (show ¬ n ≠ P + 64 by omega)]
  · rw [if_pos (show (n : Int) ≠ 2 * (N : Int) + 96 by omega), if_pos h]
set_option maxHeartbeats 4000000 in
theorem kcheckPrivate_any (a : Int) (A : Option Addr) (n c : Nat) (xs : List Int) (w : World) (hS : Sl w A n c xs) (hn : n ≤ 10000) (hG : Glob15 w) :
    Calls Tryz.prog 15 #[.int .i64 a, .slice A n c] w fun e w' => e = .returned (errV (chkPriv a xs)) ∧ Past w w' := by
  have HRW := Lib.hid (krow_any a w hG.1)
  have HGG := Lib.hid hG
  obtain ⟨R, hR⟩ : ∃ R, chkPriv a xs = R := ⟨_, rfl⟩
  rw [hR]
  by_cases ha : 1 ≤ a ∧ a ≤ 3
  · have HA := Lib.hid ha
    have hl := hS.len
    have hcp := hS.cap
    obtain ⟨N, hN⟩ : ∃ N : Nat, 384 * (a + 1) = (N : Int) := ⟨(384 * (a + 1)).toNat, by omega⟩
    obtain ⟨M, hM⟩ : ∃ M : Nat, N + 32 = M := ⟨_, rfl⟩
    obtain ⟨P, hP⟩ : ∃ M : Nat, N + (N + 32) = M := ⟨_, rfl⟩
    obtain ⟨Q, hQ⟩ : ∃ M : Nat, P + 32 = M := ⟨_, rfl⟩
    obtain ⟨Mp, hMp⟩ : ∃ M : Nat, P + 64 = M := ⟨_, rfl⟩
    have HPUB : Hid ((row13 a).pub = ((N + 32 : Nat) : Int) ∧ (row13 a).priv = (Mp : Int)) := Lib.hid ⟨by rw [(kem_sizes ha).1, hN]; omega, by rw [(kem_sizes ha).2, hN]; omega⟩
    rw [chkPriv_in ha hN hP hl, hMp] at hR
    by_cases h3 : n = Mp
    · subst h3
      rw [if_neg (by omega)] at hR
      obtain ⟨b0, o0, rfl, _⟩ := hS.bytes (by omega)
      have HNN : Hid (0 < N ∧ N ≤ 3000 ∧ N + (N + 32) = P ∧ P + 32 = Q ∧ Q ≤ n ∧ n ≤ c) := Lib.hid ⟨by omega, by omega, hP, hQ, by omega, by omega⟩
      have HCP := Lib.hid (fun w' (h : Past w w') => checkPolys_any _ N N (seg xs 0 N) w' ((hS.past h).pre3 (by omega) (by omega)) (by omega))
      have HPU := Lib.hid (fun w' (h : Past w w') => kcheckPublic_any a _ M M (seg xs N M) w' ((hS.past h).cut3 (L := N) (H := P) (m := M) (by omega) (by omega) (by omega)) (by omega) (hG.1.past h))
      have HSH := Lib.hid (fun w' (h : Past w w') => hsum_any b0 (o0 + N) M M (seg xs N M) w' ((hS.past h).cut3 (L := N) (H := P) (m := M) (by omega) (by omega) (by omega)) (by omega))
      have hcu : chkPub a (seg xs N M) = polyR (seg xs N N) := by
        unfold chkPub polyR
        rw [if_neg (show ¬ (a < 1 ∨ 3 < a) by omega), hN, Int.toNat_natCast, seg_len (by omega), if_neg (by omega), ← hM, seg_seg]
      rw [hcu] at HPU
      obtain ⟨lY, hlY⟩ : ∃ l : List Value, l = (List.range 32).map fun i => Value.int .u8 ((seg xs P 32).getD i 0) := ⟨_, rfl⟩
      have HYA : Hid (lY.toArray = arr .u8 32 fun i => (seg xs P 32).getD i 0) := Lib.hid (by rw [hlY]; rfl)
      have HI1 : Hid ((Tryz.prog.info? 75).map (·.size) = some lY.length) := Lib.hid (by
        have e : lY.length = 32 := by rw [hlY]; simp
        rw [e]
        exact inf32)
      have HRG : Hid (∀ w', Past w w' → w'.rangeAt b0 (o0 + P) lY) := Lib.hid (fun w' h j v hj => by
        have hS3 := (hS.past h).cut3 (L := P) (H := Q) (m := 32) (by omega) (by omega) (by omega)
        rw [hlY] at hj
        have hj32 : j < 32 := by
          have := (List.getElem?_eq_some_iff.1 hj).1
          simpa using this
        obtain ⟨b1, o1, e1, hc1⟩ := hS3.bytes (by omega)
        simp only [Option.some.injEq, Addr.mk.injEq, and_true] at e1
        obtain ⟨rfl, rfl⟩ := e1
        rw [hc1 j hj32]
        simpa [hj32] using hj)
      obtain ⟨F, hF⟩ : ∃ F, rout (rstate (seg xs N M) 136 6) 136 = F := ⟨_, rfl⟩
      have hsame : sameB (shaL (seg xs N M)) (seg xs P 32) = eqB 32 F (fun i => (seg xs P 32).getD i 0) := by
        rw [eqB_same F _ 32 (seg_len (by omega)), ← hF]
        rfl
      have HEQ0 := Lib.hid (runEq32 F (fun i => (seg xs P 32).getD i 0))
      rw [hM, hsame] at hR
      rw [hF] at HSH
      obtain ⟨ok, hok⟩ : ∃ ok, eqB 32 F (fun i => (seg xs P 32).getD i 0) = ok := ⟨_, rfl⟩
      rw [hok] at hR HEQ0
      rw [← HYA.out] at HEQ0
      have HEG := Lib.hid eg32
      obtain ⟨cF, hcF⟩ : ∃ x, arr .u8 32 F = x := ⟨_, rfl⟩
      rw [hcF] at HEQ0 HSH
      have HEQ := HEQ0
      obtain ⟨r1, hr1⟩ : ∃ r, firstX (seg xs 0 N) = r := ⟨_, rfl⟩
      obtain ⟨r2, hr2⟩ : ∃ r, firstX (seg xs N N) = r := ⟨_, rfl⟩
      have hf2 := firstX_rng (seg xs N N)
      rw [seg_len (by omega), hr2] at hf2
      rw [hr1, hr2] at hR
      unfold polyR at HCP HPU
      rw [hr1] at HCP
      rw [hr2] at HPU
      have HR := Lib.hid hR
      have HMV := Lib.hid (fun w' (h : Past w w') (h2 : 0 ≤ r2) => kmoved_any r2 (N : Int) w' (hG.2.past h) h2 (by omega) (by omega) (by omega))
      have HMN := Lib.hid hM
      clear hS hn hG hl hN hM hP hQ hMp hR ha hcp hcu hlY hF hsame hok hcF hr1 hr2 hf2 HYA HEQ0
      go_enter Tryz.func15, Tryz.ntmps15
      go_wp2_with fail
      refine HRW.out.mono ?_
      rintro e w1 ⟨r, oA, on, oc, rfl, hr, hp⟩
      have hdec : decide (1 ≤ a ∧ a ≤ 3) = true := decide_eq_true HA.out
      rw [hdec]
      have hrr := hr HA.out
      have hrp : r.priv = (n : Int) := by rw [hrr]; exact HPUB.out.2
      unfold setV
      obtain ⟨u, hu⟩ : ∃ u, w1.heap.size = u := ⟨_, rfl⟩
      obtain ⟨w2, hw2⟩ : ∃ w2, w1.alloc (.cells (setC r (.slice oA on oc)) 66) = w2 := ⟨_, rfl⟩
      have hru : Row w2 u 66 (setC r (.slice oA on oc)) := by rw [← hw2, ← hu]; exact Row.new _ _ _
      have HP2 : Hid (Past w w2) := Lib.hid (by rw [← hw2]; exact hp.trans' (past_alloc13 _ _))
      have c4 : w2.cell? ⟨u, 4, none⟩ = some (.int .i64 (n : Int)) := by rw [hru.cell, ← hrp]; rfl
      have HRU := Lib.hid hru
      have HRR := Lib.hid hrr
      have HW2 := Lib.hid hw2
      have HU := Lib.hid hu
      clear hw2 hu hp hr hdec hru hrp hrr
      go_upto_region 2 with (fail)
      rw [HW2.out]
      try rw [HU.out]
      clear HW2 HU HRW
      have HSP := Lib.hid (fun w' => split_any r oA on oc N P Q b0 o0 n c w' (by rw [HRR.out]; exact HPUB.out.1) HNN.out.1 HNN.out.2.1 HNN.out.2.2.1 HNN.out.2.2.2.1 HNN.out.2.2.2.2.1 HNN.out.2.2.2.2.2)
      rw [HMN.out] at HSP
      go_upto_region 6 with (fail)
      have hr6 := HRU.out
      go_wp2_with (refine wpList_load_row rfl 66 _ rfl u rfl _ _ _ _ hr6 Tryz.underlying66 rfl (resS _ (by rfl)) ?_)
      refine (HSP.out _).mono ?_
      rintro e w3 ⟨rfl, hp3⟩
      have HP3 := Lib.hid (HP2.out.trans' hp3)
      clear hp3 HSP hr6 c4 HRU HRR
      go_wp2_with fail
      refine (HCP.out _ HP3.out).mono ?_
      rintro e w4 ⟨rfl, hp4⟩
      have HP4 := Lib.hid (HP3.out.trans' hp4)
      clear hp4 HCP
      by_cases h4 : 0 ≤ r1
      · have HE0 : Hid (errV R = (Ch.flt 9 r1).val) := Lib.hid (by rw [← HR.out, if_pos h4]; rfl)
        rw [if_pos h4]
        obtain ⟨V1, hV1⟩ : ∃ v, Value.agg #[.int .i64 9, .int .i64 r1] = v := ⟨_, rfl⟩
        have hE : errV (9, r1) = .iface 92 V1 := by rw [← hV1]; rfl
        have HE2 : Hid (errV R = .iface 92 V1) := Lib.hid (by rw [HE0.out, ← hV1]; rfl)
        rw [hE]
        clear hE hV1
        go_wp2_with fail
        go_ret
        exact ⟨congrArg Ending.returned HE2.out.symm, HP4.out⟩
      · rw [if_neg h4, errV_zero]
        go_wp2_with fail
        refine (HPU.out _ HP4.out).mono ?_
        rintro e w5 ⟨rfl, hp5⟩
        have HP5 := Lib.hid (HP4.out.trans' hp5)
        clear hp5 HPU
        by_cases h5 : 0 ≤ r2
        · have HE0 : Hid (errV R = (Ch.flt 9 ((N : Int) + r2)).val) := Lib.hid (by rw [← HR.out, if_neg (by omega), if_pos h5]; rfl)
          rw [if_pos h5, errV_pos (by decide)]
          have HIS := Lib.hid (fun w => isCode_any (.flt 9 r2) 9 true w trivial rfl)
          have HM2 := Lib.hid (fun w' h => HMV.out w' h h5)
          obtain ⟨V1, hV1⟩ : ∃ v, (Ch.flt 9 r2).val = v := ⟨_, rfl⟩
          rw [hV1] at HIS HM2 ⊢
          clear hV1
          go_wp2_with fail
          refine (HIS.out _).mono ?_
          rintro e w6 ⟨rfl, hp6⟩
          have HP6 := Lib.hid (HP5.out.trans' hp6)
          clear hp6
          go_wp2_with fail
          refine (HM2.out _ HP6.out).mono ?_
          rintro e w7 ⟨rfl, hp7⟩
          have HP7 := Lib.hid (HP6.out.trans' hp7)
          obtain ⟨E, hE⟩ : ∃ E, (Ch.flt 9 ((N : Int) + r2)).val = E := ⟨_, rfl⟩
          have HE2 : Hid (errV R = E) := Lib.hid (by rw [HE0.out, hE])
          rw [hE]
          clear hp7 hE
          go_wp2_with fail
          go_ret
          exact ⟨congrArg Ending.returned HE2.out.symm, HP7.out⟩
        · rw [if_neg h5, errV_zero]
          go_wp2_with fail
          refine (isNil_any 9 _).mono ?_
          rintro e w7 ⟨rfl, hp7⟩
          have HP7 := Lib.hid (HP5.out.trans' hp7)
          clear hp7
          go_upto_region 13 with (fail)
          have HAR := Lib.hid (fun w => run_arrayAt (P := Tryz.prog) w 75 5 32 (some ⟨b0, o0 + P, none⟩) 32 32 Tryz.underlying75 (Nat.le_refl _))
          obtain ⟨wd, hwd⟩ : ∃ W, W = w7.drew := ⟨_, rfl⟩
          have HPD : Hid (Past w wd) := Lib.hid (by rw [hwd]; exact HP7.out.drewN 1)
          refine wp_region_held_drew (S := fun w' => w'.rangeAt b0 (o0 + P) lY) (by kernel_rfl) (by rw [← hwd]; exact HRG.out _ HPD.out) (fun hH => ?_)
          change wpAnyH _ _ _ _ _ _ _ _ (World.drew _)
          rw [← hwd]
          clear hH hwd
          have hH := HRG.out _ HPD.out
          refine held_take 0 48 (v := .slice (some ⟨b0, o0 + N, none⟩) M M) rfl rfl (by kernel_rfl) (by kernel_rfl) (by kernel_rfl) (fun _ _ _ h => h) (Or.inl ⟨by kernel_rfl, fun w _ => by kernel_rfl⟩) hH ?_
          (try simp only [List.setIfInBounds_toArray, List.set_cons_zero, List.set_cons_succ])
          refine held_take 3 51 (v := .slice (some ⟨b0, o0 + P, none⟩) 32 32) rfl rfl (by kernel_rfl) (by kernel_rfl) (by kernel_rfl) (fun _ _ _ h => h) (Or.inl ⟨by kernel_rfl, fun w _ => by kernel_rfl⟩) hH ?_
          (try simp only [List.setIfInBounds_toArray, List.set_cons_zero, List.set_cons_succ])
          refine held_take 4 52 (v := .pointer (some ⟨b0, o0 + P, none⟩)) rfl rfl (by kernel_rfl) (by kernel_rfl) (by kernel_rfl) (fun _ _ _ h => h) (Or.inl ⟨by kernel_rfl, fun w _ => by have har := HAR.out; go_simp⟩) hH ?_
          (try simp only [List.setIfInBounds_toArray, List.set_cons_zero, List.set_cons_succ])
          refine held_take 5 53 rfl rfl (by kernel_rfl) (by kernel_rfl) (by kernel_rfl) (fun _ _ _ h => h) (yieldsIf_load_mid (by kernel_rfl) 75 (.tmp 52) rfl b0 (o0 + P) rfl lY _ (fun _ h => h) Tryz.underlying75 rfl HI1.out) hH ?_
          (try simp only [List.setIfInBounds_toArray, List.set_cons_zero, List.set_cons_succ])
          refine wpAnyH_ready (rs := [1]) (by kernel_rfl) (by simp) ?_
          refine AllReadyH.cons (by simp only [List.getElem?_toArray, List.getElem?_cons_succ, List.getElem?_cons_zero]; rfl) (fun K hK => ?_) AllReadyH.nil
          go_simp
          have HSC := Lib.hid (HSH.out _ HPD.out)
          obtain ⟨u8, hu8⟩ : ∃ u, wd.heap.size = u := ⟨_, rfl⟩
          obtain ⟨w8, hw8⟩ : ∃ W, wd.alloc (.cells #[.slice (some ⟨b0, o0 + N, none⟩) M M] 25) = W := ⟨_, rfl⟩
          rw [hu8, hw8] at HSC
          have HP8 : Hid (Past w w8) := Lib.hid (by rw [← hw8]; exact HPD.out.trans' ((Below.refl _ _).alloc (Nat.le_refl _) _))
          try rw [hu8]
          try rw [hw8]
          clear hu8 hw8
          refine hK.out _ _ (HRG.out _ HP8.out) (fun hH => ?_)
          clear hK K
          refine wpAnyH_ready (rs := [2]) (by kernel_rfl) (by simp) ?_
          refine AllReadyH.cons (by simp only [List.getElem?_toArray, List.getElem?_cons_succ, List.getElem?_cons_zero]; rfl) (fun K hK => ?_) AllReadyH.nil
          go_simp
          refine HSC.out.mono ?_
          rintro e w9 ⟨rfl, hp9⟩
          have HP9 := Lib.hid (HP8.out.trans' hp9)
          clear hp9
          refine hK.out _ _ (HRG.out _ HP9.out) (fun hH => ?_)
          clear hK K
          refine held_take 6 54 (v := .bool (!ok)) rfl rfl (by kernel_rfl) (by kernel_rfl) (by kernel_rfl) (fun _ _ _ h => h) (Or.inl ⟨by kernel_rfl, fun w _ => by
            have heq := HEQ.out
            have heg := HEG.out
            go_simp⟩) hH ?_
          refine wpAnyH_done (by kernel_rfl) ?_ _
          go_simp
          cases ok with
          | true =>
            have HE2 : Hid (errV R = .nilIface) := Lib.hid (by rw [← HR.out, if_neg (by omega), if_neg (by omega), if_neg (by decide)]; rfl)
            go_wp2_with fail
            go_ret
            exact ⟨congrArg Ending.returned HE2.out.symm, HP9.out⟩
          | false =>
            have HE0 : Hid (errV R = (Ch.flt 11 (P : Int)).val) := Lib.hid (by rw [← HR.out, if_neg (by omega), if_neg (by omega), if_pos rfl]; rfl)
            have HWW : Hid (IntKind.i64.wrap ((N : Int) + (M : Int)) = (P : Int) ∧ wrap64 (P : Int) = (P : Int)) := Lib.hid (by
              have := HNN.out
              have := HMN.out
              exact ⟨by rw [IntKind.wrap_i64]; omega, IntWalk.wrap64_in _ (by omega)⟩)
            obtain ⟨hw1, hw2⟩ := HWW.out
            go_wp2_with fail
            refine (new_any 11 (P : Int) w9).mono ?_
            rintro e w10 ⟨rfl, hp10⟩
            have HP10 := Lib.hid (HP9.out.trans' hp10)
            obtain ⟨E, hE⟩ : ∃ E, (Ch.flt 11 (P : Int)).val = E := ⟨_, rfl⟩
            have HE2 : Hid (errV R = E) := Lib.hid (by rw [HE0.out, hE])
            rw [hE]
            clear hp10 hE
            go_wp2_with fail
            go_ret
            exact ⟨congrArg Ending.returned HE2.out.symm, HP10.out⟩
    · rw [if_pos h3] at hR
      have HE0 : Hid (errV R = (Ch.flt 6 0).val) := Lib.hid (by rw [← hR]; rfl)
      have hnM : ¬ (n : Int) = (Mp : Int) := by omega
      have HNM := Lib.hid hnM
      clear hS hn hG hl hN hM hP hQ hMp hR hnM ha hcp h3
      go_enter Tryz.func15, Tryz.ntmps15
      go_wp2_with fail
      refine HRW.out.mono ?_
      rintro e w1 ⟨r, oA, on, oc, rfl, hr, hp⟩
      have hdec : decide (1 ≤ a ∧ a ≤ 3) = true := decide_eq_true HA.out
      rw [hdec]
      have hrr := hr HA.out
      have hrp : r.priv = (Mp : Int) := by rw [hrr]; exact HPUB.out.2
      unfold setV
      obtain ⟨u, hu⟩ : ∃ u, w1.heap.size = u := ⟨_, rfl⟩
      obtain ⟨w2, hw2⟩ : ∃ w2, w1.alloc (.cells (setC r (.slice oA on oc)) 66) = w2 := ⟨_, rfl⟩
      have hru : Row w2 u 66 (setC r (.slice oA on oc)) := by rw [← hw2, ← hu]; exact Row.new _ _ _
      have HP2 : Hid (Past w w2) := Lib.hid (by rw [← hw2]; exact hp.trans' (past_alloc13 _ _))
      have c4 : w2.cell? ⟨u, 4, none⟩ = some (.int .i64 (Mp : Int)) := by rw [hru.cell, ← hrp]; rfl
      have HRU := Lib.hid hru
      have HRR := Lib.hid hrr
      have HW2 := Lib.hid hw2
      have HU := Lib.hid hu
      clear hw2 hu hp hr hdec hru hrp hrr
      go_upto_region 2 with (fail)
      rw [HW2.out]
      try rw [HU.out]
      clear HW2 HU HRW
      have hnM := HNM.out
      go_wp2_with fail
      refine (new_any 6 0 w2).mono ?_
      rintro e w3 ⟨rfl, hp3⟩
      have HP3 := Lib.hid (HP2.out.trans' hp3)
      obtain ⟨E, hE⟩ : ∃ E, (Ch.flt 6 0).val = E := ⟨_, rfl⟩
      have HE2 : Hid (errV R = E) := Lib.hid (by rw [HE0.out, hE])
      rw [hE]
      clear hp3 hE
      go_wp2_with fail
      go_ret
      exact ⟨congrArg Ending.returned HE2.out.symm, HP3.out⟩
  · have HE0 : Hid (errV R = (Ch.flt 8 0).val) := Lib.hid (by
      rw [← hR]
      unfold chkPriv
      rw [if_pos (show a < 1 ∨ 3 < a by omega)]
      rfl)
    have HA := Lib.hid ha
    clear hS hn hG hR ha
    go_enter Tryz.func15, Tryz.ntmps15
    go_wp2_with fail
    refine HRW.out.mono ?_
    rintro e w1 ⟨r, oA, on, oc, rfl, hr, hp⟩
    have hdec : decide (1 ≤ a ∧ a ≤ 3) = false := decide_eq_false HA.out
    rw [hdec]
    unfold setV
    obtain ⟨w2, hw2⟩ : ∃ w2, w1.alloc (.cells (setC r (.slice oA on oc)) 66) = w2 := ⟨_, rfl⟩
    have HP2 : Hid (Past w w2) := Lib.hid (by rw [← hw2]; exact hp.trans' (past_alloc13 _ _))
    have HW2 := Lib.hid hw2
    clear hw2 hp hr hdec
    go_upto_region 2 with (fail)
    rw [HW2.out]
    clear HW2 HRW
    go_wp2_with fail
    refine (new_any 8 0 w2).mono ?_
    rintro e w3 ⟨rfl, hp3⟩
    have HP3 := Lib.hid (HP2.out.trans' hp3)
    obtain ⟨E, hE⟩ : ∃ E, (Ch.flt 8 0).val = E := ⟨_, rfl⟩
    have HE2 : Hid (errV R = E) := Lib.hid (by rw [HE0.out, hE])
    rw [hE]
    clear hp3 hE
    go_wp2_with fail
    go_ret
    exact ⟨congrArg Ending.returned HE2.out.symm, HP3.out⟩
end Go.Proofs.YthbnaoifiggdnaaGreatDoor

namespace Go.Proofs.YthbnaoifiggdnaaGreatDoor
open Go.RowKit
set_option linter.unusedVariables false
set_option maxRecDepth 100000

def nA (a : Int) : Nat := (384 * (a + 1)).toNat
def PubQ (a : Int) (xs : List Int) (w : World) (e : Ending) (w' : World) : Prop :=
  (if (chkPriv a xs).1 = 0 then ∃ v, e = .returned (.tuple #[v, .bool true]) ∧ w'.ownsRow w.heap.size 5 1 v (nA a + 32) ((seg xs (nA a) (nA a + 32)).map (Value.int .u8))
    else e = .returned (.tuple #[.slice none 0 0, .bool false])) ∧ Past w w'
theorem chkPriv_zero {a : Int} {xs : List Int} (h : (chkPriv a xs).1 = 0) : (1 ≤ a ∧ a ≤ 3) ∧ (xs.length : Int) = 2 * (384 * (a + 1)) + 96 ∧ chkPriv a xs = (0, 0) := by
  by_cases h1 : a < 1 ∨ 3 < a
  · unfold chkPriv at h
    rw [if_pos h1] at h
    cases h
  · by_cases h2 : (xs.length : Int) ≠ 2 * (384 * (a + 1)) + 96
    · unfold chkPriv at h
      rw [if_neg h1, if_pos h2] at h
      cases h
    · refine ⟨by omega, by omega, ?_⟩
      unfold chkPriv at h ⊢
      rw [if_neg h1, if_neg h2] at h ⊢
      by_cases h3 : 0 ≤ firstX (seg xs 0 (384 * (a + 1)).toNat)
      · rw [if_pos h3] at h
        cases h
      · rw [if_neg h3] at h ⊢
        by_cases h4 : 0 ≤ firstX (seg xs (384 * (a + 1)).toNat (384 * (a + 1)).toNat)
        · rw [if_pos h4] at h
          cases h
        · rw [if_neg h4] at h ⊢
          by_cases h5 : sameB (shaL (seg xs (384 * (a + 1)).toNat ((384 * (a + 1)).toNat + 32))) (seg xs (2 * (384 * (a + 1)).toNat + 32) 32) = false
          · rw [if_pos h5] at h
            cases h
          · rw [if_neg h5]
set_option maxHeartbeats 2000000 in
theorem kpublic_any (a : Int) (A : Option Addr) (n c : Nat) (xs : List Int) (w : World) (hS : Sl w A n c xs) (hn : n ≤ 10000) (hG : Glob15 w) :
    Calls Tryz.prog 17 #[.int .i64 a, .slice A n c] w (PubQ a xs w) := by
  have HRW := Lib.hid (krow_any a w hG.1)
  by_cases ha : 1 ≤ a ∧ a ≤ 3
  · have HA := Lib.hid ha
    have HCK := Lib.hid (fun w' (h : Past w w') => kcheckPrivate_any a A n c xs w' (hS.past h) hn (hG.past h))
    have HCKs := HCK
    obtain ⟨R, hR⟩ : ∃ R, chkPriv a xs = R := ⟨_, rfl⟩
    rw [hR] at HCK
    have HR := Lib.hid hR
    by_cases hz : R.1 = 0
    · obtain ⟨_, hz2, hz3⟩ := chkPriv_zero (show (chkPriv a xs).1 = 0 by rw [hR]; exact hz)
      have hR0 : R = (0, 0) := by rw [← hR]; exact hz3
      have hl := hS.len
      have hcp := hS.cap
      obtain ⟨N, hN⟩ : ∃ N : Nat, 384 * (a + 1) = (N : Int) := ⟨(384 * (a + 1)).toNat, by omega⟩
      obtain ⟨P, hP⟩ : ∃ M : Nat, N + (N + 32) = M := ⟨_, rfl⟩
      obtain ⟨b0, o0, rfl, _⟩ := hS.bytes (by omega)
      have HNA : Hid (nA a = N) := Lib.hid (by unfold nA; rw [hN]; exact Int.toNat_natCast N)
      have HSP := Lib.hid (fun (r : R13) oA on oc w' (h : r = row13 a) => split_any r oA on oc N P (P + 32) b0 o0 n c w' (by rw [h, (kem_sizes ha).1, hN]; omega) (by omega) (by omega) hP rfl (by omega) (by omega))
      have HCL := Lib.hid (fun w' (h : Past w w') => by
        have h3 := (hS.past h).cut3 (L := N) (H := P) (m := N + 32) (by omega) (by omega) (by omega)
        obtain ⟨b1, o1, e1, hc1⟩ := h3.bytes (by omega)
        simp only [Option.some.injEq, Addr.mk.injEq, and_true] at e1
        obtain ⟨rfl, rfl⟩ := e1
        exact Tryz.bytes_Clone_at ⟨b0, o0 + N, none⟩ (N + 32) (N + 32) (seg xs N (N + 32)) w' h3.len (by omega) (fun i hi => by rw [add_none]; exact hc1 i hi))
      have HRZ : Hid ((chkPriv a xs).1 = 0) := Lib.hid (by rw [hR]; exact hz)
      rw [hR0, errV_zero] at HCK
      clear hS hn hG hR hz hz2 hz3 hl hcp hN hP ha HCKs HR hR0
      go_enter Tryz.func17, Tryz.ntmps17
      go_wp2_with fail
      refine HRW.out.mono ?_
      rintro e w1 ⟨r, oA, on, oc, rfl, hr, hp⟩
      have hdec : decide (1 ≤ a ∧ a ≤ 3) = true := decide_eq_true HA.out
      rw [hdec]
      have HRR := Lib.hid (hr HA.out)
      unfold setV
      obtain ⟨u, hu⟩ : ∃ u, w1.heap.size = u := ⟨_, rfl⟩
      obtain ⟨w2, hw2⟩ : ∃ w2, w1.alloc (.cells (setC r (.slice oA on oc)) 66) = w2 := ⟨_, rfl⟩
      have HRU : Hid (Row w2 u 66 (setC r (.slice oA on oc))) := Lib.hid (by rw [← hw2, ← hu]; exact Row.new _ _ _)
      have HP2 : Hid (Past w w2) := Lib.hid (by rw [← hw2]; exact hp.trans' (past_alloc13 _ _))
      have HW2 := Lib.hid hw2
      have HU := Lib.hid hu
      clear hw2 hu hp hr hdec
      go_upto_region 2 with (fail)
      rw [HW2.out]
      try rw [HU.out]
      clear HW2 HU HRW
      go_wp2_with fail
      refine (HCK.out _ HP2.out).mono ?_
      rintro e w3 ⟨rfl, hp3⟩
      have HP3 := Lib.hid (HP2.out.trans' hp3)
      have hr6 := HRU.out.past hp3
      clear hp3
      go_wp2_with (refine wpList_load_row rfl 66 _ rfl u rfl _ _ _ _ hr6 Tryz.underlying66 rfl (resS _ (by rfl)) ?_)
      refine (HSP.out _ _ _ _ _ HRR.out).mono ?_
      rintro e w4 ⟨rfl, hp4⟩
      have HP4 := Lib.hid (HP3.out.trans' hp4)
      clear hp4 hr6
      go_wp2_with fail
      refine (HCL.out _ HP4.out).mono ?_
      rintro e w5 ⟨v', rfl, hown, _, hp5⟩
      have HP5 : Hid (Past w w5) := Lib.hid (HP4.out.trans' hp5)
      have HO5 := Lib.hid (owns_lower hown HP4.out.size)
      clear hown hp5
      go_wp2_with fail
      go_ret2
      unfold PubQ
      rw [if_pos HRZ.out, HNA.out]
      exact ⟨⟨_, rfl, HO5.out⟩, HP5.out⟩
    · have HRZ : Hid (¬ (chkPriv a xs).1 = 0) := Lib.hid (by rw [hR]; exact hz)
      have hsh : ∃ t v, errV R = .iface t v := by
        rcases errV_shape R with h | h
        · exfalso
          unfold errV at h
          rw [if_neg hz] at h
          cases h
        · exact h
      obtain ⟨t, v, htv⟩ := hsh
      rw [htv] at HCK
      clear hS hn hG hR hz ha HCKs HR htv
      go_enter Tryz.func17, Tryz.ntmps17
      go_wp2_with fail
      refine HRW.out.mono ?_
      rintro e w1 ⟨r, oA, on, oc, rfl, hr, hp⟩
      have hdec : decide (1 ≤ a ∧ a ≤ 3) = true := decide_eq_true HA.out
      rw [hdec]
      unfold setV
      obtain ⟨u, hu⟩ : ∃ u, w1.heap.size = u := ⟨_, rfl⟩
      obtain ⟨w2, hw2⟩ : ∃ w2, w1.alloc (.cells (setC r (.slice oA on oc)) 66) = w2 := ⟨_, rfl⟩
      have HP2 : Hid (Past w w2) := Lib.hid (by rw [← hw2]; exact hp.trans' (past_alloc13 _ _))
      have HW2 := Lib.hid hw2
      have HU := Lib.hid hu
      clear hw2 hu hp hr hdec
      go_upto_region 2 with (fail)
      rw [HW2.out]
      try rw [HU.out]
      clear HW2 HU HRW
      go_wp2_with fail
      refine (HCK.out _ HP2.out).mono ?_
      rintro e w3 ⟨rfl, hp3⟩
      have HP3 := Lib.hid (HP2.out.trans' hp3)
      clear hp3
      go_wp2_with fail
      go_ret2
      unfold PubQ
      rw [if_neg HRZ.out]
      exact ⟨rfl, HP3.out⟩
  · have HRZ : Hid (¬ (chkPriv a xs).1 = 0) := Lib.hid (fun h => ha (chkPriv_zero h).1)
    have HA := Lib.hid ha
    clear hS hn hG ha
    go_enter Tryz.func17, Tryz.ntmps17
    go_wp2_with fail
    refine HRW.out.mono ?_
    rintro e w1 ⟨r, oA, on, oc, rfl, hr, hp⟩
    have hdec : decide (1 ≤ a ∧ a ≤ 3) = false := decide_eq_false HA.out
    rw [hdec]
    unfold setV
    obtain ⟨w2, hw2⟩ : ∃ w2, w1.alloc (.cells (setC r (.slice oA on oc)) 66) = w2 := ⟨_, rfl⟩
    have HP2 : Hid (Past w w2) := Lib.hid (by rw [← hw2]; exact hp.trans' (past_alloc13 _ _))
    have HW2 := Lib.hid hw2
    clear hw2 hp hr hdec
    go_upto_region 2 with (fail)
    rw [HW2.out]
    clear HW2 HRW
    go_wp2_with fail
    go_ret2
    unfold PubQ
    rw [if_neg HRZ.out]
    exact ⟨rfl, HP2.out⟩
end Go.Proofs.YthbnaoifiggdnaaGreatDoor
