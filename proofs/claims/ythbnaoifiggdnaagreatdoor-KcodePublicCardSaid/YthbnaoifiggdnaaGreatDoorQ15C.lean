/- The program's row, checkPolys, moved. -/
import Derived.Test.YthbnaoifiggdnaaGreatDoorQ15A
import Derived.Test.YthbnaoifiggdnaaGreatDoorPm13G
import Derived.Test.YthbnaoifiggdnaaGreatDoorErrM3
import Derived.Test.YthbnaoifiggdnaaGreatDoorR15E
import Derived.Test.YthbnaoifiggdnaaGreatDoorImp6B
import Derived.Deep.RegionHeld
namespace Go.Proofs.YthbnaoifiggdnaaGreatDoor
open Go.RowKit
set_option linter.unusedVariables false
set_option maxRecDepth 100000

/-- What all functions of package kcode want of the library's variables. -/
def Glob15 (w : World) : Prop := Glob13 w ∧ GlobE w
theorem Glob15.past {w w' : World} (h : Glob15 w) (hp : Past w w') : Glob15 w' := ⟨h.1.past hp, h.2.past hp⟩
/-- The error of a code and an offset; none for the code 0. -/
def errV (r : Int × Int) : Value := if r.1 = 0 then .nilIface else (Ch.flt r.1 r.2).val
theorem errV_zero (x : Int) : errV (0, x) = .nilIface := rfl
theorem errV_pos {c a : Int} (h : c ≠ 0) : errV (c, a) = (Ch.flt c a).val := by unfold errV; rw [if_neg h]
def polyR (xs : List Int) : Int × Int := if 0 ≤ firstX xs then (9, firstX xs) else (0, 0)
set_option maxHeartbeats 1000000 in
theorem checkPolys_any (A : Option Addr) (n c : Nat) (xs : List Int) (w : World) (hS : Sl w A n c xs) (hn : n ≤ 10000) :
    Calls Tryz.prog 33 #[.slice A n c] w fun e w' => e = .returned (errV (polyR xs)) ∧ Past w w' := by
  have HF := Lib.hid (pfirst_any A n c xs w hS hn)
  obtain ⟨r, hr⟩ : ∃ r, firstX xs = r := ⟨_, rfl⟩
  obtain ⟨R, hR⟩ : ∃ R, polyR xs = R := ⟨_, rfl⟩
  unfold polyR at hR
  rw [hr] at hR HF
  have e0 : polyR xs = R := by unfold polyR; rw [hr]; exact hR
  rw [e0]
  have HR := Lib.hid hR
  clear hS hn hr hR e0
  go_enter Tryz.func33, Tryz.ntmps33
  go_wp2_with fail
  refine HF.out.mono ?_
  rintro e w1 ⟨rfl, hp1⟩
  have HP1 := Lib.hid hp1
  clear hp1
  by_cases h : 0 ≤ r
  · have HE : Hid (errV R = (Ch.flt 9 r).val) := Lib.hid (by rw [← HR.out, if_pos h]; rfl)
    go_wp2_with fail
    refine (new_any 9 r w1).mono ?_
    rintro e w2 ⟨rfl, hp2⟩
    have HP2 := Lib.hid (HP1.out.trans' hp2)
    obtain ⟨E, hE⟩ : ∃ E, (Ch.flt 9 r).val = E := ⟨_, rfl⟩
    have HE2 : Hid (errV R = E) := Lib.hid (by rw [HE.out, hE])
    rw [hE]
    clear hp2 hE
    go_wp2_with fail
    go_ret
    exact ⟨congrArg Ending.returned HE2.out.symm, HP2.out⟩
  · have HE : Hid (errV R = .nilIface) := Lib.hid (by rw [← HR.out, if_neg h]; rfl)
    go_wp2_with fail
    go_ret
    exact ⟨congrArg Ending.returned HE.out.symm, HP1.out⟩
def RowQ (a : Int) (w : World) (e : Ending) (w' : World) : Prop :=
  ∃ (r : R13) (A : Option Addr) (n c : Nat), e = .returned (.tuple #[setV r (.slice A n c), .bool (decide (1 ≤ a ∧ a ≤ 3))]) ∧ (1 ≤ a ∧ a ≤ 3 → r = row13 a) ∧ Past w w'
theorem fam_all : ∀ k : Fin 25, ((row13 ((k.val : Int) + 1)).fam = 1 ↔ k.val < 3) := by decide +kernel
theorem fam_iff {a : Int} (h : 1 ≤ a ∧ a ≤ 25) : ((row13 a).fam = 1) = (1 ≤ a ∧ a ≤ 3) := by
  have := fam_all ⟨(a - 1).toNat, by omega⟩
  simp only at this
  rw [show (((a - 1).toNat : Nat) : Int) + 1 = a by omega] at this
  rw [this]
  exact propext ⟨fun _ => by omega, fun _ => by omega⟩
set_option maxHeartbeats 2000000 in
theorem krow_any (a : Int) (w : World) (hG : Glob13 w) : Calls Tryz.prog 31 #[.int .i64 a] w (RowQ a w) := by
  obtain ⟨w1, hw1⟩ : ∃ w1, w1 = w.alloc (.cells zeroC 66) := ⟨_, rfl⟩
  obtain ⟨g, hg⟩ : ∃ g, w.heap.size = g := ⟨_, rfl⟩
  have hp1 : Past w w1 := by rw [hw1]; exact past_alloc13 _ _
  have hr1 : Row w1 g 66 zeroC := by rw [hw1, ← hg]; exact Row.new _ _ _
  have H1 : Hid (Past w w1 ∧ Row w1 g 66 zeroC ∧ w.heap.size = g) := Lib.hid ⟨hp1, hr1, hg⟩
  have HGE := Lib.hid (get_any a w1 (hG.past hp1))
  have HW1 := Lib.hid hw1
  have HGS := Lib.hid hg
  clear hw1 hg hp1 hr1 hG
  have HRES : ∀ e w', GetP a w1 e w' → ∃ (r : R13) (A : Option Addr) (n c : Nat) (ok : Bool), e = .returned (.tuple #[setV r (.slice A n c), .bool ok]) ∧ (ok && decide (r.fam = 1)) = decide (1 ≤ a ∧ a ≤ 3) ∧ (1 ≤ a ∧ a ≤ 3 → r = row13 a) ∧ Past w1 w' := by
    intro e w' h
    unfold GetP at h
    by_cases h25 : 1 ≤ a ∧ a ≤ 25
    · rw [if_pos h25] at h
      obtain ⟨⟨A, c, h1, _⟩, h2⟩ := h
      exact ⟨_, A, _, c, true, h1, by rw [Bool.true_and]; exact decide_eq_decide.2 (by rw [fam_iff h25]), fun _ => rfl, h2⟩
    · rw [if_neg h25] at h
      exact ⟨_, none, 0, 0, false, h.1, by rw [Bool.false_and]; exact (decide_eq_false (by omega)).symm, fun h3 => absurd h3 (by omega), h.2⟩
  have HRS := Lib.hid HRES
  clear HRES
  go_enter Tryz.func31, Tryz.ntmps31
  go_upto_region 1 with (fail)
  rw [← HW1.out]
  try rw [HGS.out]
  clear HW1 HGS
  go_wp2_with fail
  refine (HGE.out).mono ?_
  intro e w2 h
  obtain ⟨r, A, n, c, ok, rfl, hok, hrow, hp⟩ := HRS.out _ _ h
  unfold setV
  obtain ⟨u, hu⟩ : ∃ u, w2.heap.size = u := ⟨_, rfl⟩
  obtain ⟨w3, hw3⟩ : ∃ w3, w2.alloc (.cells (setC r (.slice A n c)) 66) = w3 := ⟨_, rfl⟩
  have hp3 : Past w2 w3 := by rw [← hw3]; exact past_alloc13 _ _
  have hru : Row w3 u 66 (setC r (.slice A n c)) := by rw [← hw3, ← hu]; exact Row.new _ _ _
  have HGU : Hid (g < u) := Lib.hid (by have := (H1.out.2.1.past hp).lt; omega)
  have H3 : Hid (Past w w3 ∧ Row w3 g 66 zeroC ∧ Row w3 u 66 (setC r (.slice A n c)) ∧ w.heap.size = g) := Lib.hid ⟨(H1.out.1.trans' hp).trans' hp3, (H1.out.2.1.past hp).past hp3, hru, H1.out.2.2⟩
  have HW3 := Lib.hid hw3
  have HU := Lib.hid hu
  have HOK := Lib.hid hok
  have HRW := Lib.hid hrow
  clear hp hp3 hw3 H1 HGE hru hu h HRS hok hrow
  go_upto_region 2 with (fail)
  rw [HW3.out]
  try rw [HU.out]
  clear HW3 HU
  obtain ⟨w4, hw4⟩ : ∃ w4, w4 = w3.drew := ⟨_, rfl⟩
  have hp4 : Past w w4 := by rw [hw4]; exact H3.out.1.drewN 1
  have HG5 : Hid (Row w4 g 66 zeroC) := Lib.hid (by rw [hw4]; exact H3.out.2.1.drewN 1)
  have hru : Row w4 u 66 (setC r (.slice A n c)) := by rw [hw4]; exact H3.out.2.2.1.drewN 1
  have hne : u ≠ g := by
    intro e
    rw [e] at hru
    have := HGU.out
    omega
  obtain ⟨L, hL⟩ : ∃ L, (setC r (.slice A n c)).toList = L := ⟨_, rfl⟩
  have hLA : L.toArray = setC r (.slice A n c) := by rw [← hL]
  have hLn : L.length = 10 := by rw [← hL]; rfl
  have HI1 : (Tryz.prog.info? 66).map (·.size) = some L.length := by rw [hLn]; kernel_rfl
  have HI2 : Hid ((Tryz.prog.info? 66).map (·.size) = some L.toArray.size) := Lib.hid (by
    have e : L.toArray.size = L.length := by simp
    rw [e]
    exact HI1)
  have HI3 : Hid (zeroC.size = L.toArray.size) := Lib.hid (by
    have e : L.toArray.size = 10 := by simp [hLn]
    rw [e]
    rfl)
  have HI4 : Hid (L.toArray.all (·.oneCell') = true) := Lib.hid (by rw [hLA]; simp [Value.oneCell'])
  have HI5 : Hid (L.toArray.size = 10) := Lib.hid (by simp [hLn])
  have HLA := Lib.hid hLA
  have hc1 : L.toArray[1]? = some (.int .i64 r.fam) := by rw [hLA]; rfl
  rw [← hLA] at hru
  have hrg : ∀ W : World, Row W u 66 L.toArray → W.rangeAt u 0 L ∧ W.cell? ⟨u, 1, none⟩ = some (.int .i64 r.fam) := fun W h => ⟨fun j v hj => by
    rw [Nat.zero_add, h.cell]
    simpa using hj, by rw [h.cell]; exact hc1⟩
  have HS0 := Lib.hid (hrg w4 hru)
  have HSF := Lib.hid (hrg _ (show Row (w4.setRow g L.toArray) u 66 L.toArray from (setRow_other w4 g u _ hne).trans hru))
  have HPF : Hid (Past w (w4.setRow g L.toArray)) := Lib.hid (past_row13 hp4 (by rw [H3.out.2.2.2]; exact Nat.le_refl _) _)
  clear hp4 hru hne hrg hL hLn hc1 hLA
  refine wp_region_held_drew (S := fun w' => w'.rangeAt u 0 L ∧ w'.cell? ⟨u, 1, none⟩ = some (.int .i64 r.fam)) (by kernel_rfl) (by rw [← hw4]; exact HS0.out) (fun hH => ?_)
  change wpAnyH _ _ _ _ _ _ _ _ (World.drew _)
  rw [← hw4]
  clear hH hw4
  have hH := HS0.out
  cases ok with
  | true =>
    by_cases hf : r.fam = 1
    · have HD : Hid (true = decide (1 ≤ a ∧ a ≤ 3)) := Lib.hid (by rw [← HOK.out, decide_eq_true hf]; rfl)
      have hf2 : (r.fam == 1) = true := by simpa using hf
      clear HOK
      refine held_take 0 11 rfl rfl (by kernel_rfl) (by kernel_rfl) (by kernel_rfl) (fun _ _ _ h => h) (yieldsIf_load_mid (by kernel_rfl) 66 (.tmp 4) rfl u 0 rfl L _ (fun _ h => h.1) Tryz.underlying66 rfl HI1) hH ?_
      (try simp only [List.setIfInBounds_toArray, List.set_cons_zero, List.set_cons_succ])
      refine held_take 1 12 (v := .bool true) rfl rfl (by kernel_rfl) (by kernel_rfl) (by kernel_rfl) (fun _ _ _ h => h) (Or.inl ⟨by kernel_rfl, fun w _ => by kernel_rfl⟩) hH ?_
      (try simp only [List.setIfInBounds_toArray, List.set_cons_zero, List.set_cons_succ])
      refine held_take 2 13 (v := .bool true) rfl rfl (by kernel_rfl) (by kernel_rfl) (by kernel_rfl) (fun _ _ _ h => h) (Or.inl ⟨by kernel_rfl, fun w _ => by kernel_rfl⟩) hH ?_
      (try simp only [List.setIfInBounds_toArray, List.set_cons_zero, List.set_cons_succ])
      refine held_take 3 14 (v := .pointer (some ⟨u, 1, none⟩)) rfl rfl (by kernel_rfl) (by kernel_rfl) (by kernel_rfl) (fun _ _ _ h => h) (Or.inl ⟨by kernel_rfl, fun w _ => by go_simp⟩) hH ?_
      (try simp only [List.setIfInBounds_toArray, List.set_cons_zero, List.set_cons_succ])
      refine held_take 4 15 (v := .int .i64 r.fam) rfl rfl (by kernel_rfl) (by kernel_rfl) (by kernel_rfl) (fun _ _ _ h => h) (Or.inl ⟨by kernel_rfl, fun w hSw => by
        have hcell := hSw.2
        go_simp⟩) hH ?_
      (try simp only [List.setIfInBounds_toArray, List.set_cons_zero, List.set_cons_succ])
      refine held_take 5 16 (v := .bool true) rfl rfl (by kernel_rfl) (by kernel_rfl) (by kernel_rfl) (fun _ _ _ h => h) (Or.inl ⟨by kernel_rfl, fun w _ => by go_simp⟩) hH ?_
      (try simp only [List.setIfInBounds_toArray, List.set_cons_zero, List.set_cons_succ])
      refine held_take 6 17 (v := .bool true) rfl rfl (by kernel_rfl) (by kernel_rfl) (by kernel_rfl) (fun _ _ _ h => h) (Or.inl ⟨by kernel_rfl, fun w _ => by go_simp⟩) hH ?_
      (try simp only [List.setIfInBounds_toArray, List.set_cons_zero, List.set_cons_succ])
      refine wpAnyH_ready (rs := [7]) (by kernel_rfl) (by simp) ?_
      refine AllReadyH.cons (by simp only [List.getElem?_toArray, List.getElem?_cons_succ, List.getElem?_cons_zero]; rfl) (fun K hK => ?_) AllReadyH.nil
      refine step_wanted rfl ?_
      refine wp_store_row 66 (.tmp 2) (.tmp 11) rfl g L.toArray rfl rfl _ _ HG5.out HI2.out HI3.out HI4.out ?_
      refine hK.out _ _ HSF.out (fun hH => ?_)
      clear hK K
      refine held_take 8 3 (v := .bool true) rfl rfl (by kernel_rfl) (by kernel_rfl) (by kernel_rfl) (fun _ _ _ h => h) (Or.inl ⟨by kernel_rfl, fun w _ => by go_simp⟩) hH ?_
      refine wpAnyH_done (by kernel_rfl) ?_ _
      go_simp
      go_wp2_with fail
      refine bodyPost_ret (results_cr rfl _ _ ⟨g, 0, none⟩ _ rfl (load_set _ g _ (setRow_heap _ g _ _ _ _ HG5.out) HI5.out)) (by rfl) ?_
      exact ⟨r, A, n, c, by rw [← HD.out, HLA.out]; rfl, HRW.out, HPF.out⟩
    · have HD : Hid (false = decide (1 ≤ a ∧ a ≤ 3)) := Lib.hid (by rw [← HOK.out, decide_eq_false hf]; rfl)
      have hf2 : (r.fam == 1) = false := by simpa using hf
      clear HOK
      refine held_take 0 11 rfl rfl (by kernel_rfl) (by kernel_rfl) (by kernel_rfl) (fun _ _ _ h => h) (yieldsIf_load_mid (by kernel_rfl) 66 (.tmp 4) rfl u 0 rfl L _ (fun _ h => h.1) Tryz.underlying66 rfl HI1) hH ?_
      (try simp only [List.setIfInBounds_toArray, List.set_cons_zero, List.set_cons_succ])
      refine held_take 1 12 (v := .bool true) rfl rfl (by kernel_rfl) (by kernel_rfl) (by kernel_rfl) (fun _ _ _ h => h) (Or.inl ⟨by kernel_rfl, fun w _ => by kernel_rfl⟩) hH ?_
      (try simp only [List.setIfInBounds_toArray, List.set_cons_zero, List.set_cons_succ])
      refine held_take 2 13 (v := .bool true) rfl rfl (by kernel_rfl) (by kernel_rfl) (by kernel_rfl) (fun _ _ _ h => h) (Or.inl ⟨by kernel_rfl, fun w _ => by kernel_rfl⟩) hH ?_
      (try simp only [List.setIfInBounds_toArray, List.set_cons_zero, List.set_cons_succ])
      refine held_take 3 14 (v := .pointer (some ⟨u, 1, none⟩)) rfl rfl (by kernel_rfl) (by kernel_rfl) (by kernel_rfl) (fun _ _ _ h => h) (Or.inl ⟨by kernel_rfl, fun w _ => by go_simp⟩) hH ?_
      (try simp only [List.setIfInBounds_toArray, List.set_cons_zero, List.set_cons_succ])
      refine held_take 4 15 (v := .int .i64 r.fam) rfl rfl (by kernel_rfl) (by kernel_rfl) (by kernel_rfl) (fun _ _ _ h => h) (Or.inl ⟨by kernel_rfl, fun w hSw => by
        have hcell := hSw.2
        go_simp⟩) hH ?_
      (try simp only [List.setIfInBounds_toArray, List.set_cons_zero, List.set_cons_succ])
      refine held_take 5 16 (v := .bool false) rfl rfl (by kernel_rfl) (by kernel_rfl) (by kernel_rfl) (fun _ _ _ h => h) (Or.inl ⟨by kernel_rfl, fun w _ => by go_simp⟩) hH ?_
      (try simp only [List.setIfInBounds_toArray, List.set_cons_zero, List.set_cons_succ])
      refine held_take 6 17 (v := .bool false) rfl rfl (by kernel_rfl) (by kernel_rfl) (by kernel_rfl) (fun _ _ _ h => h) (Or.inl ⟨by kernel_rfl, fun w _ => by go_simp⟩) hH ?_
      (try simp only [List.setIfInBounds_toArray, List.set_cons_zero, List.set_cons_succ])
      refine wpAnyH_ready (rs := [7]) (by kernel_rfl) (by simp) ?_
      refine AllReadyH.cons (by simp only [List.getElem?_toArray, List.getElem?_cons_succ, List.getElem?_cons_zero]; rfl) (fun K hK => ?_) AllReadyH.nil
      refine step_wanted rfl ?_
      refine wp_store_row 66 (.tmp 2) (.tmp 11) rfl g L.toArray rfl rfl _ _ HG5.out HI2.out HI3.out HI4.out ?_
      refine hK.out _ _ HSF.out (fun hH => ?_)
      clear hK K
      refine held_take 8 3 (v := .bool false) rfl rfl (by kernel_rfl) (by kernel_rfl) (by kernel_rfl) (fun _ _ _ h => h) (Or.inl ⟨by kernel_rfl, fun w _ => by go_simp⟩) hH ?_
      refine wpAnyH_done (by kernel_rfl) ?_ _
      go_simp
      go_wp2_with fail
      refine bodyPost_ret (results_cr rfl _ _ ⟨g, 0, none⟩ _ rfl (load_set _ g _ (setRow_heap _ g _ _ _ _ HG5.out) HI5.out)) (by rfl) ?_
      exact ⟨r, A, n, c, by rw [← HD.out, HLA.out]; rfl, HRW.out, HPF.out⟩
  | false =>
    have HD : Hid (false = decide (1 ≤ a ∧ a ≤ 3)) := Lib.hid (by rw [← HOK.out]; rfl)
    clear HOK
    refine held_take 0 11 rfl rfl (by kernel_rfl) (by kernel_rfl) (by kernel_rfl) (fun _ _ _ h => h) (yieldsIf_load_mid (by kernel_rfl) 66 (.tmp 4) rfl u 0 rfl L _ (fun _ h => h.1) Tryz.underlying66 rfl HI1) hH ?_
    (try simp only [List.setIfInBounds_toArray, List.set_cons_zero, List.set_cons_succ])
    refine held_take 1 12 (v := .bool false) rfl rfl (by kernel_rfl) (by kernel_rfl) (by kernel_rfl) (fun _ _ _ h => h) (Or.inl ⟨by kernel_rfl, fun w _ => by kernel_rfl⟩) hH ?_
    (try simp only [List.setIfInBounds_toArray, List.set_cons_zero, List.set_cons_succ])
    refine held_take 2 13 (v := .bool false) rfl rfl (by kernel_rfl) (by kernel_rfl) (by kernel_rfl) (fun _ _ _ h => h) (Or.inl ⟨by kernel_rfl, fun w _ => by kernel_rfl⟩) hH ?_
    (try simp only [List.setIfInBounds_toArray, List.set_cons_zero, List.set_cons_succ])
    refine held_take 3 14 (v := undef) rfl rfl (by kernel_rfl) (by kernel_rfl) (by kernel_rfl) (fun _ _ _ h => h) (Or.inr ⟨by kernel_rfl, rfl⟩) hH ?_
    (try simp only [List.setIfInBounds_toArray, List.set_cons_zero, List.set_cons_succ])
    refine held_take 4 15 (v := undef) rfl rfl (by kernel_rfl) (by kernel_rfl) (by kernel_rfl) (fun _ _ _ h => h) (Or.inr ⟨by kernel_rfl, rfl⟩) hH ?_
    (try simp only [List.setIfInBounds_toArray, List.set_cons_zero, List.set_cons_succ])
    refine held_take 5 16 (v := undef) rfl rfl (by kernel_rfl) (by kernel_rfl) (by kernel_rfl) (fun _ _ _ h => h) (Or.inr ⟨by kernel_rfl, rfl⟩) hH ?_
    (try simp only [List.setIfInBounds_toArray, List.set_cons_zero, List.set_cons_succ])
    refine held_take 6 17 (v := .bool false) rfl rfl (by kernel_rfl) (by kernel_rfl) (by kernel_rfl) (fun _ _ _ h => h) (Or.inl ⟨by kernel_rfl, fun w _ => by go_simp⟩) hH ?_
    (try simp only [List.setIfInBounds_toArray, List.set_cons_zero, List.set_cons_succ])
    refine wpAnyH_ready (rs := [7]) (by kernel_rfl) (by simp) ?_
    refine AllReadyH.cons (by simp only [List.getElem?_toArray, List.getElem?_cons_succ, List.getElem?_cons_zero]; rfl) (fun K hK => ?_) AllReadyH.nil
    refine step_wanted rfl ?_
    refine wp_store_row 66 (.tmp 2) (.tmp 11) rfl g L.toArray rfl rfl _ _ HG5.out HI2.out HI3.out HI4.out ?_
    refine hK.out _ _ HSF.out (fun hH => ?_)
    clear hK K
    refine held_take 8 3 (v := .bool false) rfl rfl (by kernel_rfl) (by kernel_rfl) (by kernel_rfl) (fun _ _ _ h => h) (Or.inl ⟨by kernel_rfl, fun w _ => by go_simp⟩) hH ?_
    refine wpAnyH_done (by kernel_rfl) ?_ _
    go_simp
    go_wp2_with fail
    refine bodyPost_ret (results_cr rfl _ _ ⟨g, 0, none⟩ _ rfl (load_set _ g _ (setRow_heap _ g _ _ _ _ HG5.out) HI5.out)) (by rfl) ?_
    exact ⟨r, A, n, c, by rw [← HD.out, HLA.out]; rfl, HRW.out, HPF.out⟩
end Go.Proofs.YthbnaoifiggdnaaGreatDoor
