/- Noise's refusals. -/
import Derived.Test.YtalhdalmafhofaaGreatDoorNo16C
import Derived.Deep.RegionHeld
namespace Go.Proofs.YtalhdalmafhofaaGreatDoor
open Go.RowKit
set_option maxRecDepth 100000
set_option linter.unusedVariables false

theorem infZ : (Tryz.prog.info? 30).map (·.size) = some (arr .u16 256 fun _ => 0).size := by rw [arr_size]; kernel_rfl
theorem oneZ : (arr .u16 256 fun _ => 0).all (·.oneCell') = true := arr_one .u16 256 (fun _ => 0)
set_option maxHeartbeats 4000000 in
theorem knoiseE_any (e : Int) (A : Option Addr) (n c : Nat) (w : World) (h : ¬ e = 2 ∧ ¬ e = 3) :
    Calls Tryz.prog 7 #[.int .i64 e, .slice A n c] w fun r w' => r = .returned (.tuple #[.agg (arr .u16 256 fun _ => 0), .bool false]) ∧ Past w w' := by
  obtain ⟨g, hg⟩ : ∃ g, w.heap.size = g := ⟨_, rfl⟩
  obtain ⟨w3, hw3⟩ : ∃ w', ((w.alloc (.cells #[.int .i64 e] 3)).alloc (.cells #[.slice A n c] 25)).alloc (.cells (arr .u16 256 fun _ => 0) 30) = w' := ⟨_, rfl⟩
  have hp1 : Past w (w.alloc (.cells #[.int .i64 e] 3)) := (Below.refl _ _).alloc (Nat.le_refl _) _
  have hp3 : Past w w3 := by rw [← hw3]; exact (hp1.alloc hp1.size _).alloc (by simp; omega) _
  have hra : Row w3 g 3 #[.int .i64 e] := by rw [← hw3, ← hg]; exact ((Row.new w _ _).alloc _).alloc _
  have hrb : Row w3 (g + 1) 25 #[.slice A n c] := by
    rw [← hw3, ← hg]
    have := (Row.new (w.alloc (.cells #[.int .i64 e] 3)) 25 #[.slice A n c]).alloc (.cells (arr .u16 256 fun _ => 0) 30)
    simpa using this
  have hrc : Row w3 (g + 1 + 1) 30 (arr .u16 256 fun _ => 0) := by
    rw [← hw3, ← hg]
    have := Row.new ((w.alloc (.cells #[.int .i64 e] 3)).alloc (.cells #[.slice A n c] 25)) 30 (arr .u16 256 fun _ => 0)
    simpa using this
  have HP3 := Lib.hid hp3
  have HR := Lib.hid (And.intro hra (And.intro hrb hrc))
  have HW3 := Lib.hid hw3
  have HG := Lib.hid hg
  have HZ := Lib.hid zeroP
  have HSG : Hid (w.heap.size ≤ g + 1 + 1) := Lib.hid (by omega)
  have h2 : ¬ e = 2 := h.1
  have h3 : ¬ e = 3 := h.2
  clear h
  clear hp1 hp3 hra hrb hrc hw3 hg
  go_enter Tryz.func7, Tryz.ntmps7
  have hz := HZ.out
  go_upto_region 1 with (fail)
  rw [HW3.out]
  try rw [HG.out]
  clear HW3 hz
  have k0 := HR.out.1.cell 0
  have k1 := HR.out.2.1.cell 0
  have HSK : Hid (∀ w', Past w3 w' → (w'.cell? ⟨g, 0, none⟩ = some (.int .i64 e) ∧ w'.cell? ⟨g + 1, 0, none⟩ = some (.slice A n c))) := Lib.hid (fun w' h => ⟨(HR.out.1.past h).cell 0, (HR.out.2.1.past h).cell 0⟩)
  have HPD : Hid (Past w3 w3.drew) := Lib.hid (Past.drewN (Below.refl _ w3) 1)
  clear k0 k1
  refine wp_region_held_drew (S := fun w' => w'.cell? ⟨g, 0, none⟩ = some (.int .i64 e) ∧ w'.cell? ⟨g + 1, 0, none⟩ = some (.slice A n c)) (by kernel_rfl) (HSK.out _ HPD.out) (fun hH => ?_)
  refine held_take 0 10 (v := .int .i64 e) rfl rfl (by kernel_rfl) (by kernel_rfl) (by kernel_rfl) (fun _ _ _ h => h) (Or.inl ⟨by kernel_rfl, fun w hSw => by
    have hcell := hSw.1
    go_simp⟩) hH ?_
  (try simp only [List.setIfInBounds_toArray, List.set_cons_zero, List.set_cons_succ])
  refine held_take 1 11 (v := .bool true) rfl rfl (by kernel_rfl) (by kernel_rfl) (by kernel_rfl) (fun _ _ _ h => h) (Or.inl ⟨by kernel_rfl, fun w _ => by go_simp⟩) hH ?_
  (try simp only [List.setIfInBounds_toArray, List.set_cons_zero, List.set_cons_succ])
  refine held_take 2 12 (v := .bool true) rfl rfl (by kernel_rfl) (by kernel_rfl) (by kernel_rfl) (fun _ _ _ h => h) (Or.inl ⟨by kernel_rfl, fun w _ => by kernel_rfl⟩) hH ?_
  (try simp only [List.setIfInBounds_toArray, List.set_cons_zero, List.set_cons_succ])
  refine held_take 3 13 (v := .int .i64 e) rfl rfl (by kernel_rfl) (by kernel_rfl) (by kernel_rfl) (fun _ _ _ h => h) (Or.inl ⟨by kernel_rfl, fun w hSw => by
    have hcell := hSw.1
    go_simp⟩) hH ?_
  (try simp only [List.setIfInBounds_toArray, List.set_cons_zero, List.set_cons_succ])
  refine held_take 4 14 (v := .bool true) rfl rfl (by kernel_rfl) (by kernel_rfl) (by kernel_rfl) (fun _ _ _ h => h) (Or.inl ⟨by kernel_rfl, fun w _ => by go_simp⟩) hH ?_
  (try simp only [List.setIfInBounds_toArray, List.set_cons_zero, List.set_cons_succ])
  refine held_take 5 15 (v := .bool true) rfl rfl (by kernel_rfl) (by kernel_rfl) (by kernel_rfl) (fun _ _ _ h => h) (Or.inl ⟨by kernel_rfl, fun w _ => by kernel_rfl⟩) hH ?_
  (try simp only [List.setIfInBounds_toArray, List.set_cons_zero, List.set_cons_succ])
  refine held_take 6 16 (v := .bool true) rfl rfl (by kernel_rfl) (by kernel_rfl) (by kernel_rfl) (fun _ _ _ h => h) (Or.inl ⟨by kernel_rfl, fun w _ => by kernel_rfl⟩) hH ?_
  (try simp only [List.setIfInBounds_toArray, List.set_cons_zero, List.set_cons_succ])
  refine held_take 7 17 (v := undef) rfl rfl (by kernel_rfl) (by kernel_rfl) (by kernel_rfl) (fun _ _ _ h => h) (Or.inr ⟨by kernel_rfl, rfl⟩) hH ?_
  (try simp only [List.setIfInBounds_toArray, List.set_cons_zero, List.set_cons_succ])
  refine held_take 8 18 (v := undef) rfl rfl (by kernel_rfl) (by kernel_rfl) (by kernel_rfl) (fun _ _ _ h => h) (Or.inr ⟨by kernel_rfl, rfl⟩) hH ?_
  (try simp only [List.setIfInBounds_toArray, List.set_cons_zero, List.set_cons_succ])
  refine held_take 9 19 (v := undef) rfl rfl (by kernel_rfl) (by kernel_rfl) (by kernel_rfl) (fun _ _ _ h => h) (Or.inr ⟨by kernel_rfl, rfl⟩) hH ?_
  (try simp only [List.setIfInBounds_toArray, List.set_cons_zero, List.set_cons_succ])
  refine held_take 10 20 (v := undef) rfl rfl (by kernel_rfl) (by kernel_rfl) (by kernel_rfl) (fun _ _ _ h => h) (Or.inr ⟨by kernel_rfl, rfl⟩) hH ?_
  (try simp only [List.setIfInBounds_toArray, List.set_cons_zero, List.set_cons_succ])
  refine held_take 11 21 (v := undef) rfl rfl (by kernel_rfl) (by kernel_rfl) (by kernel_rfl) (fun _ _ _ h => h) (Or.inr ⟨by kernel_rfl, rfl⟩) hH ?_
  (try simp only [List.setIfInBounds_toArray, List.set_cons_zero, List.set_cons_succ])
  refine held_take 12 22 (v := .bool true) rfl rfl (by kernel_rfl) (by kernel_rfl) (by kernel_rfl) (fun _ _ _ h => h) (Or.inl ⟨by kernel_rfl, fun w _ => by kernel_rfl⟩) hH ?_
  (try simp only [List.setIfInBounds_toArray, List.set_cons_zero, List.set_cons_succ])
  refine wpAnyH_done (by kernel_rfl) ?_ _
  go_simp
  have hz := HZ.out
  have HPW := HPD
  clear hH
  generalize w3.drew = w4 at *
  have HP4 : Hid (Past w w4) := Lib.hid (HP3.out.trans' HPW.out)
  have HR4 : Hid (Row w4 (g + 1 + 1) 30 (arr .u16 256 fun _ => 0)) := Lib.hid (HR.out.2.2.past HPW.out)
  clear HPW HSK HPD HR
  have hr1 := HR4.out
  have hi2 := infZ
  have ho2 := oneZ
  clear HR4
  generalize hcc : (arr .u16 256 fun _ => 0) = c2 at *
  have HCC := Lib.hid hcc
  clear hcc
  unfold Row at hr1
  go_wp2_with (refine wpList_store_row rfl 30 _ _ rfl (g + 1 + 1) _ rfl rfl _ _ hr1 hi2 rfl ho2 ?_)
  refine bodyPost_ret (results_cr rfl _ _ ⟨g + 1 + 1, 0, none⟩ _ rfl (load_poly _ (g + 1 + 1) _ (setRow_heap _ (g + 1 + 1) _ _ _ _ hr1) hi2)) (by rfl) ?_
  exact ⟨by rw [HCC.out]; rfl, below_setRow HP4.out HSG.out _⟩
set_option maxHeartbeats 4000000 in
theorem knoiseW2_any (A : Option Addr) (n c : Nat) (w : World) (h : ¬ n = 128) :
    Calls Tryz.prog 7 #[.int .i64 2, .slice A n c] w fun r w' => r = .returned (.tuple #[.agg (arr .u16 256 fun _ => 0), .bool false]) ∧ Past w w' := by
  obtain ⟨g, hg⟩ : ∃ g, w.heap.size = g := ⟨_, rfl⟩
  obtain ⟨w3, hw3⟩ : ∃ w', ((w.alloc (.cells #[.int .i64 2] 3)).alloc (.cells #[.slice A n c] 25)).alloc (.cells (arr .u16 256 fun _ => 0) 30) = w' := ⟨_, rfl⟩
  have hp1 : Past w (w.alloc (.cells #[.int .i64 2] 3)) := (Below.refl _ _).alloc (Nat.le_refl _) _
  have hp3 : Past w w3 := by rw [← hw3]; exact (hp1.alloc hp1.size _).alloc (by simp; omega) _
  have hra : Row w3 g 3 #[.int .i64 2] := by rw [← hw3, ← hg]; exact ((Row.new w _ _).alloc _).alloc _
  have hrb : Row w3 (g + 1) 25 #[.slice A n c] := by
    rw [← hw3, ← hg]
    have := (Row.new (w.alloc (.cells #[.int .i64 2] 3)) 25 #[.slice A n c]).alloc (.cells (arr .u16 256 fun _ => 0) 30)
    simpa using this
  have hrc : Row w3 (g + 1 + 1) 30 (arr .u16 256 fun _ => 0) := by
    rw [← hw3, ← hg]
    have := Row.new ((w.alloc (.cells #[.int .i64 2] 3)).alloc (.cells #[.slice A n c] 25)) 30 (arr .u16 256 fun _ => 0)
    simpa using this
  have HP3 := Lib.hid hp3
  have HR := Lib.hid (And.intro hra (And.intro hrb hrc))
  have HW3 := Lib.hid hw3
  have HG := Lib.hid hg
  have HZ := Lib.hid zeroP
  have HSG : Hid (w.heap.size ≤ g + 1 + 1) := Lib.hid (by omega)
  have HNE : Hid (¬ (n : Int) = 128) := Lib.hid (by omega)
  clear h
  clear hp1 hp3 hra hrb hrc hw3 hg
  go_enter Tryz.func7, Tryz.ntmps7
  have hz := HZ.out
  go_upto_region 1 with (fail)
  rw [HW3.out]
  try rw [HG.out]
  clear HW3 hz
  have k0 := HR.out.1.cell 0
  have k1 := HR.out.2.1.cell 0
  have HNS : Hid (∀ w, Calls Tryz.prog 15 #[.int .i64 2] w fun r w' => r = .returned (.int .i64 (64 * 2)) ∧ Past w w') := Lib.hid (fun w => (noiseSize_any 2 w (by decide)).mono fun r w' h => ⟨h.1, by rw [h.2]; exact Below.refl _ _⟩)
  have HSK : Hid (∀ w', Past w3 w' → (w'.cell? ⟨g, 0, none⟩ = some (.int .i64 2) ∧ w'.cell? ⟨g + 1, 0, none⟩ = some (.slice A n c))) := Lib.hid (fun w' h => ⟨(HR.out.1.past h).cell 0, (HR.out.2.1.past h).cell 0⟩)
  have HPD : Hid (Past w3 w3.drew) := Lib.hid (Past.drewN (Below.refl _ w3) 1)
  clear k0 k1
  refine wp_region_held_drew (S := fun w' => w'.cell? ⟨g, 0, none⟩ = some (.int .i64 2) ∧ w'.cell? ⟨g + 1, 0, none⟩ = some (.slice A n c)) (by kernel_rfl) (HSK.out _ HPD.out) (fun hH => ?_)
  refine held_take 0 10 (v := .int .i64 2) rfl rfl (by kernel_rfl) (by kernel_rfl) (by kernel_rfl) (fun _ _ _ h => h) (Or.inl ⟨by kernel_rfl, fun w hSw => by
    have hcell := hSw.1
    go_simp⟩) hH ?_
  (try simp only [List.setIfInBounds_toArray, List.set_cons_zero, List.set_cons_succ])
  refine held_take 1 11 (v := .bool false) rfl rfl (by kernel_rfl) (by kernel_rfl) (by kernel_rfl) (fun _ _ _ h => h) (Or.inl ⟨by kernel_rfl, fun w _ => by go_simp⟩) hH ?_
  (try simp only [List.setIfInBounds_toArray, List.set_cons_zero, List.set_cons_succ])
  refine held_take 2 12 (v := .bool false) rfl rfl (by kernel_rfl) (by kernel_rfl) (by kernel_rfl) (fun _ _ _ h => h) (Or.inl ⟨by kernel_rfl, fun w _ => by kernel_rfl⟩) hH ?_
  (try simp only [List.setIfInBounds_toArray, List.set_cons_zero, List.set_cons_succ])
  refine held_take 3 13 (v := undef) rfl rfl (by kernel_rfl) (by kernel_rfl) (by kernel_rfl) (fun _ _ _ h => h) (Or.inr ⟨by kernel_rfl, rfl⟩) hH ?_
  (try simp only [List.setIfInBounds_toArray, List.set_cons_zero, List.set_cons_succ])
  refine held_take 4 14 (v := undef) rfl rfl (by kernel_rfl) (by kernel_rfl) (by kernel_rfl) (fun _ _ _ h => h) (Or.inr ⟨by kernel_rfl, rfl⟩) hH ?_
  (try simp only [List.setIfInBounds_toArray, List.set_cons_zero, List.set_cons_succ])
  refine held_take 5 15 (v := .bool false) rfl rfl (by kernel_rfl) (by kernel_rfl) (by kernel_rfl) (fun _ _ _ h => h) (Or.inl ⟨by kernel_rfl, fun w _ => by kernel_rfl⟩) hH ?_
  (try simp only [List.setIfInBounds_toArray, List.set_cons_zero, List.set_cons_succ])
  refine held_take 6 16 (v := .bool false) rfl rfl (by kernel_rfl) (by kernel_rfl) (by kernel_rfl) (fun _ _ _ h => h) (Or.inl ⟨by kernel_rfl, fun w _ => by kernel_rfl⟩) hH ?_
  (try simp only [List.setIfInBounds_toArray, List.set_cons_zero, List.set_cons_succ])
  refine held_take 7 17 (v := .slice A n c) rfl rfl (by kernel_rfl) (by kernel_rfl) (by kernel_rfl) (fun _ _ _ h => h) (Or.inl ⟨by kernel_rfl, fun w hSw => by
    have hcell := hSw.2
    go_simp⟩) hH ?_
  (try simp only [List.setIfInBounds_toArray, List.set_cons_zero, List.set_cons_succ])
  refine held_take 8 18 (v := .int .i64 (n : Int)) rfl rfl (by kernel_rfl) (by kernel_rfl) (by kernel_rfl) (fun _ _ _ h => h) (Or.inl ⟨by kernel_rfl, fun w _ => by go_simp⟩) hH ?_
  (try simp only [List.setIfInBounds_toArray, List.set_cons_zero, List.set_cons_succ])
  refine held_take 9 19 (v := .int .i64 2) rfl rfl (by kernel_rfl) (by kernel_rfl) (by kernel_rfl) (fun _ _ _ h => h) (Or.inl ⟨by kernel_rfl, fun w hSw => by
    have hcell := hSw.1
    go_simp⟩) hH ?_
  (try simp only [List.setIfInBounds_toArray, List.set_cons_zero, List.set_cons_succ])
  refine wpAnyH_ready (rs := [10]) (by kernel_rfl) (by simp) ?_
  refine AllReadyH.cons rfl (fun K hK => ?_) AllReadyH.nil
  go_simp
  refine (HNS.out w3.drew).mono ?_
  rintro e1 wc1 ⟨rfl, hp⟩
  have HPc1 : Hid (Past w3 wc1) := Lib.hid (HPD.out.trans' hp)
  clear hp
  refine hK.out _ _ (HSK.out _ HPc1.out) (fun hH => ?_)
  clear hK K
  refine held_take 11 21 (v := .bool true) rfl rfl (by kernel_rfl) (by kernel_rfl) (by kernel_rfl) (fun _ _ _ h => h) (Or.inl ⟨by kernel_rfl, fun w _ => by have hx := HNE.out; go_simp⟩) hH ?_
  (try simp only [List.setIfInBounds_toArray, List.set_cons_zero, List.set_cons_succ])
  refine held_take 12 22 (v := .bool true) rfl rfl (by kernel_rfl) (by kernel_rfl) (by kernel_rfl) (fun _ _ _ h => h) (Or.inl ⟨by kernel_rfl, fun w _ => by kernel_rfl⟩) hH ?_
  (try simp only [List.setIfInBounds_toArray, List.set_cons_zero, List.set_cons_succ])
  refine wpAnyH_done (by kernel_rfl) ?_ _
  go_simp
  have hz := HZ.out
  have HPW := HPc1
  clear hH
  generalize wc1 = w4 at *
  have HP4 : Hid (Past w w4) := Lib.hid (HP3.out.trans' HPW.out)
  have HR4 : Hid (Row w4 (g + 1 + 1) 30 (arr .u16 256 fun _ => 0)) := Lib.hid (HR.out.2.2.past HPW.out)
  clear HPW HSK HPD HNS HR HNE
  have hr1 := HR4.out
  have hi2 := infZ
  have ho2 := oneZ
  clear HR4
  generalize hcc : (arr .u16 256 fun _ => 0) = c2 at *
  have HCC := Lib.hid hcc
  clear hcc
  unfold Row at hr1
  go_wp2_with (refine wpList_store_row rfl 30 _ _ rfl (g + 1 + 1) _ rfl rfl _ _ hr1 hi2 rfl ho2 ?_)
  refine bodyPost_ret (results_cr rfl _ _ ⟨g + 1 + 1, 0, none⟩ _ rfl (load_poly _ (g + 1 + 1) _ (setRow_heap _ (g + 1 + 1) _ _ _ _ hr1) hi2)) (by rfl) ?_
  exact ⟨by rw [HCC.out]; rfl, below_setRow HP4.out HSG.out _⟩
set_option maxHeartbeats 4000000 in
theorem knoiseW3_any (A : Option Addr) (n c : Nat) (w : World) (h : ¬ n = 192) :
    Calls Tryz.prog 7 #[.int .i64 3, .slice A n c] w fun r w' => r = .returned (.tuple #[.agg (arr .u16 256 fun _ => 0), .bool false]) ∧ Past w w' := by
  obtain ⟨g, hg⟩ : ∃ g, w.heap.size = g := ⟨_, rfl⟩
  obtain ⟨w3, hw3⟩ : ∃ w', ((w.alloc (.cells #[.int .i64 3] 3)).alloc (.cells #[.slice A n c] 25)).alloc (.cells (arr .u16 256 fun _ => 0) 30) = w' := ⟨_, rfl⟩
  have hp1 : Past w (w.alloc (.cells #[.int .i64 3] 3)) := (Below.refl _ _).alloc (Nat.le_refl _) _
  have hp3 : Past w w3 := by rw [← hw3]; exact (hp1.alloc hp1.size _).alloc (by simp; omega) _
  have hra : Row w3 g 3 #[.int .i64 3] := by rw [← hw3, ← hg]; exact ((Row.new w _ _).alloc _).alloc _
  have hrb : Row w3 (g + 1) 25 #[.slice A n c] := by
    rw [← hw3, ← hg]
    have := (Row.new (w.alloc (.cells #[.int .i64 3] 3)) 25 #[.slice A n c]).alloc (.cells (arr .u16 256 fun _ => 0) 30)
    simpa using this
  have hrc : Row w3 (g + 1 + 1) 30 (arr .u16 256 fun _ => 0) := by
    rw [← hw3, ← hg]
    have := Row.new ((w.alloc (.cells #[.int .i64 3] 3)).alloc (.cells #[.slice A n c] 25)) 30 (arr .u16 256 fun _ => 0)
    simpa using this
  have HP3 := Lib.hid hp3
  have HR := Lib.hid (And.intro hra (And.intro hrb hrc))
  have HW3 := Lib.hid hw3
  have HG := Lib.hid hg
  have HZ := Lib.hid zeroP
  have HSG : Hid (w.heap.size ≤ g + 1 + 1) := Lib.hid (by omega)
  have HNE : Hid (¬ (n : Int) = 192) := Lib.hid (by omega)
  clear h
  clear hp1 hp3 hra hrb hrc hw3 hg
  go_enter Tryz.func7, Tryz.ntmps7
  have hz := HZ.out
  go_upto_region 1 with (fail)
  rw [HW3.out]
  try rw [HG.out]
  clear HW3 hz
  have k0 := HR.out.1.cell 0
  have k1 := HR.out.2.1.cell 0
  have HNS : Hid (∀ w, Calls Tryz.prog 15 #[.int .i64 3] w fun r w' => r = .returned (.int .i64 (64 * 3)) ∧ Past w w') := Lib.hid (fun w => (noiseSize_any 3 w (by decide)).mono fun r w' h => ⟨h.1, by rw [h.2]; exact Below.refl _ _⟩)
  have HSK : Hid (∀ w', Past w3 w' → (w'.cell? ⟨g, 0, none⟩ = some (.int .i64 3) ∧ w'.cell? ⟨g + 1, 0, none⟩ = some (.slice A n c))) := Lib.hid (fun w' h => ⟨(HR.out.1.past h).cell 0, (HR.out.2.1.past h).cell 0⟩)
  have HPD : Hid (Past w3 w3.drew) := Lib.hid (Past.drewN (Below.refl _ w3) 1)
  clear k0 k1
  refine wp_region_held_drew (S := fun w' => w'.cell? ⟨g, 0, none⟩ = some (.int .i64 3) ∧ w'.cell? ⟨g + 1, 0, none⟩ = some (.slice A n c)) (by kernel_rfl) (HSK.out _ HPD.out) (fun hH => ?_)
  refine held_take 0 10 (v := .int .i64 3) rfl rfl (by kernel_rfl) (by kernel_rfl) (by kernel_rfl) (fun _ _ _ h => h) (Or.inl ⟨by kernel_rfl, fun w hSw => by
    have hcell := hSw.1
    go_simp⟩) hH ?_
  (try simp only [List.setIfInBounds_toArray, List.set_cons_zero, List.set_cons_succ])
  refine held_take 1 11 (v := .bool true) rfl rfl (by kernel_rfl) (by kernel_rfl) (by kernel_rfl) (fun _ _ _ h => h) (Or.inl ⟨by kernel_rfl, fun w _ => by go_simp⟩) hH ?_
  (try simp only [List.setIfInBounds_toArray, List.set_cons_zero, List.set_cons_succ])
  refine held_take 2 12 (v := .bool true) rfl rfl (by kernel_rfl) (by kernel_rfl) (by kernel_rfl) (fun _ _ _ h => h) (Or.inl ⟨by kernel_rfl, fun w _ => by kernel_rfl⟩) hH ?_
  (try simp only [List.setIfInBounds_toArray, List.set_cons_zero, List.set_cons_succ])
  refine held_take 3 13 (v := .int .i64 3) rfl rfl (by kernel_rfl) (by kernel_rfl) (by kernel_rfl) (fun _ _ _ h => h) (Or.inl ⟨by kernel_rfl, fun w hSw => by
    have hcell := hSw.1
    go_simp⟩) hH ?_
  (try simp only [List.setIfInBounds_toArray, List.set_cons_zero, List.set_cons_succ])
  refine held_take 4 14 (v := .bool false) rfl rfl (by kernel_rfl) (by kernel_rfl) (by kernel_rfl) (fun _ _ _ h => h) (Or.inl ⟨by kernel_rfl, fun w _ => by go_simp⟩) hH ?_
  (try simp only [List.setIfInBounds_toArray, List.set_cons_zero, List.set_cons_succ])
  refine held_take 5 15 (v := .bool false) rfl rfl (by kernel_rfl) (by kernel_rfl) (by kernel_rfl) (fun _ _ _ h => h) (Or.inl ⟨by kernel_rfl, fun w _ => by kernel_rfl⟩) hH ?_
  (try simp only [List.setIfInBounds_toArray, List.set_cons_zero, List.set_cons_succ])
  refine held_take 6 16 (v := .bool false) rfl rfl (by kernel_rfl) (by kernel_rfl) (by kernel_rfl) (fun _ _ _ h => h) (Or.inl ⟨by kernel_rfl, fun w _ => by kernel_rfl⟩) hH ?_
  (try simp only [List.setIfInBounds_toArray, List.set_cons_zero, List.set_cons_succ])
  refine held_take 7 17 (v := .slice A n c) rfl rfl (by kernel_rfl) (by kernel_rfl) (by kernel_rfl) (fun _ _ _ h => h) (Or.inl ⟨by kernel_rfl, fun w hSw => by
    have hcell := hSw.2
    go_simp⟩) hH ?_
  (try simp only [List.setIfInBounds_toArray, List.set_cons_zero, List.set_cons_succ])
  refine held_take 8 18 (v := .int .i64 (n : Int)) rfl rfl (by kernel_rfl) (by kernel_rfl) (by kernel_rfl) (fun _ _ _ h => h) (Or.inl ⟨by kernel_rfl, fun w _ => by go_simp⟩) hH ?_
  (try simp only [List.setIfInBounds_toArray, List.set_cons_zero, List.set_cons_succ])
  refine held_take 9 19 (v := .int .i64 3) rfl rfl (by kernel_rfl) (by kernel_rfl) (by kernel_rfl) (fun _ _ _ h => h) (Or.inl ⟨by kernel_rfl, fun w hSw => by
    have hcell := hSw.1
    go_simp⟩) hH ?_
  (try simp only [List.setIfInBounds_toArray, List.set_cons_zero, List.set_cons_succ])
  refine wpAnyH_ready (rs := [10]) (by kernel_rfl) (by simp) ?_
  refine AllReadyH.cons rfl (fun K hK => ?_) AllReadyH.nil
  go_simp
  refine (HNS.out w3.drew).mono ?_
  rintro e1 wc1 ⟨rfl, hp⟩
  have HPc1 : Hid (Past w3 wc1) := Lib.hid (HPD.out.trans' hp)
  clear hp
  refine hK.out _ _ (HSK.out _ HPc1.out) (fun hH => ?_)
  clear hK K
  refine held_take 11 21 (v := .bool true) rfl rfl (by kernel_rfl) (by kernel_rfl) (by kernel_rfl) (fun _ _ _ h => h) (Or.inl ⟨by kernel_rfl, fun w _ => by have hx := HNE.out; go_simp⟩) hH ?_
  (try simp only [List.setIfInBounds_toArray, List.set_cons_zero, List.set_cons_succ])
  refine held_take 12 22 (v := .bool true) rfl rfl (by kernel_rfl) (by kernel_rfl) (by kernel_rfl) (fun _ _ _ h => h) (Or.inl ⟨by kernel_rfl, fun w _ => by kernel_rfl⟩) hH ?_
  (try simp only [List.setIfInBounds_toArray, List.set_cons_zero, List.set_cons_succ])
  refine wpAnyH_done (by kernel_rfl) ?_ _
  go_simp
  have hz := HZ.out
  have HPW := HPc1
  clear hH
  generalize wc1 = w4 at *
  have HP4 : Hid (Past w w4) := Lib.hid (HP3.out.trans' HPW.out)
  have HR4 : Hid (Row w4 (g + 1 + 1) 30 (arr .u16 256 fun _ => 0)) := Lib.hid (HR.out.2.2.past HPW.out)
  clear HPW HSK HPD HNS HR HNE
  have hr1 := HR4.out
  have hi2 := infZ
  have ho2 := oneZ
  clear HR4
  generalize hcc : (arr .u16 256 fun _ => 0) = c2 at *
  have HCC := Lib.hid hcc
  clear hcc
  unfold Row at hr1
  go_wp2_with (refine wpList_store_row rfl 30 _ _ rfl (g + 1 + 1) _ rfl rfl _ _ hr1 hi2 rfl ho2 ?_)
  refine bodyPost_ret (results_cr rfl _ _ ⟨g + 1 + 1, 0, none⟩ _ rfl (load_poly _ (g + 1 + 1) _ (setRow_heap _ (g + 1 + 1) _ _ _ _ hr1) hi2)) (by rfl) ?_
  exact ⟨by rw [HCC.out]; rfl, below_setRow HP4.out HSG.out _⟩
end Go.Proofs.YtalhdalmafhofaaGreatDoor
