/- Noise. -/
import Derived.Test.YtalhdalmafhofaaGreatDoorNo16B
import Derived.Test.YtalhdalmafhofaaGreatDoorPm13A
import Derived.Deep.RegionHeld
namespace Go.Proofs.YtalhdalmafhofaaGreatDoor
open Go.RowKit
set_option maxRecDepth 100000
set_option linter.unusedVariables false

theorem load_poly (w : World) (g : Nat) (cs : Array Value) (hg : w.heap[g]? = some (.cells cs 30)) (h : (Tryz.prog.info? 30).map (·.size) = some cs.size) : (loadVar 30 ⟨g, 0, none⟩).run Tryz.prog w = .ok (.agg cs) w :=
  run_loadVar_row w g 30 30 cs (0, 0) _ hg Tryz.underlying30 rfl h
set_option maxHeartbeats 4000000 in
theorem knoise2_any (A : Option Addr) (c : Nat) (xs : List Int) (w : World) (hS : Sl w A 128 c xs) :
    Calls Tryz.prog 7 #[.int .i64 2, .slice A 128 c] w fun r w' => r = .returned (.tuple #[.agg (arr .u16 256 (noF xs 2)), .bool true]) ∧ Past w w' := by
  obtain ⟨g, hg⟩ : ∃ g, w.heap.size = g := ⟨_, rfl⟩
  obtain ⟨w3, hw3⟩ : ∃ w', ((w.alloc (.cells #[.int .i64 2] 3)).alloc (.cells #[.slice A 128 c] 25)).alloc (.cells (arr .u16 256 fun _ => 0) 30) = w' := ⟨_, rfl⟩
  have hp1 : Past w (w.alloc (.cells #[.int .i64 2] 3)) := (Below.refl _ _).alloc (Nat.le_refl _) _
  have hp3 : Past w w3 := by rw [← hw3]; exact (hp1.alloc hp1.size _).alloc (by simp; omega) _
  have hra : Row w3 g 3 #[.int .i64 2] := by rw [← hw3, ← hg]; exact ((Row.new w _ _).alloc _).alloc _
  have hrb : Row w3 (g + 1) 25 #[.slice A 128 c] := by
    rw [← hw3, ← hg]
    have := (Row.new (w.alloc (.cells #[.int .i64 2] 3)) 25 #[.slice A 128 c]).alloc (.cells (arr .u16 256 fun _ => 0) 30)
    simpa using this
  have hrc : Row w3 (g + 1 + 1) 30 (arr .u16 256 fun _ => 0) := by
    rw [← hw3, ← hg]
    have := Row.new ((w.alloc (.cells #[.int .i64 2] 3)).alloc (.cells #[.slice A 128 c] 25)) 30 (arr .u16 256 fun _ => 0)
    simpa using this
  have hs3 : w3.heap.size = g + 1 + 1 + 1 := by rw [← hw3]; simp [World.size_alloc, hg]
  have HP3 := Lib.hid hp3
  have HR := Lib.hid (And.intro hra (And.intro hrb hrc))
  have HS3 := Lib.hid hs3
  have HW3 := Lib.hid hw3
  have HG := Lib.hid hg
  have HSS := Lib.hid (fun w' (h : Past w w') => hS.past h)
  have HZ := Lib.hid zeroP
  have HA := Lib.hid (arr_one .u16 256 (noF xs 2))
  have HSZ : Hid ((arr .u16 256 fun _ => 0).size = (arr .u16 256 (noF xs 2)).size) := Lib.hid (by rw [arr_size, arr_size])
  have HI := Lib.hid (infP (noF xs 2))
  clear hp1 hp3 hra hrb hrc hs3 hw3 hS hg
  go_enter Tryz.func7, Tryz.ntmps7
  have hz := HZ.out
  go_upto_region 1 with (fail)
  rw [HW3.out]
  try rw [HG.out]
  clear HW3 hz
  have k0 := HR.out.1.cell 0
  have k1 := HR.out.2.1.cell 0
  have HNS : Hid (∀ w, Calls Tryz.prog 15 #[.int .i64 2] w fun r w' => r = .returned (.int .i64 (64 * 2)) ∧ Past w w') := Lib.hid (fun w => (noiseSize_any 2 w (by decide)).mono fun r w' h => ⟨h.1, by rw [h.2]; exact Below.refl _ _⟩)
  have HSK : Hid (∀ w', Past w3 w' → (w'.cell? ⟨g, 0, none⟩ = some (.int .i64 2) ∧ w'.cell? ⟨g + 1, 0, none⟩ = some (.slice A 128 c))) := Lib.hid (fun w' h => ⟨(HR.out.1.past h).cell 0, (HR.out.2.1.past h).cell 0⟩)
  have HPD : Hid (Past w3 w3.drew) := Lib.hid (Past.drewN (Below.refl _ w3) 1)
  clear k0 k1
  refine wp_region_held_drew (S := fun w' => w'.cell? ⟨g, 0, none⟩ = some (.int .i64 2) ∧ w'.cell? ⟨g + 1, 0, none⟩ = some (.slice A 128 c)) (by kernel_rfl) (HSK.out _ HPD.out) (fun hH => ?_)
  refine held_take 0 10 (v := .int .i64 2) rfl rfl (by kernel_rfl) (by kernel_rfl) (by kernel_rfl) (fun _ _ _ h => h) (Or.inl ⟨by kernel_rfl, fun w hSw => by
    have hcell := hSw.1
    go_simp⟩) hH ?_
  (try simp only [List.setIfInBounds_toArray, List.set_cons_zero, List.set_cons_succ])
  refine held_take 1 11 (v := .bool false) rfl rfl (by kernel_rfl) (by kernel_rfl) (by kernel_rfl) (fun _ _ _ h => h) (Or.inl ⟨by kernel_rfl, fun w _ => by go_simp⟩) hH ?_
  (try simp only [List.setIfInBounds_toArray, List.set_cons_zero, List.set_cons_succ])
  refine held_take 2 12 (v := .bool false) rfl rfl (by kernel_rfl) (by kernel_rfl) (by kernel_rfl) (fun _ _ _ h => h) (Or.inl ⟨by kernel_rfl, fun w _ => by kernel_rfl⟩) hH ?_
  (try simp only [List.setIfInBounds_toArray, List.set_cons_zero, List.set_cons_succ])
  refine held_take 3 13 (v := undef) rfl rfl (by kernel_rfl) (by kernel_rfl) (by kernel_rfl) (fun _ _ _ h => h) (Or.inr ⟨by kernel_rfl, rfl⟩) hH ?_
  (try simp only [List.setIfInBounds_toArray, List.set_cons_zero, List.set_cons_succ])
  refine held_take 4 14 (v := undef) rfl rfl (by kernel_rfl) (by kernel_rfl) (by kernel_rfl) (fun _ _ _ h => h) (Or.inr ⟨by kernel_rfl, rfl⟩) hH ?_
  (try simp only [List.setIfInBounds_toArray, List.set_cons_zero, List.set_cons_succ])
  refine held_take 5 15 (v := .bool false) rfl rfl (by kernel_rfl) (by kernel_rfl) (by kernel_rfl) (fun _ _ _ h => h) (Or.inl ⟨by kernel_rfl, fun w _ => by kernel_rfl⟩) hH ?_
  (try simp only [List.setIfInBounds_toArray, List.set_cons_zero, List.set_cons_succ])
  refine held_take 6 16 (v := .bool false) rfl rfl (by kernel_rfl) (by kernel_rfl) (by kernel_rfl) (fun _ _ _ h => h) (Or.inl ⟨by kernel_rfl, fun w _ => by kernel_rfl⟩) hH ?_
  (try simp only [List.setIfInBounds_toArray, List.set_cons_zero, List.set_cons_succ])
  refine held_take 7 17 (v := .slice A 128 c) rfl rfl (by kernel_rfl) (by kernel_rfl) (by kernel_rfl) (fun _ _ _ h => h) (Or.inl ⟨by kernel_rfl, fun w hSw => by
    have hcell := hSw.2
    go_simp⟩) hH ?_
  (try simp only [List.setIfInBounds_toArray, List.set_cons_zero, List.set_cons_succ])
  refine held_take 8 18 (v := .int .i64 128) rfl rfl (by kernel_rfl) (by kernel_rfl) (by kernel_rfl) (fun _ _ _ h => h) (Or.inl ⟨by kernel_rfl, fun w _ => by go_simp⟩) hH ?_
  (try simp only [List.setIfInBounds_toArray, List.set_cons_zero, List.set_cons_succ])
  refine held_take 9 19 (v := .int .i64 2) rfl rfl (by kernel_rfl) (by kernel_rfl) (by kernel_rfl) (fun _ _ _ h => h) (Or.inl ⟨by kernel_rfl, fun w hSw => by
    have hcell := hSw.1
    go_simp⟩) hH ?_
  (try simp only [List.setIfInBounds_toArray, List.set_cons_zero, List.set_cons_succ])
  refine wpAnyH_ready (rs := [10]) (by kernel_rfl) (by simp) ?_
  refine AllReadyH.cons rfl (fun K hK => ?_) AllReadyH.nil
  go_simp
  refine (HNS.out w3.drew).mono ?_
  rintro e1 wc1 ⟨rfl, hp⟩
  have HPc1 : Hid (Past w3 wc1) := Lib.hid (HPD.out.trans' hp)
  clear hp
  refine hK.out _ _ (HSK.out _ HPc1.out) (fun hH => ?_)
  clear hK K
  refine held_take 11 21 (v := .bool false) rfl rfl (by kernel_rfl) (by kernel_rfl) (by kernel_rfl) (fun _ _ _ h => h) (Or.inl ⟨by kernel_rfl, fun w _ => by go_simp⟩) hH ?_
  (try simp only [List.setIfInBounds_toArray, List.set_cons_zero, List.set_cons_succ])
  refine held_take 12 22 (v := .bool false) rfl rfl (by kernel_rfl) (by kernel_rfl) (by kernel_rfl) (fun _ _ _ h => h) (Or.inl ⟨by kernel_rfl, fun w _ => by kernel_rfl⟩) hH ?_
  (try simp only [List.setIfInBounds_toArray, List.set_cons_zero, List.set_cons_succ])
  refine wpAnyH_done (by kernel_rfl) ?_ _
  go_simp
  have HPW := HPc1
  clear hH
  generalize wc1 = w4 at *
  have HP4 : Hid (Past w w4) := Lib.hid (HP3.out.trans' HPW.out)
  have HR4 : Hid (Row w4 g 3 #[.int .i64 2] ∧ Row w4 (g + 1) 25 #[.slice A 128 c] ∧ Row w4 (g + 1 + 1) 30 (arr .u16 256 fun _ => 0)) := Lib.hid ⟨HR.out.1.past HPW.out, HR.out.2.1.past HPW.out, HR.out.2.2.past HPW.out⟩
  have HS4 : Hid (g + 1 + 1 + 1 ≤ w4.heap.size) := Lib.hid (by have := HPW.out.size; rw [HS3.out] at this; exact this)
  clear HSK HPD HPW
  go_upto_region 4 with (fail)
  obtain ⟨w5, hw5⟩ : ∃ w', w4.alloc (.cells (arr .u16 256 fun _ => 0) 30) = w' := ⟨_, rfl⟩
  obtain ⟨u, hu⟩ : ∃ u, w4.heap.size = u := ⟨_, rfl⟩
  have HUG : Hid (g + 1 + 1 < u ∧ w.heap.size ≤ u) := Lib.hid (by have h1 := HS4.out; have h2 := HP4.out.size; omega)
  have H0 : Hid (Fx [(g, 3, #[.int .i64 2]), (g + 1, 25, #[.slice A 128 c]), (g + 1 + 1, 30, arr .u16 256 fun _ => 0)] .u16 256 w w5 u 30 fun _ => 0) := Lib.hid (by
    rw [← hw5, ← hu]
    refine ⟨HP4.out.alloc HP4.out.size _, ?_, Row.new _ _ _⟩
    intro x hx
    rcases List.mem_cons.1 hx with rfl | hx
    · exact HR4.out.1.alloc _
    · rcases List.mem_cons.1 hx with rfl | hx
      · exact HR4.out.2.1.alloc _
      · rcases List.mem_cons.1 hx with rfl | hx
        · exact HR4.out.2.2.alloc _
        · cases hx)
  have HW5 := Lib.hid hw5
  have hz := HZ.out
  clear hw5
  go_upto_region 5 with (fail)
  try rw [HW5.out]
  try rw [hu]
  clear HW5 hz hu
  go_wp2_with fail
  go_loopg [25] 256 (fun q s25 wx => ∃ i : Nat, i ≤ 256 ∧ q = 256 - i ∧ s25 = .int .i64 (i : Int) ∧ Hid (∃ F, Fx [(g, 3, #[.int .i64 2]), (g + 1, 25, #[.slice A 128 c]), (g + 1 + 1, 30, arr .u16 256 fun _ => 0)] .u16 256 w wx u 30 F ∧ ∀ j, j < i → F j = noF xs 2 j))
  case atStart => exact ⟨0, Nat.zero_le _, rfl, rfl, Lib.hid ⟨_, H0.out, fun j hj => absurd hj (by omega)⟩⟩
  case round =>
    clear H0
    obtain ⟨i, hi, hq, rfl, HQ⟩ := hrel
    have HGQ := Lib.hid hq
    clear hq
    have hi0 : (0 : Int) ≤ (i : Int) := by omega
    obtain ⟨F, hT, hF⟩ := HQ.out
    by_cases hlt : i < 256
    · have hii : (i : Int) < 256 := by omega
      have HLT := Lib.hid hlt
      have hra := hT.2.1 (g, 3, #[.int .i64 2]) (by simp)
      have hrb := hT.2.1 (g + 1, 25, #[.slice A 128 c]) (by simp)
      have k0 := hra.cell 0
      obtain ⟨p, hp⟩ : ∃ p, 4 * i = p := ⟨_, rfl⟩
      obtain ⟨p2, hp2⟩ : ∃ p2, p + 2 = p2 := ⟨_, rfl⟩
      have hpi : 4 * (i : Int) = (p : Int) := by omega
      have hp2i : (p : Int) + 2 = (p2 : Int) := by omega
      have HWP : Hid (IntKind.i64.wrap (4 * (i : Int)) = (p : Int) ∧ wrap64 (p : Int) = (p : Int) ∧ IntKind.i64.wrap ((p : Int) + 2) = (p2 : Int) ∧ wrap64 (p2 : Int) = (p2 : Int)) := Lib.hid ⟨by rw [IntKind.wrap_i64]; omega, IntWalk.wrap64_in _ (by omega), by rw [IntKind.wrap_i64]; omega, IntWalk.wrap64_in _ (by omega)⟩
      have hcl : ∀ w', Past w w' → w'.cell? ⟨g, 0, none⟩ = some (.int .i64 ((2 : Nat) : Int)) → w'.cell? ⟨g + 1, 0, none⟩ = some (.slice A 128 c) → Calls Tryz.prog 16 #[.int .i64 (p : Int), .pointer (some ⟨g, 0, none⟩), .pointer (some ⟨g + 1, 0, none⟩)] w' fun r w'' => r = .returned (.int .i64 (onesF xs p 2)) ∧ ∃ m, w'' = w'.drewN m :=
        fun w' h h1 h2 => ones_any p 2 g (g + 1) A 128 c xs w' (by decide) (by omega) (HSS.out w' h) (by decide) h1 h2
      have hcl2 : ∀ w', Past w w' → w'.cell? ⟨g, 0, none⟩ = some (.int .i64 ((2 : Nat) : Int)) → w'.cell? ⟨g + 1, 0, none⟩ = some (.slice A 128 c) → Calls Tryz.prog 16 #[.int .i64 (p2 : Int), .pointer (some ⟨g, 0, none⟩), .pointer (some ⟨g + 1, 0, none⟩)] w' fun r w'' => r = .returned (.int .i64 (onesF xs p2 2)) ∧ ∃ m, w'' = w'.drewN m :=
        fun w' h h1 h2 => ones_any p2 2 g (g + 1) A 128 c xs w' (by decide) (by omega) (HSS.out w' h) (by decide) h1 h2
      have r1 := onesF_rng xs p 2
      have r2 := onesF_rng xs p2 2
      have HV : Hid ((onesF xs p 2 - onesF xs p2 2) % 3329 = noF xs 2 i) := Lib.hid (by unfold noF; rw [show 2 * 2 * i = p by omega, hp2])
      have HC1 := Lib.hid hcl
      have HC2 := Lib.hid hcl2
      generalize onesF xs p 2 = v1 at *
      generalize onesF xs p2 2 = v2 at *
      obtain ⟨dv, hdv⟩ : ∃ d, v1 - v2 = d := ⟨_, rfl⟩
      have HWD : Hid (IntKind.i64.wrap (v1 - v2) = dv ∧ wrap64 dv = dv) := Lib.hid ⟨by rw [IntKind.wrap_i64]; omega, IntWalk.wrap64_in _ (by omega)⟩
      rw [hdv] at HV
      have HRD := Lib.hid (fun w => reduce_any dv w (by omega) (by omega))
      rw [HV.out] at HRD
      obtain ⟨V, hVV⟩ : ∃ V, noF xs 2 i = V := ⟨_, rfl⟩
      rw [hVV] at HRD
      have HV2 : Hid (V = noF xs 2 i) := Lib.hid hVV.symm
      have HII := Lib.hid (And.intro hi0 hii)
      have HPP : Hid (IntKind.i64.wrap (p2 : Int) = (p2 : Int)) := Lib.hid (by rw [IntKind.wrap_i64]; omega)
      clear hVV
      have HT := Lib.hid (And.intro hT hF)
      have HRR := Lib.hid (And.intro hra hrb)
      clear hT hF hra hrb hcl hcl2 hlt hi hp hp2 r1 r2 hdv HQ
      obtain ⟨hw1, hw2, hw3, hw4⟩ := HWP.out
      obtain ⟨hw5, hw6⟩ := HWD.out
      go_upto_region 9 with (fail)
      have HTP : Hid (∀ w', Past wr w' → Fx [(g, 3, #[.int .i64 2]), (g + 1, 25, #[.slice A 128 c]), (g + 1 + 1, 30, arr .u16 256 fun _ => 0)] .u16 256 w w' u 30 F) := Lib.hid (fun w' h => ⟨HT.out.1.1.trans' h, fun x hx => (HT.out.1.2.1 x hx).past h, Row.past HT.out.1.2.2 h⟩)
      have HSK : Hid (∀ w', Past wr w' → w'.cell? ⟨g, 0, none⟩ = some (.int .i64 2)) := Lib.hid (fun w' h => (HRR.out.1.past h).cell 0)
      have HD1 : Hid (∀ w', Past wr w' → Calls Tryz.prog 16 #[.int .i64 (p : Int), .pointer (some ⟨g, 0, none⟩), .pointer (some ⟨g + 1, 0, none⟩)] w' fun r w'' => r = .returned (.int .i64 v1) ∧ Past w' w'') := Lib.hid (fun w' h => (HC1.out w' (HT.out.1.1.trans' h) ((HRR.out.1.past h).cell 0) ((HRR.out.2.past h).cell 0)).mono fun r w'' hh => ⟨hh.1, by obtain ⟨m, hm⟩ := hh.2; rw [hm]; exact Past.drewN (Below.refl _ _) m⟩)
      have HD2 : Hid (∀ w', Past wr w' → Calls Tryz.prog 16 #[.int .i64 (p2 : Int), .pointer (some ⟨g, 0, none⟩), .pointer (some ⟨g + 1, 0, none⟩)] w' fun r w'' => r = .returned (.int .i64 v2) ∧ Past w' w'') := Lib.hid (fun w' h => (HC2.out w' (HT.out.1.1.trans' h) ((HRR.out.1.past h).cell 0) ((HRR.out.2.past h).cell 0)).mono fun r w'' hh => ⟨hh.1, by obtain ⟨m, hm⟩ := hh.2; rw [hm]; exact Past.drewN (Below.refl _ _) m⟩)
      have HD3 : Hid (∀ w', Past wr w' → Calls Tryz.prog 18 #[.int .i64 dv] w' fun r w'' => r = .returned (.int .u16 V) ∧ Past w' w'') := Lib.hid (fun w' _ => (HRD.out w').mono fun r w'' hh => ⟨hh.1, by rw [hh.2]; exact Below.refl _ _⟩)
      have HPD : Hid (Past wr wr.drew) := Lib.hid (Past.drewN (Below.refl _ wr) 1)
      clear hw1 hw2 hw3 hw4 hw5 hw6
      refine wp_region_held_drew (S := fun w' => w'.cell? ⟨g, 0, none⟩ = some (.int .i64 2)) (by kernel_rfl) (HSK.out _ HPD.out) (fun hH => ?_)
      refine held_take 0 32 (v := .int .i64 (i : Int)) rfl rfl (by kernel_rfl) (by kernel_rfl) (by kernel_rfl) (fun _ _ _ h => h) (Or.inl ⟨by kernel_rfl, fun w _ => by kernel_rfl⟩) hH ?_
      (try simp only [List.setIfInBounds_toArray, List.set_cons_zero, List.set_cons_succ])
      refine held_take 1 33 (v := .func (.func 16) #[] #[.pointer (some ⟨g, 0, none⟩), .pointer (some ⟨g + 1, 0, none⟩)]) rfl rfl (by kernel_rfl) (by kernel_rfl) (by kernel_rfl) (fun _ _ _ h => h) (Or.inl ⟨by kernel_rfl, fun w _ => by kernel_rfl⟩) hH ?_
      (try simp only [List.setIfInBounds_toArray, List.set_cons_zero, List.set_cons_succ])
      refine held_take 2 34 (v := .int .i64 (p : Int)) rfl rfl (by kernel_rfl) (by kernel_rfl) (by kernel_rfl) (fun _ _ _ h => h) (Or.inl ⟨by kernel_rfl, fun w _ => by kernel_rfl⟩) hH ?_
      (try simp only [List.setIfInBounds_toArray, List.set_cons_zero, List.set_cons_succ])
      refine held_take 4 36 (v := .func (.func 16) #[] #[.pointer (some ⟨g, 0, none⟩), .pointer (some ⟨g + 1, 0, none⟩)]) rfl rfl (by kernel_rfl) (by kernel_rfl) (by kernel_rfl) (fun _ _ _ h => h) (Or.inl ⟨by kernel_rfl, fun w _ => by kernel_rfl⟩) hH ?_
      (try simp only [List.setIfInBounds_toArray, List.set_cons_zero, List.set_cons_succ])
      refine held_take 5 37 (v := .int .i64 (p : Int)) rfl rfl (by kernel_rfl) (by kernel_rfl) (by kernel_rfl) (fun _ _ _ h => h) (Or.inl ⟨by kernel_rfl, fun w _ => by kernel_rfl⟩) hH ?_
      (try simp only [List.setIfInBounds_toArray, List.set_cons_zero, List.set_cons_succ])
      refine held_take 6 38 (v := .int .i64 2) rfl rfl (by kernel_rfl) (by kernel_rfl) (by kernel_rfl) (fun _ _ _ h => h) (Or.inl ⟨by kernel_rfl, fun w hSw => by
        have hcell := hSw
        go_simp⟩) hH ?_
      (try simp only [List.setIfInBounds_toArray, List.set_cons_zero, List.set_cons_succ])
      refine held_take 7 39 (v := .int .i64 (p2 : Int)) rfl rfl (by kernel_rfl) (by kernel_rfl) (by kernel_rfl) (fun _ _ _ h => h) (Or.inl ⟨by kernel_rfl, fun w _ => by obtain ⟨hx1, hx2, hx3, hx4⟩ := HWP.out; have hx7 := HPP.out; go_simp⟩) hH ?_
      (try simp only [List.setIfInBounds_toArray, List.set_cons_zero, List.set_cons_succ])
      refine wpAnyH_ready (rs := [3]) (by kernel_rfl) (by simp) ?_
      refine AllReadyH.cons (by simp only [List.getElem?_toArray, List.getElem?_cons_succ, List.getElem?_cons_zero]; rfl) (fun K hK => ?_) AllReadyH.nil
      go_simp
      refine (HD1.out _ HPD.out).mono ?_
      rintro r3 wc3 ⟨rfl, hp⟩
      have HPc3 : Hid (Past wr wc3) := Lib.hid (HPD.out.trans' hp)
      clear hp
      refine hK.out _ _ (HSK.out _ HPc3.out) (fun hH => ?_)
      clear hK K
      refine wpAnyH_ready (rs := [8]) (by kernel_rfl) (by simp) ?_
      refine AllReadyH.cons (by simp only [List.getElem?_toArray, List.getElem?_cons_succ, List.getElem?_cons_zero]; rfl) (fun K hK => ?_) AllReadyH.nil
      go_simp
      refine (HD2.out _ HPc3.out).mono ?_
      rintro r8 wc8 ⟨rfl, hp⟩
      have HPc8 : Hid (Past wr wc8) := Lib.hid (HPc3.out.trans' hp)
      clear hp
      refine hK.out _ _ (HSK.out _ HPc8.out) (fun hH => ?_)
      clear hK K
      refine held_take 9 41 (v := .int .i64 dv) rfl rfl (by kernel_rfl) (by kernel_rfl) (by kernel_rfl) (fun _ _ _ h => h) (Or.inl ⟨by kernel_rfl, fun w _ => by obtain ⟨hx1, hx2⟩ := HWD.out; go_simp⟩) hH ?_
      (try simp only [List.setIfInBounds_toArray, List.set_cons_zero, List.set_cons_succ])
      refine wpAnyH_ready (rs := [10]) (by kernel_rfl) (by simp) ?_
      refine AllReadyH.cons (by simp only [List.getElem?_toArray, List.getElem?_cons_succ, List.getElem?_cons_zero]; rfl) (fun K hK => ?_) AllReadyH.nil
      go_simp
      refine (HD3.out _ HPc8.out).mono ?_
      rintro r10 wc10 ⟨rfl, hp⟩
      have HPc10 : Hid (Past wr wc10) := Lib.hid (HPc8.out.trans' hp)
      clear hp
      refine hK.out _ _ (HSK.out _ HPc10.out) (fun hH => ?_)
      clear hK K
      refine held_take 11 43 (v := .pointer (some ⟨u, i, none⟩)) rfl rfl (by kernel_rfl) (by kernel_rfl) (by kernel_rfl) (fun _ _ _ h => h) (Or.inl ⟨by kernel_rfl, fun w _ => by have hx1 := HII.out.1; have hx2 := HII.out.2; go_simp⟩) hH ?_
      (try simp only [List.setIfInBounds_toArray, List.set_cons_zero, List.set_cons_succ])
      refine wpAnyH_ready (rs := [12]) (by kernel_rfl) (by simp) ?_
      refine AllReadyH.cons (by simp only [List.getElem?_toArray, List.getElem?_cons_succ, List.getElem?_cons_zero]; rfl) (fun K hK => ?_) AllReadyH.nil
      have hTW := HTP.out _ HPc10.out
      have hc1 := hTW.2.2.at i HLT.out
      have hf1 := hTW.2.2.fr i
      have hT1 := hTW.put HUG.out.2 (by intro x hx; have := HUG.out.1; simp at hx; rcases hx with rfl | rfl | rfl <;> simp <;> omega) i HLT.out V
      have HT2 : Hid (∃ F', Fx [(g, 3, #[.int .i64 2]), (g + 1, 25, #[.slice A 128 c]), (g + 1 + 1, 30, arr .u16 256 fun _ => 0)] .u16 256 w (wc10.setCell ⟨u, i, none⟩ (.int .u16 V)) u 30 F' ∧ ∀ j, j < i + 1 → F' j = noF xs 2 j) := Lib.hid ⟨_, hT1, fun j hj => by
        by_cases e1 : j = i
        · subst e1; rw [upd_at, HV2.out]
        · rw [upd_ne _ _ e1]; exact HT.out.2 j (by omega)⟩
      have HS2 : Hid ((wc10.setCell ⟨u, i, none⟩ (.int .u16 V)).cell? ⟨g, 0, none⟩ = some (.int .i64 2)) := Lib.hid ((hT1.2.1 (g, 3, #[.int .i64 2]) (by simp)).cell 0)
      clear hTW hT1
      go_simp
      refine hK.out _ _ HS2.out (fun hH => ?_)
      clear hK K hc1 hf1
      refine wpAnyH_done (by kernel_rfl) ?_ _
      go_simp
      go_wp2_with fail
      go_roundg (256 - (i + 1))
      case rel => exact ⟨i + 1, HLT.out, rfl, by go_num, HT2⟩
      case measure => have := HGQ.out; have := HLT.out; omega
    · obtain rfl : i = 256 := by omega
      have he : arr .u16 256 F = arr .u16 256 (noF xs 2) := arr_ext fun j hj => hF j (by omega)
      have hr2 := hT.2.2
      have hr1 := hT.2.1 (g + 1 + 1, 30, arr .u16 256 fun _ => 0) (by simp)
      unfold LM at hr2
      rw [he] at hr2
      have hi2 := HI.out
      have hs2 := HSZ.out
      have ho2 := HA.out
      have HP := Lib.hid hT.1
      clear hT hF he HQ
      generalize hcc : arr .u16 256 (noF xs 2) = c2 at *
      have HCC := Lib.hid hcc
      clear hcc
      generalize arr .u16 256 (fun _ => 0) = c1 at *
      simp only at hr1
      go_wp2_with (first | (refine wpList_load_row rfl 30 _ rfl u rfl _ _ (0, 0) _ hr2 Tryz.underlying30 rfl hi2 ?_) | (refine wpList_store_row rfl 30 _ _ rfl (g + 1 + 1) _ rfl rfl _ _ hr1 hi2 hs2 ho2 ?_))
      refine bodyPost_ret (results_cr rfl _ _ ⟨g + 1 + 1, 0, none⟩ _ rfl (load_poly _ (g + 1 + 1) _ (setRow_heap _ (g + 1 + 1) _ _ _ _ hr1) hi2)) (by rfl) ?_
      exact ⟨by rw [HCC.out]; rfl, below_setRow HP.out (by have := HG.out; omega) _⟩
set_option maxHeartbeats 4000000 in
theorem knoise3_any (A : Option Addr) (c : Nat) (xs : List Int) (w : World) (hS : Sl w A 192 c xs) :
    Calls Tryz.prog 7 #[.int .i64 3, .slice A 192 c] w fun r w' => r = .returned (.tuple #[.agg (arr .u16 256 (noF xs 3)), .bool true]) ∧ Past w w' := by
  obtain ⟨g, hg⟩ : ∃ g, w.heap.size = g := ⟨_, rfl⟩
  obtain ⟨w3, hw3⟩ : ∃ w', ((w.alloc (.cells #[.int .i64 3] 3)).alloc (.cells #[.slice A 192 c] 25)).alloc (.cells (arr .u16 256 fun _ => 0) 30) = w' := ⟨_, rfl⟩
  have hp1 : Past w (w.alloc (.cells #[.int .i64 3] 3)) := (Below.refl _ _).alloc (Nat.le_refl _) _
  have hp3 : Past w w3 := by rw [← hw3]; exact (hp1.alloc hp1.size _).alloc (by simp; omega) _
  have hra : Row w3 g 3 #[.int .i64 3] := by rw [← hw3, ← hg]; exact ((Row.new w _ _).alloc _).alloc _
  have hrb : Row w3 (g + 1) 25 #[.slice A 192 c] := by
    rw [← hw3, ← hg]
    have := (Row.new (w.alloc (.cells #[.int .i64 3] 3)) 25 #[.slice A 192 c]).alloc (.cells (arr .u16 256 fun _ => 0) 30)
    simpa using this
  have hrc : Row w3 (g + 1 + 1) 30 (arr .u16 256 fun _ => 0) := by
    rw [← hw3, ← hg]
    have := Row.new ((w.alloc (.cells #[.int .i64 3] 3)).alloc (.cells #[.slice A 192 c] 25)) 30 (arr .u16 256 fun _ => 0)
    simpa using this
  have hs3 : w3.heap.size = g + 1 + 1 + 1 := by rw [← hw3]; simp [World.size_alloc, hg]
  have HP3 := Lib.hid hp3
  have HR := Lib.hid (And.intro hra (And.intro hrb hrc))
  have HS3 := Lib.hid hs3
  have HW3 := Lib.hid hw3
  have HG := Lib.hid hg
  have HSS := Lib.hid (fun w' (h : Past w w') => hS.past h)
  have HZ := Lib.hid zeroP
  have HA := Lib.hid (arr_one .u16 256 (noF xs 3))
  have HSZ : Hid ((arr .u16 256 fun _ => 0).size = (arr .u16 256 (noF xs 3)).size) := Lib.hid (by rw [arr_size, arr_size])
  have HI := Lib.hid (infP (noF xs 3))
  clear hp1 hp3 hra hrb hrc hs3 hw3 hS hg
  go_enter Tryz.func7, Tryz.ntmps7
  have hz := HZ.out
  go_upto_region 1 with (fail)
  rw [HW3.out]
  try rw [HG.out]
  clear HW3 hz
  have k0 := HR.out.1.cell 0
  have k1 := HR.out.2.1.cell 0
  have HNS : Hid (∀ w, Calls Tryz.prog 15 #[.int .i64 3] w fun r w' => r = .returned (.int .i64 (64 * 3)) ∧ Past w w') := Lib.hid (fun w => (noiseSize_any 3 w (by decide)).mono fun r w' h => ⟨h.1, by rw [h.2]; exact Below.refl _ _⟩)
  have HSK : Hid (∀ w', Past w3 w' → (w'.cell? ⟨g, 0, none⟩ = some (.int .i64 3) ∧ w'.cell? ⟨g + 1, 0, none⟩ = some (.slice A 192 c))) := Lib.hid (fun w' h => ⟨(HR.out.1.past h).cell 0, (HR.out.2.1.past h).cell 0⟩)
  have HPD : Hid (Past w3 w3.drew) := Lib.hid (Past.drewN (Below.refl _ w3) 1)
  clear k0 k1
  refine wp_region_held_drew (S := fun w' => w'.cell? ⟨g, 0, none⟩ = some (.int .i64 3) ∧ w'.cell? ⟨g + 1, 0, none⟩ = some (.slice A 192 c)) (by kernel_rfl) (HSK.out _ HPD.out) (fun hH => ?_)
  refine held_take 0 10 (v := .int .i64 3) rfl rfl (by kernel_rfl) (by kernel_rfl) (by kernel_rfl) (fun _ _ _ h => h) (Or.inl ⟨by kernel_rfl, fun w hSw => by
    have hcell := hSw.1
    go_simp⟩) hH ?_
  (try simp only [List.setIfInBounds_toArray, List.set_cons_zero, List.set_cons_succ])
  refine held_take 1 11 (v := .bool true) rfl rfl (by kernel_rfl) (by kernel_rfl) (by kernel_rfl) (fun _ _ _ h => h) (Or.inl ⟨by kernel_rfl, fun w _ => by go_simp⟩) hH ?_
  (try simp only [List.setIfInBounds_toArray, List.set_cons_zero, List.set_cons_succ])
  refine held_take 2 12 (v := .bool true) rfl rfl (by kernel_rfl) (by kernel_rfl) (by kernel_rfl) (fun _ _ _ h => h) (Or.inl ⟨by kernel_rfl, fun w _ => by kernel_rfl⟩) hH ?_
  (try simp only [List.setIfInBounds_toArray, List.set_cons_zero, List.set_cons_succ])
  refine held_take 3 13 (v := .int .i64 3) rfl rfl (by kernel_rfl) (by kernel_rfl) (by kernel_rfl) (fun _ _ _ h => h) (Or.inl ⟨by kernel_rfl, fun w hSw => by
    have hcell := hSw.1
    go_simp⟩) hH ?_
  (try simp only [List.setIfInBounds_toArray, List.set_cons_zero, List.set_cons_succ])
  refine held_take 4 14 (v := .bool false) rfl rfl (by kernel_rfl) (by kernel_rfl) (by kernel_rfl) (fun _ _ _ h => h) (Or.inl ⟨by kernel_rfl, fun w _ => by go_simp⟩) hH ?_
  (try simp only [List.setIfInBounds_toArray, List.set_cons_zero, List.set_cons_succ])
  refine held_take 5 15 (v := .bool false) rfl rfl (by kernel_rfl) (by kernel_rfl) (by kernel_rfl) (fun _ _ _ h => h) (Or.inl ⟨by kernel_rfl, fun w _ => by kernel_rfl⟩) hH ?_
  (try simp only [List.setIfInBounds_toArray, List.set_cons_zero, List.set_cons_succ])
  refine held_take 6 16 (v := .bool false) rfl rfl (by kernel_rfl) (by kernel_rfl) (by kernel_rfl) (fun _ _ _ h => h) (Or.inl ⟨by kernel_rfl, fun w _ => by kernel_rfl⟩) hH ?_
  (try simp only [List.setIfInBounds_toArray, List.set_cons_zero, List.set_cons_succ])
  refine held_take 7 17 (v := .slice A 192 c) rfl rfl (by kernel_rfl) (by kernel_rfl) (by kernel_rfl) (fun _ _ _ h => h) (Or.inl ⟨by kernel_rfl, fun w hSw => by
    have hcell := hSw.2
    go_simp⟩) hH ?_
  (try simp only [List.setIfInBounds_toArray, List.set_cons_zero, List.set_cons_succ])
  refine held_take 8 18 (v := .int .i64 192) rfl rfl (by kernel_rfl) (by kernel_rfl) (by kernel_rfl) (fun _ _ _ h => h) (Or.inl ⟨by kernel_rfl, fun w _ => by go_simp⟩) hH ?_
  (try simp only [List.setIfInBounds_toArray, List.set_cons_zero, List.set_cons_succ])
  refine held_take 9 19 (v := .int .i64 3) rfl rfl (by kernel_rfl) (by kernel_rfl) (by kernel_rfl) (fun _ _ _ h => h) (Or.inl ⟨by kernel_rfl, fun w hSw => by
    have hcell := hSw.1
    go_simp⟩) hH ?_
  (try simp only [List.setIfInBounds_toArray, List.set_cons_zero, List.set_cons_succ])
  refine wpAnyH_ready (rs := [10]) (by kernel_rfl) (by simp) ?_
  refine AllReadyH.cons rfl (fun K hK => ?_) AllReadyH.nil
  go_simp
  refine (HNS.out w3.drew).mono ?_
  rintro e2 wc2 ⟨rfl, hp⟩
  have HPc2 : Hid (Past w3 wc2) := Lib.hid (HPD.out.trans' hp)
  clear hp
  refine hK.out _ _ (HSK.out _ HPc2.out) (fun hH => ?_)
  clear hK K
  refine held_take 11 21 (v := .bool false) rfl rfl (by kernel_rfl) (by kernel_rfl) (by kernel_rfl) (fun _ _ _ h => h) (Or.inl ⟨by kernel_rfl, fun w _ => by go_simp⟩) hH ?_
  (try simp only [List.setIfInBounds_toArray, List.set_cons_zero, List.set_cons_succ])
  refine held_take 12 22 (v := .bool false) rfl rfl (by kernel_rfl) (by kernel_rfl) (by kernel_rfl) (fun _ _ _ h => h) (Or.inl ⟨by kernel_rfl, fun w _ => by kernel_rfl⟩) hH ?_
  (try simp only [List.setIfInBounds_toArray, List.set_cons_zero, List.set_cons_succ])
  refine wpAnyH_done (by kernel_rfl) ?_ _
  go_simp
  have HPW := HPc2
  clear hH
  generalize wc2 = w4 at *
  have HP4 : Hid (Past w w4) := Lib.hid (HP3.out.trans' HPW.out)
  have HR4 : Hid (Row w4 g 3 #[.int .i64 3] ∧ Row w4 (g + 1) 25 #[.slice A 192 c] ∧ Row w4 (g + 1 + 1) 30 (arr .u16 256 fun _ => 0)) := Lib.hid ⟨HR.out.1.past HPW.out, HR.out.2.1.past HPW.out, HR.out.2.2.past HPW.out⟩
  have HS4 : Hid (g + 1 + 1 + 1 ≤ w4.heap.size) := Lib.hid (by have := HPW.out.size; rw [HS3.out] at this; exact this)
  clear HSK HPD HPW
  go_upto_region 4 with (fail)
  obtain ⟨w5, hw5⟩ : ∃ w', w4.alloc (.cells (arr .u16 256 fun _ => 0) 30) = w' := ⟨_, rfl⟩
  obtain ⟨u, hu⟩ : ∃ u, w4.heap.size = u := ⟨_, rfl⟩
  have HUG : Hid (g + 1 + 1 < u ∧ w.heap.size ≤ u) := Lib.hid (by have h1 := HS4.out; have h2 := HP4.out.size; omega)
  have H0 : Hid (Fx [(g, 3, #[.int .i64 3]), (g + 1, 25, #[.slice A 192 c]), (g + 1 + 1, 30, arr .u16 256 fun _ => 0)] .u16 256 w w5 u 30 fun _ => 0) := Lib.hid (by
    rw [← hw5, ← hu]
    refine ⟨HP4.out.alloc HP4.out.size _, ?_, Row.new _ _ _⟩
    intro x hx
    rcases List.mem_cons.1 hx with rfl | hx
    · exact HR4.out.1.alloc _
    · rcases List.mem_cons.1 hx with rfl | hx
      · exact HR4.out.2.1.alloc _
      · rcases List.mem_cons.1 hx with rfl | hx
        · exact HR4.out.2.2.alloc _
        · cases hx)
  have HW5 := Lib.hid hw5
  have hz := HZ.out
  clear hw5
  go_upto_region 5 with (fail)
  try rw [HW5.out]
  try rw [hu]
  clear HW5 hz hu
  go_wp2_with fail
  go_loopg [25] 256 (fun q s25 wx => ∃ i : Nat, i ≤ 256 ∧ q = 256 - i ∧ s25 = .int .i64 (i : Int) ∧ Hid (∃ F, Fx [(g, 3, #[.int .i64 3]), (g + 1, 25, #[.slice A 192 c]), (g + 1 + 1, 30, arr .u16 256 fun _ => 0)] .u16 256 w wx u 30 F ∧ ∀ j, j < i → F j = noF xs 3 j))
  case atStart => exact ⟨0, Nat.zero_le _, rfl, rfl, Lib.hid ⟨_, H0.out, fun j hj => absurd hj (by omega)⟩⟩
  case round =>
    clear H0
    obtain ⟨i, hi, hq, rfl, HQ⟩ := hrel
    have HGQ := Lib.hid hq
    clear hq
    have hi0 : (0 : Int) ≤ (i : Int) := by omega
    obtain ⟨F, hT, hF⟩ := HQ.out
    by_cases hlt : i < 256
    · have hii : (i : Int) < 256 := by omega
      have HLT := Lib.hid hlt
      have hra := hT.2.1 (g, 3, #[.int .i64 3]) (by simp)
      have hrb := hT.2.1 (g + 1, 25, #[.slice A 192 c]) (by simp)
      have k0 := hra.cell 0
      obtain ⟨p, hp⟩ : ∃ p, 6 * i = p := ⟨_, rfl⟩
      obtain ⟨p2, hp2⟩ : ∃ p2, p + 3 = p2 := ⟨_, rfl⟩
      have hpi : 6 * (i : Int) = (p : Int) := by omega
      have hp2i : (p : Int) + 3 = (p2 : Int) := by omega
      have HWP : Hid (IntKind.i64.wrap (6 * (i : Int)) = (p : Int) ∧ wrap64 (p : Int) = (p : Int) ∧ IntKind.i64.wrap ((p : Int) + 3) = (p2 : Int) ∧ wrap64 (p2 : Int) = (p2 : Int)) := Lib.hid ⟨by rw [IntKind.wrap_i64]; omega, IntWalk.wrap64_in _ (by omega), by rw [IntKind.wrap_i64]; omega, IntWalk.wrap64_in _ (by omega)⟩
      have hcl : ∀ w', Past w w' → w'.cell? ⟨g, 0, none⟩ = some (.int .i64 ((3 : Nat) : Int)) → w'.cell? ⟨g + 1, 0, none⟩ = some (.slice A 192 c) → Calls Tryz.prog 16 #[.int .i64 (p : Int), .pointer (some ⟨g, 0, none⟩), .pointer (some ⟨g + 1, 0, none⟩)] w' fun r w'' => r = .returned (.int .i64 (onesF xs p 3)) ∧ ∃ m, w'' = w'.drewN m :=
        fun w' h h1 h2 => ones_any p 3 g (g + 1) A 192 c xs w' (by decide) (by omega) (HSS.out w' h) (by decide) h1 h2
      have hcl2 : ∀ w', Past w w' → w'.cell? ⟨g, 0, none⟩ = some (.int .i64 ((3 : Nat) : Int)) → w'.cell? ⟨g + 1, 0, none⟩ = some (.slice A 192 c) → Calls Tryz.prog 16 #[.int .i64 (p2 : Int), .pointer (some ⟨g, 0, none⟩), .pointer (some ⟨g + 1, 0, none⟩)] w' fun r w'' => r = .returned (.int .i64 (onesF xs p2 3)) ∧ ∃ m, w'' = w'.drewN m :=
        fun w' h h1 h2 => ones_any p2 3 g (g + 1) A 192 c xs w' (by decide) (by omega) (HSS.out w' h) (by decide) h1 h2
      have r1 := onesF_rng xs p 3
      have r2 := onesF_rng xs p2 3
      have HV : Hid ((onesF xs p 3 - onesF xs p2 3) % 3329 = noF xs 3 i) := Lib.hid (by unfold noF; rw [show 2 * 3 * i = p by omega, hp2])
      have HC1 := Lib.hid hcl
      have HC2 := Lib.hid hcl2
      generalize onesF xs p 3 = v1 at *
      generalize onesF xs p2 3 = v2 at *
      obtain ⟨dv, hdv⟩ : ∃ d, v1 - v2 = d := ⟨_, rfl⟩
      have HWD : Hid (IntKind.i64.wrap (v1 - v2) = dv ∧ wrap64 dv = dv) := Lib.hid ⟨by rw [IntKind.wrap_i64]; omega, IntWalk.wrap64_in _ (by omega)⟩
      rw [hdv] at HV
      have HRD := Lib.hid (fun w => reduce_any dv w (by omega) (by omega))
      rw [HV.out] at HRD
      obtain ⟨V, hVV⟩ : ∃ V, noF xs 3 i = V := ⟨_, rfl⟩
      rw [hVV] at HRD
      have HV2 : Hid (V = noF xs 3 i) := Lib.hid hVV.symm
      have HII := Lib.hid (And.intro hi0 hii)
      have HPP : Hid (IntKind.i64.wrap (p2 : Int) = (p2 : Int)) := Lib.hid (by rw [IntKind.wrap_i64]; omega)
      clear hVV
      have HT := Lib.hid (And.intro hT hF)
      have HRR := Lib.hid (And.intro hra hrb)
      clear hT hF hra hrb hcl hcl2 hlt hi hp hp2 r1 r2 hdv HQ
      obtain ⟨hw1, hw2, hw3, hw4⟩ := HWP.out
      obtain ⟨hw5, hw6⟩ := HWD.out
      go_upto_region 9 with (fail)
      have HTP : Hid (∀ w', Past wr w' → Fx [(g, 3, #[.int .i64 3]), (g + 1, 25, #[.slice A 192 c]), (g + 1 + 1, 30, arr .u16 256 fun _ => 0)] .u16 256 w w' u 30 F) := Lib.hid (fun w' h => ⟨HT.out.1.1.trans' h, fun x hx => (HT.out.1.2.1 x hx).past h, Row.past HT.out.1.2.2 h⟩)
      have HSK : Hid (∀ w', Past wr w' → w'.cell? ⟨g, 0, none⟩ = some (.int .i64 3)) := Lib.hid (fun w' h => (HRR.out.1.past h).cell 0)
      have HD1 : Hid (∀ w', Past wr w' → Calls Tryz.prog 16 #[.int .i64 (p : Int), .pointer (some ⟨g, 0, none⟩), .pointer (some ⟨g + 1, 0, none⟩)] w' fun r w'' => r = .returned (.int .i64 v1) ∧ Past w' w'') := Lib.hid (fun w' h => (HC1.out w' (HT.out.1.1.trans' h) ((HRR.out.1.past h).cell 0) ((HRR.out.2.past h).cell 0)).mono fun r w'' hh => ⟨hh.1, by obtain ⟨m, hm⟩ := hh.2; rw [hm]; exact Past.drewN (Below.refl _ _) m⟩)
      have HD2 : Hid (∀ w', Past wr w' → Calls Tryz.prog 16 #[.int .i64 (p2 : Int), .pointer (some ⟨g, 0, none⟩), .pointer (some ⟨g + 1, 0, none⟩)] w' fun r w'' => r = .returned (.int .i64 v2) ∧ Past w' w'') := Lib.hid (fun w' h => (HC2.out w' (HT.out.1.1.trans' h) ((HRR.out.1.past h).cell 0) ((HRR.out.2.past h).cell 0)).mono fun r w'' hh => ⟨hh.1, by obtain ⟨m, hm⟩ := hh.2; rw [hm]; exact Past.drewN (Below.refl _ _) m⟩)
      have HD3 : Hid (∀ w', Past wr w' → Calls Tryz.prog 18 #[.int .i64 dv] w' fun r w'' => r = .returned (.int .u16 V) ∧ Past w' w'') := Lib.hid (fun w' _ => (HRD.out w').mono fun r w'' hh => ⟨hh.1, by rw [hh.2]; exact Below.refl _ _⟩)
      have HPD : Hid (Past wr wr.drew) := Lib.hid (Past.drewN (Below.refl _ wr) 1)
      clear hw1 hw2 hw3 hw4 hw5 hw6
      refine wp_region_held_drew (S := fun w' => w'.cell? ⟨g, 0, none⟩ = some (.int .i64 3)) (by kernel_rfl) (HSK.out _ HPD.out) (fun hH => ?_)
      refine held_take 0 32 (v := .int .i64 (i : Int)) rfl rfl (by kernel_rfl) (by kernel_rfl) (by kernel_rfl) (fun _ _ _ h => h) (Or.inl ⟨by kernel_rfl, fun w _ => by kernel_rfl⟩) hH ?_
      (try simp only [List.setIfInBounds_toArray, List.set_cons_zero, List.set_cons_succ])
      refine held_take 1 33 (v := .func (.func 16) #[] #[.pointer (some ⟨g, 0, none⟩), .pointer (some ⟨g + 1, 0, none⟩)]) rfl rfl (by kernel_rfl) (by kernel_rfl) (by kernel_rfl) (fun _ _ _ h => h) (Or.inl ⟨by kernel_rfl, fun w _ => by kernel_rfl⟩) hH ?_
      (try simp only [List.setIfInBounds_toArray, List.set_cons_zero, List.set_cons_succ])
      refine held_take 2 34 (v := .int .i64 (p : Int)) rfl rfl (by kernel_rfl) (by kernel_rfl) (by kernel_rfl) (fun _ _ _ h => h) (Or.inl ⟨by kernel_rfl, fun w _ => by kernel_rfl⟩) hH ?_
      (try simp only [List.setIfInBounds_toArray, List.set_cons_zero, List.set_cons_succ])
      refine held_take 4 36 (v := .func (.func 16) #[] #[.pointer (some ⟨g, 0, none⟩), .pointer (some ⟨g + 1, 0, none⟩)]) rfl rfl (by kernel_rfl) (by kernel_rfl) (by kernel_rfl) (fun _ _ _ h => h) (Or.inl ⟨by kernel_rfl, fun w _ => by kernel_rfl⟩) hH ?_
      (try simp only [List.setIfInBounds_toArray, List.set_cons_zero, List.set_cons_succ])
      refine held_take 5 37 (v := .int .i64 (p : Int)) rfl rfl (by kernel_rfl) (by kernel_rfl) (by kernel_rfl) (fun _ _ _ h => h) (Or.inl ⟨by kernel_rfl, fun w _ => by kernel_rfl⟩) hH ?_
      (try simp only [List.setIfInBounds_toArray, List.set_cons_zero, List.set_cons_succ])
      refine held_take 6 38 (v := .int .i64 3) rfl rfl (by kernel_rfl) (by kernel_rfl) (by kernel_rfl) (fun _ _ _ h => h) (Or.inl ⟨by kernel_rfl, fun w hSw => by
        have hcell := hSw
        go_simp⟩) hH ?_
      (try simp only [List.setIfInBounds_toArray, List.set_cons_zero, List.set_cons_succ])
      refine held_take 7 39 (v := .int .i64 (p2 : Int)) rfl rfl (by kernel_rfl) (by kernel_rfl) (by kernel_rfl) (fun _ _ _ h => h) (Or.inl ⟨by kernel_rfl, fun w _ => by obtain ⟨hx1, hx2, hx3, hx4⟩ := HWP.out; have hx7 := HPP.out; go_simp⟩) hH ?_
      (try simp only [List.setIfInBounds_toArray, List.set_cons_zero, List.set_cons_succ])
      refine wpAnyH_ready (rs := [3]) (by kernel_rfl) (by simp) ?_
      refine AllReadyH.cons (by simp only [List.getElem?_toArray, List.getElem?_cons_succ, List.getElem?_cons_zero]; rfl) (fun K hK => ?_) AllReadyH.nil
      go_simp
      refine (HD1.out _ HPD.out).mono ?_
      rintro r3 wc3 ⟨rfl, hp⟩
      have HPc3 : Hid (Past wr wc3) := Lib.hid (HPD.out.trans' hp)
      clear hp
      refine hK.out _ _ (HSK.out _ HPc3.out) (fun hH => ?_)
      clear hK K
      refine wpAnyH_ready (rs := [8]) (by kernel_rfl) (by simp) ?_
      refine AllReadyH.cons (by simp only [List.getElem?_toArray, List.getElem?_cons_succ, List.getElem?_cons_zero]; rfl) (fun K hK => ?_) AllReadyH.nil
      go_simp
      refine (HD2.out _ HPc3.out).mono ?_
      rintro r8 wc8 ⟨rfl, hp⟩
      have HPc8 : Hid (Past wr wc8) := Lib.hid (HPc3.out.trans' hp)
      clear hp
      refine hK.out _ _ (HSK.out _ HPc8.out) (fun hH => ?_)
      clear hK K
      refine held_take 9 41 (v := .int .i64 dv) rfl rfl (by kernel_rfl) (by kernel_rfl) (by kernel_rfl) (fun _ _ _ h => h) (Or.inl ⟨by kernel_rfl, fun w _ => by obtain ⟨hx1, hx2⟩ := HWD.out; go_simp⟩) hH ?_
      (try simp only [List.setIfInBounds_toArray, List.set_cons_zero, List.set_cons_succ])
      refine wpAnyH_ready (rs := [10]) (by kernel_rfl) (by simp) ?_
      refine AllReadyH.cons (by simp only [List.getElem?_toArray, List.getElem?_cons_succ, List.getElem?_cons_zero]; rfl) (fun K hK => ?_) AllReadyH.nil
      go_simp
      refine (HD3.out _ HPc8.out).mono ?_
      rintro r10 wc10 ⟨rfl, hp⟩
      have HPc10 : Hid (Past wr wc10) := Lib.hid (HPc8.out.trans' hp)
      clear hp
      refine hK.out _ _ (HSK.out _ HPc10.out) (fun hH => ?_)
      clear hK K
      refine held_take 11 43 (v := .pointer (some ⟨u, i, none⟩)) rfl rfl (by kernel_rfl) (by kernel_rfl) (by kernel_rfl) (fun _ _ _ h => h) (Or.inl ⟨by kernel_rfl, fun w _ => by have hx1 := HII.out.1; have hx2 := HII.out.2; go_simp⟩) hH ?_
      (try simp only [List.setIfInBounds_toArray, List.set_cons_zero, List.set_cons_succ])
      refine wpAnyH_ready (rs := [12]) (by kernel_rfl) (by simp) ?_
      refine AllReadyH.cons (by simp only [List.getElem?_toArray, List.getElem?_cons_succ, List.getElem?_cons_zero]; rfl) (fun K hK => ?_) AllReadyH.nil
      have hTW := HTP.out _ HPc10.out
      have hc1 := hTW.2.2.at i HLT.out
      have hf1 := hTW.2.2.fr i
      have hT1 := hTW.put HUG.out.2 (by intro x hx; have := HUG.out.1; simp at hx; rcases hx with rfl | rfl | rfl <;> simp <;> omega) i HLT.out V
      have HT2 : Hid (∃ F', Fx [(g, 3, #[.int .i64 3]), (g + 1, 25, #[.slice A 192 c]), (g + 1 + 1, 30, arr .u16 256 fun _ => 0)] .u16 256 w (wc10.setCell ⟨u, i, none⟩ (.int .u16 V)) u 30 F' ∧ ∀ j, j < i + 1 → F' j = noF xs 3 j) := Lib.hid ⟨_, hT1, fun j hj => by
        by_cases e1 : j = i
        · subst e1; rw [upd_at, HV2.out]
        · rw [upd_ne _ _ e1]; exact HT.out.2 j (by omega)⟩
      have HS2 : Hid ((wc10.setCell ⟨u, i, none⟩ (.int .u16 V)).cell? ⟨g, 0, none⟩ = some (.int .i64 3)) := Lib.hid ((hT1.2.1 (g, 3, #[.int .i64 3]) (by simp)).cell 0)
      clear hTW hT1
      go_simp
      refine hK.out _ _ HS2.out (fun hH => ?_)
      clear hK K hc1 hf1
      refine wpAnyH_done (by kernel_rfl) ?_ _
      go_simp
      go_wp2_with fail
      go_roundg (256 - (i + 1))
      case rel => exact ⟨i + 1, HLT.out, rfl, by go_num, HT2⟩
      case measure => have := HGQ.out; have := HLT.out; omega
    · obtain rfl : i = 256 := by omega
      have he : arr .u16 256 F = arr .u16 256 (noF xs 3) := arr_ext fun j hj => hF j (by omega)
      have hr2 := hT.2.2
      have hr1 := hT.2.1 (g + 1 + 1, 30, arr .u16 256 fun _ => 0) (by simp)
      unfold LM at hr2
      rw [he] at hr2
      have hi2 := HI.out
      have hs2 := HSZ.out
      have ho2 := HA.out
      have HP := Lib.hid hT.1
      clear hT hF he HQ
      generalize hcc : arr .u16 256 (noF xs 3) = c2 at *
      have HCC := Lib.hid hcc
      clear hcc
      generalize arr .u16 256 (fun _ => 0) = c1 at *
      simp only at hr1
      go_wp2_with (first | (refine wpList_load_row rfl 30 _ rfl u rfl _ _ (0, 0) _ hr2 Tryz.underlying30 rfl hi2 ?_) | (refine wpList_store_row rfl 30 _ _ rfl (g + 1 + 1) _ rfl rfl _ _ hr1 hi2 hs2 ho2 ?_))
      refine bodyPost_ret (results_cr rfl _ _ ⟨g + 1 + 1, 0, none⟩ _ rfl (load_poly _ (g + 1 + 1) _ (setRow_heap _ (g + 1 + 1) _ _ _ _ hr1) hi2)) (by rfl) ?_
      exact ⟨by rw [HCC.out]; rfl, below_setRow HP.out (by have := HG.out; omega) _⟩
end Go.Proofs.YtalhdalmafhofaaGreatDoor
