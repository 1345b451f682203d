/- The walk of the law ParamsApart. -/
import Derived.Test.YtnjoccmjembppaaDoorLa13A
namespace Go.Proofs.YtnjoccmjembppaaDoor.paramsApart
open Go.RowKit
set_option linter.unusedVariables false

set_option maxHeartbeats 16000000 in
set_option maxRecDepth 100000 in
theorem walk_00 (a b ka kb : Int) (w : World) (hma : a.tmod 25 = ka) (hmb : b.tmod 25 = kb) (ha0 : 0 ≤ a) (ha1 : a ≤ 255) (hb0 : 0 ≤ b) (hb1 : b ≤ 255) (hka : 0 ≤ ka ∧ ka < 25) (hkb : 0 ≤ kb ∧ kb < 25) (hcz : ¬ (row13 (1 + ka)).cose = 0) (htz : ¬ (row13 (1 + ka)).typ = 0) (hG : Glob13 w) :
    Calls Tryd.prog 6 #[.int .u8 a, .int .u8 b] w fun e w' => e = .returned (.bool true) ∧ Past w w' := by
  have HG := Lib.hid hG
  have hia : 1 ≤ 1 + ka ∧ 1 + ka ≤ 25 := by omega
  have hib : 1 ≤ 1 + kb ∧ 1 + kb ≤ 25 := by omega
  have hm2 : a % 25 = ka := by rw [← hma, Int.tmod_eq_emod_of_nonneg ha0]
  have hm3 : b % 25 = kb := by rw [← hmb, Int.tmod_eq_emod_of_nonneg hb0]
  have hw1 : IntKind.i64.wrap (1 + ka) = 1 + ka := by rw [IntKind.wrap_i64]; omega
  have hw2 : IntKind.i64.wrap (1 + kb) = 1 + kb := by rw [IntKind.wrap_i64]; omega
  have HNS := Lib.hid (name_same hia hib)
  have HCS := Lib.hid (cose_same hia hib hcz)
  have HTS := Lib.hid (type_same hia hib htz)
  have HFI : Hid (firstA (pName (row13 (1 + ka)).name) = 1 + ka) := Lib.hid (first_one hia.1 hia.2 (by unfold pName; simp) (paramsFinds.name_one _))
  have HAA : Hid ((row13 (1 + ka)).alg = 1 + ka ∧ (row13 (1 + kb)).alg = 1 + kb) := Lib.hid ⟨alg_in hia, alg_in hib⟩
  have HMEM : Hid ((row13 (1 + ka)).alg ∈ algs (pText (row13 (1 + ka)).text) 25) := Lib.hid (by
    rw [alg_in hia]
    unfold algs
    exact List.mem_filter.2 ⟨List.mem_map.2 ⟨ka.toNat, List.mem_range.2 (by omega), by omega⟩, by unfold pText; simp⟩)
  have HGE : ∀ k : Int, 1 ≤ k ∧ k ≤ 25 → Hid (∀ w e w', GetP k w e w' → ∃ A c, e = .returned (.tuple #[.agg (setC (row13 k) (.slice A (oidL k).length c)), .bool true]) ∧ SlK .u32 w' A (oidL k).length c (oidL k) ∧ Past w w') := fun k hk => Lib.hid (fun w e w' h => by
    obtain ⟨h, hp⟩ := h
    rw [if_pos hk] at h
    obtain ⟨A, c, e1, e2⟩ := h
    exact ⟨A, c, e1, e2, hp⟩)
  have HGA := HGE _ hia
  have HGB := HGE _ hib
  have HGN := Lib.hid (fun w hG => byName_any (row13 (1 + ka)).name w hG)
  rw [HFI.out] at HGN
  have HBO := Lib.hid (fun A c w hG h => byOid_any A (oidL (1 + ka)).length c (oidL (1 + ka)) w hG h (oid_in hia) (by have := (oid_some hia).2.2.2.1; omega))
  rw [oid_text hia] at HBO
  have HCO := Lib.hid (fun A c w h => contains_any A c (algs (pText (row13 (1 + ka)).text) 25) (row13 (1 + ka)).alg w (Nat.le_trans (algs_len _ 25) (by decide)) h HMEM.out)
  unfold IntsP at HBO
  have HG1 := Lib.hid (fun w hG => get_any (1 + ka) w hG)
  have HG2 := Lib.hid (fun w hG => get_any (1 + kb) w hG)
  have hal : ((row13 (1 + ka)).alg == (row13 (1 + kb)).alg) = decide (1 + ka = 1 + kb) := by rw [HAA.out.1, HAA.out.2]; rfl
  have HZ1 := Lib.hid hcz
  have HZ2 := Lib.hid htz
  clear HGE HMEM HFI hia hib hka hkb HAA hcz htz
  rw [← hal] at HNS HCS HTS
  clear hal
  generalize row13 (1 + ka) = x at *
  generalize row13 (1 + kb) = y at *
  generalize oidL (1 + ka) = l at *
  generalize oidL (1 + kb) = l2 at *
  obtain ⟨n, hn⟩ : ∃ n, l.length = n := ⟨_, rfl⟩
  obtain ⟨n2, hn2⟩ : ∃ n, l2.length = n := ⟨_, rfl⟩
  rw [hn] at HGA HBO
  rw [hn2] at HGB
  generalize algs (pText x.text) 25 = LT at *
  obtain ⟨ja, hja⟩ : ∃ j, 1 + ka = j := ⟨_, rfl⟩
  obtain ⟨jb, hjb⟩ : ∃ j, 1 + kb = j := ⟨_, rfl⟩
  rw [hja] at HGA HGN HG1 hw1
  rw [hjb] at HGB HG2 hw2
  have hja2 : IntKind.i64.wrap (1 + ka) = ja := by rw [hja]; exact hw1
  have hjb2 : IntKind.i64.wrap (1 + kb) = jb := by rw [hjb]; exact hw2
  clear hn hn2 hG
  go_enter Tryd.func6, Tryd.ntmps6
  go_wp2_with fail
  refine (awake13 w HG.out).mono ?_
  rintro e w1 ⟨rfl, hp⟩
  have H1 := Lib.hid hp
  clear hp
  go_wp2_with fail
  refine (HG1.out w1 (HG.out.past H1.out)).mono ?_
  intro e w2 he
  obtain ⟨A, c, rfl, hs, hp⟩ := HGA.out _ _ _ he
  obtain ⟨u1, hu⟩ : ∃ g, w2.heap.size = g := ⟨_, rfl⟩
  obtain ⟨w3, hw⟩ : ∃ w', w2.alloc (.cells (setC x (.slice A n c)) 26) = w' := ⟨_, rfl⟩
  have hpa : Past w2 w3 := by rw [← hw]; exact past_alloc13 _ _
  have hrowu1 : Row w3 u1 26 (setC x (.slice A n c)) := by rw [← hw, ← hu]; exact Row.new _ _ _
  have HW := Lib.hid hw
  have HU := Lib.hid hu
  clear hw hu
  go_upto_region 4 with (fail)
  rw [HW.out]
  try rw [HU.out]
  clear HW HU
  have H3 : Hid (Past w w3) := Lib.hid ((H1.out.trans' hp).trans' hpa)
  have HS3 := Lib.hid (hs.past hpa)
  have HR1 := Lib.hid hrowu1
  clear hp hs hpa hrowu1 he H1 HG1
  go_wp2_with fail
  refine (HG2.out w3 (HG.out.past H3.out)).mono ?_
  intro e w4 he
  obtain ⟨A2, c2, rfl, hs, hp⟩ := HGB.out _ _ _ he
  obtain ⟨u2, hu⟩ : ∃ g, w4.heap.size = g := ⟨_, rfl⟩
  obtain ⟨w5, hw⟩ : ∃ w', w4.alloc (.cells (setC y (.slice A2 n2 c2)) 26) = w' := ⟨_, rfl⟩
  have hpa : Past w4 w5 := by rw [← hw]; exact past_alloc13 _ _
  have hrowu2 : Row w5 u2 26 (setC y (.slice A2 n2 c2)) := by rw [← hw, ← hu]; exact Row.new _ _ _
  have HW := Lib.hid hw
  have HU := Lib.hid hu
  clear hw hu
  go_upto_region 5 with (fail)
  rw [HW.out]
  try rw [HU.out]
  clear HW HU
  have H35 : Hid (Past w3 w5) := Lib.hid (hp.trans' hpa)
  have HR2 := Lib.hid hrowu2
  have k12 := (HR1.out.past H35.out).cell 2
  have k10 := (HR1.out.past H35.out).cell 0
  have k20 := hrowu2.cell 0
  clear hp hs hpa hrowu2 he HG2
  go_wp2_with fail
  refine (HGN.out w5 (HG.out.past (H3.out.trans' H35.out))).mono ?_
  intro e w6 he
  obtain ⟨A3, c3, rfl, hs, hp⟩ := HGA.out _ _ _ he
  obtain ⟨u3, hu⟩ : ∃ g, w6.heap.size = g := ⟨_, rfl⟩
  obtain ⟨w9, hw⟩ : ∃ w', w6.alloc (.cells (setC x (.slice A3 n c3)) 26) = w' := ⟨_, rfl⟩
  have hpa : Past w6 w9 := by rw [← hw]; exact past_alloc13 _ _
  have hrowu3 : Row w9 u3 26 (setC x (.slice A3 n c3)) := by rw [← hw, ← hu]; exact Row.new _ _ _
  have HW := Lib.hid hw
  have HU := Lib.hid hu
  clear hw hu
  go_upto_region 8 with (fail)
  rw [HW.out]
  try rw [HU.out]
  clear HW HU
  have H59 : Hid (Past w5 w9) := Lib.hid (hp.trans' hpa)
  have HR3 := Lib.hid hrowu3
  clear k12 k10 k20
  have k10 := (HR1.out.past (H35.out.trans' H59.out)).cell 0
  have k20 := (HR2.out.past H59.out).cell 0
  clear hp hs hpa hrowu3 he HGN
  go_upto_region 9 with (fail)
  have HPW : Hid (Past w w9) := Lib.hid (H3.out.trans' (H35.out.trans' H59.out))
  have HSL : Hid (SlK .u32 w9 A n c l) := Lib.hid (HS3.out.past (H35.out.trans' H59.out))
  have HSK : Hid (∀ w', Past w9 w' → Sa u1 u2 u3 x y (.slice A n c) w') := Lib.hid (fun w' h => Sa.of (HR1.out.past ((H35.out.trans' H59.out).trans' h)) (HR2.out.past (H59.out.trans' h)) (HR3.out.past h))
  clear k10 k20 H3 H35 H59 HR1 HR2 HR3 HS3
  skip
  generalize (x.alg == y.alg) = bs at *
  have hns := HNS.out
  have hcs := HCS.out
  have hts := HTS.out
  have hcz := HZ1.out
  have htz := HZ2.out
  have hcb : (x.cose == 0) = false := by simp [hcz]
  have htb : (x.typ == 0) = false := by simp [htz]
  have hcd : decide (x.cose = 0) = false := by simp [hcz]
  have htd : decide (x.typ = 0) = false := by simp [htz]
  have HPD : Hid (Past w9 w9.drew) := Lib.hid (Past.drewN (Below.refl _ w9) 1)
  have hU : undef = Value.tuple #[] := rfl
  clear hcz htz
  refine wp_region_held_drew (S := Sa u1 u2 u3 x y (.slice A n c)) (by kernel_rfl) (HSK.out _ HPD.out) (fun hH => ?_)
  refine held_take 0 47 (v := .bool true) rfl rfl (by kernel_rfl) (by kernel_rfl) (by kernel_rfl) (fun _ _ _ h => h) (Or.inl ⟨by kernel_rfl, fun w _ => by first | kernel_rfl | go_simp⟩) hH ?_
  simp only [List.setIfInBounds_toArray, List.set_cons_zero, List.set_cons_succ]
  refine held_take 1 48 (v := .bool true) rfl rfl (by kernel_rfl) (by kernel_rfl) (by kernel_rfl) (fun _ _ _ h => h) (Or.inl ⟨by kernel_rfl, fun w _ => by first | kernel_rfl | go_simp⟩) hH ?_
  simp only [List.setIfInBounds_toArray, List.set_cons_zero, List.set_cons_succ]
  refine held_take 2 49 (v := .pointer (some ⟨u3, 0, none⟩)) rfl rfl (by kernel_rfl) (by kernel_rfl) (by kernel_rfl) (fun _ _ _ h => h) (Or.inl ⟨by kernel_rfl, fun w _ => by first | kernel_rfl | go_simp⟩) hH ?_
  simp only [List.setIfInBounds_toArray, List.set_cons_zero, List.set_cons_succ]
  refine held_take 3 50 (v := .int .i64 x.alg) rfl rfl (by kernel_rfl) (by kernel_rfl) (by kernel_rfl) (fun _ _ _ h => h) (Or.inl ⟨by kernel_rfl, fun w hSw => by
    have hcell := hSw.c0
    go_simp⟩) hH ?_
  simp only [List.setIfInBounds_toArray, List.set_cons_zero, List.set_cons_succ]
  refine held_take 4 51 (v := .pointer (some ⟨u1, 0, none⟩)) rfl rfl (by kernel_rfl) (by kernel_rfl) (by kernel_rfl) (fun _ _ _ h => h) (Or.inl ⟨by kernel_rfl, fun w _ => by first | kernel_rfl | go_simp⟩) hH ?_
  simp only [List.setIfInBounds_toArray, List.set_cons_zero, List.set_cons_succ]
  refine held_take 5 52 (v := .int .i64 x.alg) rfl rfl (by kernel_rfl) (by kernel_rfl) (by kernel_rfl) (fun _ _ _ h => h) (Or.inl ⟨by kernel_rfl, fun w hSw => by
    have hcell := hSw.a0
    go_simp⟩) hH ?_
  simp only [List.setIfInBounds_toArray, List.set_cons_zero, List.set_cons_succ]
  refine held_take 6 53 (v := .bool true) rfl rfl (by kernel_rfl) (by kernel_rfl) (by kernel_rfl) (fun _ _ _ h => h) (Or.inl ⟨by kernel_rfl, fun w _ => by go_simp⟩) hH ?_
  simp only [List.setIfInBounds_toArray, List.set_cons_zero, List.set_cons_succ]
  refine held_take 7 54 (v := .bool true) rfl rfl (by kernel_rfl) (by kernel_rfl) (by kernel_rfl) (fun _ _ _ h => h) (Or.inl ⟨by kernel_rfl, fun w _ => by first | kernel_rfl | go_simp⟩) hH ?_
  simp only [List.setIfInBounds_toArray, List.set_cons_zero, List.set_cons_succ]
  refine held_take 8 55 (v := .bool true) rfl rfl (by kernel_rfl) (by kernel_rfl) (by kernel_rfl) (fun _ _ _ h => h) (Or.inl ⟨by kernel_rfl, fun w _ => by first | kernel_rfl | go_simp⟩) hH ?_
  simp only [List.setIfInBounds_toArray, List.set_cons_zero, List.set_cons_succ]
  refine held_take 9 56 (v := .pointer (some ⟨u1, 2, none⟩)) rfl rfl (by kernel_rfl) (by kernel_rfl) (by kernel_rfl) (fun _ _ _ h => h) (Or.inl ⟨by kernel_rfl, fun w _ => by first | kernel_rfl | go_simp⟩) hH ?_
  simp only [List.setIfInBounds_toArray, List.set_cons_zero, List.set_cons_succ]
  refine held_take 10 57 (v := .string x.name) rfl rfl (by kernel_rfl) (by kernel_rfl) (by kernel_rfl) (fun _ _ _ h => h) (Or.inl ⟨by kernel_rfl, fun w hSw => by
    have hcell := hSw.a2
    go_simp⟩) hH ?_
  simp only [List.setIfInBounds_toArray, List.set_cons_zero, List.set_cons_succ]
  refine held_take 11 58 (v := .pointer (some ⟨u2, 2, none⟩)) rfl rfl (by kernel_rfl) (by kernel_rfl) (by kernel_rfl) (fun _ _ _ h => h) (Or.inl ⟨by kernel_rfl, fun w _ => by first | kernel_rfl | go_simp⟩) hH ?_
  simp only [List.setIfInBounds_toArray, List.set_cons_zero, List.set_cons_succ]
  refine held_take 12 59 (v := .string y.name) rfl rfl (by kernel_rfl) (by kernel_rfl) (by kernel_rfl) (fun _ _ _ h => h) (Or.inl ⟨by kernel_rfl, fun w hSw => by
    have hcell := hSw.b2
    go_simp⟩) hH ?_
  simp only [List.setIfInBounds_toArray, List.set_cons_zero, List.set_cons_succ]
  refine held_take 13 60 (v := .bool bs) rfl rfl (by kernel_rfl) (by kernel_rfl) (by kernel_rfl) (fun _ _ _ h => h) (Or.inl ⟨by kernel_rfl, fun w _ => by go_simp⟩) hH ?_
  simp only [List.setIfInBounds_toArray, List.set_cons_zero, List.set_cons_succ]
  refine held_take 14 61 (v := .bool bs) rfl rfl (by kernel_rfl) (by kernel_rfl) (by kernel_rfl) (fun _ _ _ h => h) (Or.inl ⟨by kernel_rfl, fun w _ => by first | kernel_rfl | go_simp⟩) hH ?_
  simp only [List.setIfInBounds_toArray, List.set_cons_zero, List.set_cons_succ]
  refine held_take 15 62 (v := .bool true) rfl rfl (by kernel_rfl) (by kernel_rfl) (by kernel_rfl) (fun _ _ _ h => h) (Or.inl ⟨by kernel_rfl, fun w _ => by go_simp⟩) hH ?_
  simp only [List.setIfInBounds_toArray, List.set_cons_zero, List.set_cons_succ]
  refine held_take 16 63 (v := .bool true) rfl rfl (by kernel_rfl) (by kernel_rfl) (by kernel_rfl) (fun _ _ _ h => h) (Or.inl ⟨by kernel_rfl, fun w _ => by first | kernel_rfl | go_simp⟩) hH ?_
  simp only [List.setIfInBounds_toArray, List.set_cons_zero, List.set_cons_succ]
  refine held_take 17 64 (v := .bool true) rfl rfl (by kernel_rfl) (by kernel_rfl) (by kernel_rfl) (fun _ _ _ h => h) (Or.inl ⟨by kernel_rfl, fun w _ => by first | kernel_rfl | go_simp⟩) hH ?_
  simp only [List.setIfInBounds_toArray, List.set_cons_zero, List.set_cons_succ]
  refine held_take 18 65 (v := .pointer (some ⟨u1, 8, none⟩)) rfl rfl (by kernel_rfl) (by kernel_rfl) (by kernel_rfl) (fun _ _ _ h => h) (Or.inl ⟨by kernel_rfl, fun w _ => by first | kernel_rfl | go_simp⟩) hH ?_
  simp only [List.setIfInBounds_toArray, List.set_cons_zero, List.set_cons_succ]
  refine held_take 19 66 (v := .int .i64 x.cose) rfl rfl (by kernel_rfl) (by kernel_rfl) (by kernel_rfl) (fun _ _ _ h => h) (Or.inl ⟨by kernel_rfl, fun w hSw => by
    have hcell := hSw.a8
    go_simp⟩) hH ?_
  simp only [List.setIfInBounds_toArray, List.set_cons_zero, List.set_cons_succ]
  refine held_take 20 67 (v := .bool false) rfl rfl (by kernel_rfl) (by kernel_rfl) (by kernel_rfl) (fun _ _ _ h => h) (Or.inl ⟨by kernel_rfl, fun w _ => by go_simp⟩) hH ?_
  simp only [List.setIfInBounds_toArray, List.set_cons_zero, List.set_cons_succ]
  refine held_take 21 68 (v := .bool false) rfl rfl (by kernel_rfl) (by kernel_rfl) (by kernel_rfl) (fun _ _ _ h => h) (Or.inl ⟨by kernel_rfl, fun w _ => by first | kernel_rfl | go_simp⟩) hH ?_
  simp only [List.setIfInBounds_toArray, List.set_cons_zero, List.set_cons_succ]
  refine held_take 22 69 (v := .pointer (some ⟨u1, 8, none⟩)) rfl rfl (by kernel_rfl) (by kernel_rfl) (by kernel_rfl) (fun _ _ _ h => h) (Or.inl ⟨by kernel_rfl, fun w _ => by first | kernel_rfl | go_simp⟩) hH ?_
  simp only [List.setIfInBounds_toArray, List.set_cons_zero, List.set_cons_succ]
  refine held_take 23 70 (v := .int .i64 x.cose) rfl rfl (by kernel_rfl) (by kernel_rfl) (by kernel_rfl) (fun _ _ _ h => h) (Or.inl ⟨by kernel_rfl, fun w hSw => by
    have hcell := hSw.a8
    go_simp⟩) hH ?_
  simp only [List.setIfInBounds_toArray, List.set_cons_zero, List.set_cons_succ]
  refine held_take 24 71 (v := .pointer (some ⟨u2, 8, none⟩)) rfl rfl (by kernel_rfl) (by kernel_rfl) (by kernel_rfl) (fun _ _ _ h => h) (Or.inl ⟨by kernel_rfl, fun w _ => by first | kernel_rfl | go_simp⟩) hH ?_
  simp only [List.setIfInBounds_toArray, List.set_cons_zero, List.set_cons_succ]
  refine held_take 25 72 (v := .int .i64 y.cose) rfl rfl (by kernel_rfl) (by kernel_rfl) (by kernel_rfl) (fun _ _ _ h => h) (Or.inl ⟨by kernel_rfl, fun w hSw => by
    have hcell := hSw.b8
    go_simp⟩) hH ?_
  simp only [List.setIfInBounds_toArray, List.set_cons_zero, List.set_cons_succ]
  refine held_take 26 73 (v := .bool bs) rfl rfl (by kernel_rfl) (by kernel_rfl) (by kernel_rfl) (fun _ _ _ h => h) (Or.inl ⟨by kernel_rfl, fun w _ => by go_simp⟩) hH ?_
  simp only [List.setIfInBounds_toArray, List.set_cons_zero, List.set_cons_succ]
  refine held_take 27 74 (v := .bool bs) rfl rfl (by kernel_rfl) (by kernel_rfl) (by kernel_rfl) (fun _ _ _ h => h) (Or.inl ⟨by kernel_rfl, fun w _ => by first | kernel_rfl | go_simp⟩) hH ?_
  simp only [List.setIfInBounds_toArray, List.set_cons_zero, List.set_cons_succ]
  refine held_take 28 75 (v := .bool true) rfl rfl (by kernel_rfl) (by kernel_rfl) (by kernel_rfl) (fun _ _ _ h => h) (Or.inl ⟨by kernel_rfl, fun w _ => by go_simp⟩) hH ?_
  simp only [List.setIfInBounds_toArray, List.set_cons_zero, List.set_cons_succ]
  refine held_take 29 76 (v := .bool true) rfl rfl (by kernel_rfl) (by kernel_rfl) (by kernel_rfl) (fun _ _ _ h => h) (Or.inl ⟨by kernel_rfl, fun w _ => by first | kernel_rfl | go_simp⟩) hH ?_
  simp only [List.setIfInBounds_toArray, List.set_cons_zero, List.set_cons_succ]
  refine held_take 30 77 (v := .bool true) rfl rfl (by kernel_rfl) (by kernel_rfl) (by kernel_rfl) (fun _ _ _ h => h) (Or.inl ⟨by kernel_rfl, fun w _ => by first | kernel_rfl | go_simp⟩) hH ?_
  simp only [List.setIfInBounds_toArray, List.set_cons_zero, List.set_cons_succ]
  refine held_take 31 78 (v := .bool true) rfl rfl (by kernel_rfl) (by kernel_rfl) (by kernel_rfl) (fun _ _ _ h => h) (Or.inl ⟨by kernel_rfl, fun w _ => by first | kernel_rfl | go_simp⟩) hH ?_
  simp only [List.setIfInBounds_toArray, List.set_cons_zero, List.set_cons_succ]
  refine held_take 32 79 (v := .pointer (some ⟨u1, 9, none⟩)) rfl rfl (by kernel_rfl) (by kernel_rfl) (by kernel_rfl) (fun _ _ _ h => h) (Or.inl ⟨by kernel_rfl, fun w _ => by first | kernel_rfl | go_simp⟩) hH ?_
  simp only [List.setIfInBounds_toArray, List.set_cons_zero, List.set_cons_succ]
  refine held_take 33 80 (v := .int .u32 x.typ) rfl rfl (by kernel_rfl) (by kernel_rfl) (by kernel_rfl) (fun _ _ _ h => h) (Or.inl ⟨by kernel_rfl, fun w hSw => by
    have hcell := hSw.a9
    go_simp⟩) hH ?_
  simp only [List.setIfInBounds_toArray, List.set_cons_zero, List.set_cons_succ]
  refine held_take 34 81 (v := .bool false) rfl rfl (by kernel_rfl) (by kernel_rfl) (by kernel_rfl) (fun _ _ _ h => h) (Or.inl ⟨by kernel_rfl, fun w _ => by go_simp⟩) hH ?_
  simp only [List.setIfInBounds_toArray, List.set_cons_zero, List.set_cons_succ]
  refine held_take 35 82 (v := .bool false) rfl rfl (by kernel_rfl) (by kernel_rfl) (by kernel_rfl) (fun _ _ _ h => h) (Or.inl ⟨by kernel_rfl, fun w _ => by first | kernel_rfl | go_simp⟩) hH ?_
  simp only [List.setIfInBounds_toArray, List.set_cons_zero, List.set_cons_succ]
  refine held_take 36 83 (v := .pointer (some ⟨u1, 9, none⟩)) rfl rfl (by kernel_rfl) (by kernel_rfl) (by kernel_rfl) (fun _ _ _ h => h) (Or.inl ⟨by kernel_rfl, fun w _ => by first | kernel_rfl | go_simp⟩) hH ?_
  simp only [List.setIfInBounds_toArray, List.set_cons_zero, List.set_cons_succ]
  refine held_take 37 84 (v := .int .u32 x.typ) rfl rfl (by kernel_rfl) (by kernel_rfl) (by kernel_rfl) (fun _ _ _ h => h) (Or.inl ⟨by kernel_rfl, fun w hSw => by
    have hcell := hSw.a9
    go_simp⟩) hH ?_
  simp only [List.setIfInBounds_toArray, List.set_cons_zero, List.set_cons_succ]
  refine held_take 38 85 (v := .pointer (some ⟨u2, 9, none⟩)) rfl rfl (by kernel_rfl) (by kernel_rfl) (by kernel_rfl) (fun _ _ _ h => h) (Or.inl ⟨by kernel_rfl, fun w _ => by first | kernel_rfl | go_simp⟩) hH ?_
  simp only [List.setIfInBounds_toArray, List.set_cons_zero, List.set_cons_succ]
  refine held_take 39 86 (v := .int .u32 y.typ) rfl rfl (by kernel_rfl) (by kernel_rfl) (by kernel_rfl) (fun _ _ _ h => h) (Or.inl ⟨by kernel_rfl, fun w hSw => by
    have hcell := hSw.b9
    go_simp⟩) hH ?_
  simp only [List.setIfInBounds_toArray, List.set_cons_zero, List.set_cons_succ]
  refine held_take 40 87 (v := .bool bs) rfl rfl (by kernel_rfl) (by kernel_rfl) (by kernel_rfl) (fun _ _ _ h => h) (Or.inl ⟨by kernel_rfl, fun w _ => by go_simp⟩) hH ?_
  simp only [List.setIfInBounds_toArray, List.set_cons_zero, List.set_cons_succ]
  refine held_take 41 88 (v := .bool bs) rfl rfl (by kernel_rfl) (by kernel_rfl) (by kernel_rfl) (fun _ _ _ h => h) (Or.inl ⟨by kernel_rfl, fun w _ => by first | kernel_rfl | go_simp⟩) hH ?_
  simp only [List.setIfInBounds_toArray, List.set_cons_zero, List.set_cons_succ]
  refine held_take 42 89 (v := .bool true) rfl rfl (by kernel_rfl) (by kernel_rfl) (by kernel_rfl) (fun _ _ _ h => h) (Or.inl ⟨by kernel_rfl, fun w _ => by go_simp⟩) hH ?_
  simp only [List.setIfInBounds_toArray, List.set_cons_zero, List.set_cons_succ]
  refine held_take 43 90 (v := .bool true) rfl rfl (by kernel_rfl) (by kernel_rfl) (by kernel_rfl) (fun _ _ _ h => h) (Or.inl ⟨by kernel_rfl, fun w _ => by first | kernel_rfl | go_simp⟩) hH ?_
  simp only [List.setIfInBounds_toArray, List.set_cons_zero, List.set_cons_succ]
  refine held_take 44 91 (v := .bool true) rfl rfl (by kernel_rfl) (by kernel_rfl) (by kernel_rfl) (fun _ _ _ h => h) (Or.inl ⟨by kernel_rfl, fun w _ => by first | kernel_rfl | go_simp⟩) hH ?_
  simp only [List.setIfInBounds_toArray, List.set_cons_zero, List.set_cons_succ]
  refine held_take 45 92 (v := .bool true) rfl rfl (by kernel_rfl) (by kernel_rfl) (by kernel_rfl) (fun _ _ _ h => h) (Or.inl ⟨by kernel_rfl, fun w _ => by first | kernel_rfl | go_simp⟩) hH ?_
  simp only [List.setIfInBounds_toArray, List.set_cons_zero, List.set_cons_succ]
  refine held_take 46 93 (v := .pointer (some ⟨u1, 7, none⟩)) rfl rfl (by kernel_rfl) (by kernel_rfl) (by kernel_rfl) (fun _ _ _ h => h) (Or.inl ⟨by kernel_rfl, fun w _ => by first | kernel_rfl | go_simp⟩) hH ?_
  simp only [List.setIfInBounds_toArray, List.set_cons_zero, List.set_cons_succ]
  refine held_take 47 94 (v := .slice A n c) rfl rfl (by kernel_rfl) (by kernel_rfl) (by kernel_rfl) (fun _ _ _ h => h) (Or.inl ⟨by kernel_rfl, fun w hSw => by
    have hcell := hSw.a7
    go_simp⟩) hH ?_
  simp only [List.setIfInBounds_toArray, List.set_cons_zero, List.set_cons_succ]
  refine held_take 49 96 (v := .pointer (some ⟨u1, 0, none⟩)) rfl rfl (by kernel_rfl) (by kernel_rfl) (by kernel_rfl) (fun _ _ _ h => h) (Or.inl ⟨by kernel_rfl, fun w _ => by first | kernel_rfl | go_simp⟩) hH ?_
  simp only [List.setIfInBounds_toArray, List.set_cons_zero, List.set_cons_succ]
  refine held_take 50 97 (v := .int .i64 x.alg) rfl rfl (by kernel_rfl) (by kernel_rfl) (by kernel_rfl) (fun _ _ _ h => h) (Or.inl ⟨by kernel_rfl, fun w hSw => by
    have hcell := hSw.a0
    go_simp⟩) hH ?_
  simp only [List.setIfInBounds_toArray, List.set_cons_zero, List.set_cons_succ]
  refine wpAnyH_ready (rs := [48]) (by kernel_rfl) (by simp) ?_
  refine AllReadyH.cons rfl (fun K hK => ?_) AllReadyH.nil
  go_simp
  refine (HBO.out _ _ _ (HG.out.past (HPW.out.trans' HPD.out)) (HSL.out.past HPD.out)).mono ?_
  rintro e wA ⟨B1, e1, rfl, hs, hp⟩
  have HA : Hid (Past w9 wA) := Lib.hid (HPD.out.trans' hp)
  have HSA := Lib.hid hs
  clear hp hs
  refine hK.out _ _ (HSK.out _ HA.out) (fun hH => ?_)
  clear hK K
  refine wpAnyH_ready (rs := [51]) (by kernel_rfl) (by simp) ?_
  refine AllReadyH.cons rfl (fun K hK => ?_) AllReadyH.nil
  go_simp
  refine (HCO.out B1 e1 wA HSA.out).mono ?_
  rintro e wB ⟨rfl, rfl⟩
  refine hK.out _ _ (HSK.out _ HA.out) (fun hH => ?_)
  clear hK K
  refine held_take 52 99 (v := .bool true) rfl rfl (by kernel_rfl) (by kernel_rfl) (by kernel_rfl) (fun _ _ _ h => h) (Or.inl ⟨by kernel_rfl, fun w _ => by first | kernel_rfl | go_simp⟩) hH ?_
  simp only [List.setIfInBounds_toArray, List.set_cons_zero, List.set_cons_succ]
  refine wpAnyH_ready (rs := [53]) (by kernel_rfl) (by simp) ?_
  refine AllReadyH.cons rfl (fun K hK => ?_) AllReadyH.nil
  go_simp
  refine hK.out _ _ (HSK.out _ HA.out) (fun hH => ?_)
  clear hK K
  refine wpAnyH_done (by kernel_rfl) ?_ _
  go_simp
  go_wp2_with fail
  go_ret
  exact ⟨rfl, HPW.out.trans' HA.out⟩
set_option maxHeartbeats 16000000 in
set_option maxRecDepth 100000 in
theorem walk_01 (a b ka kb : Int) (w : World) (hma : a.tmod 25 = ka) (hmb : b.tmod 25 = kb) (ha0 : 0 ≤ a) (ha1 : a ≤ 255) (hb0 : 0 ≤ b) (hb1 : b ≤ 255) (hka : 0 ≤ ka ∧ ka < 25) (hkb : 0 ≤ kb ∧ kb < 25) (hcz : ¬ (row13 (1 + ka)).cose = 0) (htz : (row13 (1 + ka)).typ = 0) (hG : Glob13 w) :
    Calls Tryd.prog 6 #[.int .u8 a, .int .u8 b] w fun e w' => e = .returned (.bool true) ∧ Past w w' := by
  have HG := Lib.hid hG
  have hia : 1 ≤ 1 + ka ∧ 1 + ka ≤ 25 := by omega
  have hib : 1 ≤ 1 + kb ∧ 1 + kb ≤ 25 := by omega
  have hm2 : a % 25 = ka := by rw [← hma, Int.tmod_eq_emod_of_nonneg ha0]
  have hm3 : b % 25 = kb := by rw [← hmb, Int.tmod_eq_emod_of_nonneg hb0]
  have hw1 : IntKind.i64.wrap (1 + ka) = 1 + ka := by rw [IntKind.wrap_i64]; omega
  have hw2 : IntKind.i64.wrap (1 + kb) = 1 + kb := by rw [IntKind.wrap_i64]; omega
  have HNS := Lib.hid (name_same hia hib)
  have HCS := Lib.hid (cose_same hia hib hcz)
  skip
  have HFI : Hid (firstA (pName (row13 (1 + ka)).name) = 1 + ka) := Lib.hid (first_one hia.1 hia.2 (by unfold pName; simp) (paramsFinds.name_one _))
  have HAA : Hid ((row13 (1 + ka)).alg = 1 + ka ∧ (row13 (1 + kb)).alg = 1 + kb) := Lib.hid ⟨alg_in hia, alg_in hib⟩
  have HMEM : Hid ((row13 (1 + ka)).alg ∈ algs (pText (row13 (1 + ka)).text) 25) := Lib.hid (by
    rw [alg_in hia]
    unfold algs
    exact List.mem_filter.2 ⟨List.mem_map.2 ⟨ka.toNat, List.mem_range.2 (by omega), by omega⟩, by unfold pText; simp⟩)
  have HGE : ∀ k : Int, 1 ≤ k ∧ k ≤ 25 → Hid (∀ w e w', GetP k w e w' → ∃ A c, e = .returned (.tuple #[.agg (setC (row13 k) (.slice A (oidL k).length c)), .bool true]) ∧ SlK .u32 w' A (oidL k).length c (oidL k) ∧ Past w w') := fun k hk => Lib.hid (fun w e w' h => by
    obtain ⟨h, hp⟩ := h
    rw [if_pos hk] at h
    obtain ⟨A, c, e1, e2⟩ := h
    exact ⟨A, c, e1, e2, hp⟩)
  have HGA := HGE _ hia
  have HGB := HGE _ hib
  have HGN := Lib.hid (fun w hG => byName_any (row13 (1 + ka)).name w hG)
  rw [HFI.out] at HGN
  have HBO := Lib.hid (fun A c w hG h => byOid_any A (oidL (1 + ka)).length c (oidL (1 + ka)) w hG h (oid_in hia) (by have := (oid_some hia).2.2.2.1; omega))
  rw [oid_text hia] at HBO
  have HCO := Lib.hid (fun A c w h => contains_any A c (algs (pText (row13 (1 + ka)).text) 25) (row13 (1 + ka)).alg w (Nat.le_trans (algs_len _ 25) (by decide)) h HMEM.out)
  unfold IntsP at HBO
  have HG1 := Lib.hid (fun w hG => get_any (1 + ka) w hG)
  have HG2 := Lib.hid (fun w hG => get_any (1 + kb) w hG)
  have hal : ((row13 (1 + ka)).alg == (row13 (1 + kb)).alg) = decide (1 + ka = 1 + kb) := by rw [HAA.out.1, HAA.out.2]; rfl
  have HZ1 := Lib.hid hcz
  have HZ2 := Lib.hid htz
  clear HGE HMEM HFI hia hib hka hkb HAA hcz htz
  rw [← hal] at HNS HCS 
  clear hal
  generalize row13 (1 + ka) = x at *
  generalize row13 (1 + kb) = y at *
  generalize oidL (1 + ka) = l at *
  generalize oidL (1 + kb) = l2 at *
  obtain ⟨n, hn⟩ : ∃ n, l.length = n := ⟨_, rfl⟩
  obtain ⟨n2, hn2⟩ : ∃ n, l2.length = n := ⟨_, rfl⟩
  rw [hn] at HGA HBO
  rw [hn2] at HGB
  generalize algs (pText x.text) 25 = LT at *
  obtain ⟨ja, hja⟩ : ∃ j, 1 + ka = j := ⟨_, rfl⟩
  obtain ⟨jb, hjb⟩ : ∃ j, 1 + kb = j := ⟨_, rfl⟩
  rw [hja] at HGA HGN HG1 hw1
  rw [hjb] at HGB HG2 hw2
  have hja2 : IntKind.i64.wrap (1 + ka) = ja := by rw [hja]; exact hw1
  have hjb2 : IntKind.i64.wrap (1 + kb) = jb := by rw [hjb]; exact hw2
  clear hn hn2 hG
  go_enter Tryd.func6, Tryd.ntmps6
  go_wp2_with fail
  refine (awake13 w HG.out).mono ?_
  rintro e w1 ⟨rfl, hp⟩
  have H1 := Lib.hid hp
  clear hp
  go_wp2_with fail
  refine (HG1.out w1 (HG.out.past H1.out)).mono ?_
  intro e w2 he
  obtain ⟨A, c, rfl, hs, hp⟩ := HGA.out _ _ _ he
  obtain ⟨u1, hu⟩ : ∃ g, w2.heap.size = g := ⟨_, rfl⟩
  obtain ⟨w3, hw⟩ : ∃ w', w2.alloc (.cells (setC x (.slice A n c)) 26) = w' := ⟨_, rfl⟩
  have hpa : Past w2 w3 := by rw [← hw]; exact past_alloc13 _ _
  have hrowu1 : Row w3 u1 26 (setC x (.slice A n c)) := by rw [← hw, ← hu]; exact Row.new _ _ _
  have HW := Lib.hid hw
  have HU := Lib.hid hu
  clear hw hu
  go_upto_region 4 with (fail)
  rw [HW.out]
  try rw [HU.out]
  clear HW HU
  have H3 : Hid (Past w w3) := Lib.hid ((H1.out.trans' hp).trans' hpa)
  have HS3 := Lib.hid (hs.past hpa)
  have HR1 := Lib.hid hrowu1
  clear hp hs hpa hrowu1 he H1 HG1
  go_wp2_with fail
  refine (HG2.out w3 (HG.out.past H3.out)).mono ?_
  intro e w4 he
  obtain ⟨A2, c2, rfl, hs, hp⟩ := HGB.out _ _ _ he
  obtain ⟨u2, hu⟩ : ∃ g, w4.heap.size = g := ⟨_, rfl⟩
  obtain ⟨w5, hw⟩ : ∃ w', w4.alloc (.cells (setC y (.slice A2 n2 c2)) 26) = w' := ⟨_, rfl⟩
  have hpa : Past w4 w5 := by rw [← hw]; exact past_alloc13 _ _
  have hrowu2 : Row w5 u2 26 (setC y (.slice A2 n2 c2)) := by rw [← hw, ← hu]; exact Row.new _ _ _
  have HW := Lib.hid hw
  have HU := Lib.hid hu
  clear hw hu
  go_upto_region 5 with (fail)
  rw [HW.out]
  try rw [HU.out]
  clear HW HU
  have H35 : Hid (Past w3 w5) := Lib.hid (hp.trans' hpa)
  have HR2 := Lib.hid hrowu2
  have k12 := (HR1.out.past H35.out).cell 2
  have k10 := (HR1.out.past H35.out).cell 0
  have k20 := hrowu2.cell 0
  clear hp hs hpa hrowu2 he HG2
  go_wp2_with fail
  refine (HGN.out w5 (HG.out.past (H3.out.trans' H35.out))).mono ?_
  intro e w6 he
  obtain ⟨A3, c3, rfl, hs, hp⟩ := HGA.out _ _ _ he
  obtain ⟨u3, hu⟩ : ∃ g, w6.heap.size = g := ⟨_, rfl⟩
  obtain ⟨w9, hw⟩ : ∃ w', w6.alloc (.cells (setC x (.slice A3 n c3)) 26) = w' := ⟨_, rfl⟩
  have hpa : Past w6 w9 := by rw [← hw]; exact past_alloc13 _ _
  have hrowu3 : Row w9 u3 26 (setC x (.slice A3 n c3)) := by rw [← hw, ← hu]; exact Row.new _ _ _
  have HW := Lib.hid hw
  have HU := Lib.hid hu
  clear hw hu
  go_upto_region 8 with (fail)
  rw [HW.out]
  try rw [HU.out]
  clear HW HU
  have H59 : Hid (Past w5 w9) := Lib.hid (hp.trans' hpa)
  have HR3 := Lib.hid hrowu3
  clear k12 k10 k20
  have k10 := (HR1.out.past (H35.out.trans' H59.out)).cell 0
  have k20 := (HR2.out.past H59.out).cell 0
  clear hp hs hpa hrowu3 he HGN
  go_upto_region 9 with (fail)
  have HPW : Hid (Past w w9) := Lib.hid (H3.out.trans' (H35.out.trans' H59.out))
  have HSL : Hid (SlK .u32 w9 A n c l) := Lib.hid (HS3.out.past (H35.out.trans' H59.out))
  have HSK : Hid (∀ w', Past w9 w' → Sa u1 u2 u3 x y (.slice A n c) w') := Lib.hid (fun w' h => Sa.of (HR1.out.past ((H35.out.trans' H59.out).trans' h)) (HR2.out.past (H59.out.trans' h)) (HR3.out.past h))
  clear k10 k20 H3 H35 H59 HR1 HR2 HR3 HS3
  skip
  generalize (x.alg == y.alg) = bs at *
  have hns := HNS.out
  have hcs := HCS.out
  skip
  have hcz := HZ1.out
  have htz := HZ2.out
  have hcb : (x.cose == 0) = false := by simp [hcz]
  have htb : (x.typ == 0) = true := by simp [htz]
  have hcd : decide (x.cose = 0) = false := by simp [hcz]
  have htd : decide (x.typ = 0) = true := by simp [htz]
  have HPD : Hid (Past w9 w9.drew) := Lib.hid (Past.drewN (Below.refl _ w9) 1)
  have hU : undef = Value.tuple #[] := rfl
  clear hcz htz
  refine wp_region_held_drew (S := Sa u1 u2 u3 x y (.slice A n c)) (by kernel_rfl) (HSK.out _ HPD.out) (fun hH => ?_)
  refine held_take 0 47 (v := .bool true) rfl rfl (by kernel_rfl) (by kernel_rfl) (by kernel_rfl) (fun _ _ _ h => h) (Or.inl ⟨by kernel_rfl, fun w _ => by first | kernel_rfl | go_simp⟩) hH ?_
  simp only [List.setIfInBounds_toArray, List.set_cons_zero, List.set_cons_succ]
  refine held_take 1 48 (v := .bool true) rfl rfl (by kernel_rfl) (by kernel_rfl) (by kernel_rfl) (fun _ _ _ h => h) (Or.inl ⟨by kernel_rfl, fun w _ => by first | kernel_rfl | go_simp⟩) hH ?_
  simp only [List.setIfInBounds_toArray, List.set_cons_zero, List.set_cons_succ]
  refine held_take 2 49 (v := .pointer (some ⟨u3, 0, none⟩)) rfl rfl (by kernel_rfl) (by kernel_rfl) (by kernel_rfl) (fun _ _ _ h => h) (Or.inl ⟨by kernel_rfl, fun w _ => by first | kernel_rfl | go_simp⟩) hH ?_
  simp only [List.setIfInBounds_toArray, List.set_cons_zero, List.set_cons_succ]
  refine held_take 3 50 (v := .int .i64 x.alg) rfl rfl (by kernel_rfl) (by kernel_rfl) (by kernel_rfl) (fun _ _ _ h => h) (Or.inl ⟨by kernel_rfl, fun w hSw => by
    have hcell := hSw.c0
    go_simp⟩) hH ?_
  simp only [List.setIfInBounds_toArray, List.set_cons_zero, List.set_cons_succ]
  refine held_take 4 51 (v := .pointer (some ⟨u1, 0, none⟩)) rfl rfl (by kernel_rfl) (by kernel_rfl) (by kernel_rfl) (fun _ _ _ h => h) (Or.inl ⟨by kernel_rfl, fun w _ => by first | kernel_rfl | go_simp⟩) hH ?_
  simp only [List.setIfInBounds_toArray, List.set_cons_zero, List.set_cons_succ]
  refine held_take 5 52 (v := .int .i64 x.alg) rfl rfl (by kernel_rfl) (by kernel_rfl) (by kernel_rfl) (fun _ _ _ h => h) (Or.inl ⟨by kernel_rfl, fun w hSw => by
    have hcell := hSw.a0
    go_simp⟩) hH ?_
  simp only [List.setIfInBounds_toArray, List.set_cons_zero, List.set_cons_succ]
  refine held_take 6 53 (v := .bool true) rfl rfl (by kernel_rfl) (by kernel_rfl) (by kernel_rfl) (fun _ _ _ h => h) (Or.inl ⟨by kernel_rfl, fun w _ => by go_simp⟩) hH ?_
  simp only [List.setIfInBounds_toArray, List.set_cons_zero, List.set_cons_succ]
  refine held_take 7 54 (v := .bool true) rfl rfl (by kernel_rfl) (by kernel_rfl) (by kernel_rfl) (fun _ _ _ h => h) (Or.inl ⟨by kernel_rfl, fun w _ => by first | kernel_rfl | go_simp⟩) hH ?_
  simp only [List.setIfInBounds_toArray, List.set_cons_zero, List.set_cons_succ]
  refine held_take 8 55 (v := .bool true) rfl rfl (by kernel_rfl) (by kernel_rfl) (by kernel_rfl) (fun _ _ _ h => h) (Or.inl ⟨by kernel_rfl, fun w _ => by first | kernel_rfl | go_simp⟩) hH ?_
  simp only [List.setIfInBounds_toArray, List.set_cons_zero, List.set_cons_succ]
  refine held_take 9 56 (v := .pointer (some ⟨u1, 2, none⟩)) rfl rfl (by kernel_rfl) (by kernel_rfl) (by kernel_rfl) (fun _ _ _ h => h) (Or.inl ⟨by kernel_rfl, fun w _ => by first | kernel_rfl | go_simp⟩) hH ?_
  simp only [List.setIfInBounds_toArray, List.set_cons_zero, List.set_cons_succ]
  refine held_take 10 57 (v := .string x.name) rfl rfl (by kernel_rfl) (by kernel_rfl) (by kernel_rfl) (fun _ _ _ h => h) (Or.inl ⟨by kernel_rfl, fun w hSw => by
    have hcell := hSw.a2
    go_simp⟩) hH ?_
  simp only [List.setIfInBounds_toArray, List.set_cons_zero, List.set_cons_succ]
  refine held_take 11 58 (v := .pointer (some ⟨u2, 2, none⟩)) rfl rfl (by kernel_rfl) (by kernel_rfl) (by kernel_rfl) (fun _ _ _ h => h) (Or.inl ⟨by kernel_rfl, fun w _ => by first | kernel_rfl | go_simp⟩) hH ?_
  simp only [List.setIfInBounds_toArray, List.set_cons_zero, List.set_cons_succ]
  refine held_take 12 59 (v := .string y.name) rfl rfl (by kernel_rfl) (by kernel_rfl) (by kernel_rfl) (fun _ _ _ h => h) (Or.inl ⟨by kernel_rfl, fun w hSw => by
    have hcell := hSw.b2
    go_simp⟩) hH ?_
  simp only [List.setIfInBounds_toArray, List.set_cons_zero, List.set_cons_succ]
  refine held_take 13 60 (v := .bool bs) rfl rfl (by kernel_rfl) (by kernel_rfl) (by kernel_rfl) (fun _ _ _ h => h) (Or.inl ⟨by kernel_rfl, fun w _ => by go_simp⟩) hH ?_
  simp only [List.setIfInBounds_toArray, List.set_cons_zero, List.set_cons_succ]
  refine held_take 14 61 (v := .bool bs) rfl rfl (by kernel_rfl) (by kernel_rfl) (by kernel_rfl) (fun _ _ _ h => h) (Or.inl ⟨by kernel_rfl, fun w _ => by first | kernel_rfl | go_simp⟩) hH ?_
  simp only [List.setIfInBounds_toArray, List.set_cons_zero, List.set_cons_succ]
  refine held_take 15 62 (v := .bool true) rfl rfl (by kernel_rfl) (by kernel_rfl) (by kernel_rfl) (fun _ _ _ h => h) (Or.inl ⟨by kernel_rfl, fun w _ => by go_simp⟩) hH ?_
  simp only [List.setIfInBounds_toArray, List.set_cons_zero, List.set_cons_succ]
  refine held_take 16 63 (v := .bool true) rfl rfl (by kernel_rfl) (by kernel_rfl) (by kernel_rfl) (fun _ _ _ h => h) (Or.inl ⟨by kernel_rfl, fun w _ => by first | kernel_rfl | go_simp⟩) hH ?_
  simp only [List.setIfInBounds_toArray, List.set_cons_zero, List.set_cons_succ]
  refine held_take 17 64 (v := .bool true) rfl rfl (by kernel_rfl) (by kernel_rfl) (by kernel_rfl) (fun _ _ _ h => h) (Or.inl ⟨by kernel_rfl, fun w _ => by first | kernel_rfl | go_simp⟩) hH ?_
  simp only [List.setIfInBounds_toArray, List.set_cons_zero, List.set_cons_succ]
  refine held_take 18 65 (v := .pointer (some ⟨u1, 8, none⟩)) rfl rfl (by kernel_rfl) (by kernel_rfl) (by kernel_rfl) (fun _ _ _ h => h) (Or.inl ⟨by kernel_rfl, fun w _ => by first | kernel_rfl | go_simp⟩) hH ?_
  simp only [List.setIfInBounds_toArray, List.set_cons_zero, List.set_cons_succ]
  refine held_take 19 66 (v := .int .i64 x.cose) rfl rfl (by kernel_rfl) (by kernel_rfl) (by kernel_rfl) (fun _ _ _ h => h) (Or.inl ⟨by kernel_rfl, fun w hSw => by
    have hcell := hSw.a8
    go_simp⟩) hH ?_
  simp only [List.setIfInBounds_toArray, List.set_cons_zero, List.set_cons_succ]
  refine held_take 20 67 (v := .bool false) rfl rfl (by kernel_rfl) (by kernel_rfl) (by kernel_rfl) (fun _ _ _ h => h) (Or.inl ⟨by kernel_rfl, fun w _ => by go_simp⟩) hH ?_
  simp only [List.setIfInBounds_toArray, List.set_cons_zero, List.set_cons_succ]
  refine held_take 21 68 (v := .bool false) rfl rfl (by kernel_rfl) (by kernel_rfl) (by kernel_rfl) (fun _ _ _ h => h) (Or.inl ⟨by kernel_rfl, fun w _ => by first | kernel_rfl | go_simp⟩) hH ?_
  simp only [List.setIfInBounds_toArray, List.set_cons_zero, List.set_cons_succ]
  refine held_take 22 69 (v := .pointer (some ⟨u1, 8, none⟩)) rfl rfl (by kernel_rfl) (by kernel_rfl) (by kernel_rfl) (fun _ _ _ h => h) (Or.inl ⟨by kernel_rfl, fun w _ => by first | kernel_rfl | go_simp⟩) hH ?_
  simp only [List.setIfInBounds_toArray, List.set_cons_zero, List.set_cons_succ]
  refine held_take 23 70 (v := .int .i64 x.cose) rfl rfl (by kernel_rfl) (by kernel_rfl) (by kernel_rfl) (fun _ _ _ h => h) (Or.inl ⟨by kernel_rfl, fun w hSw => by
    have hcell := hSw.a8
    go_simp⟩) hH ?_
  simp only [List.setIfInBounds_toArray, List.set_cons_zero, List.set_cons_succ]
  refine held_take 24 71 (v := .pointer (some ⟨u2, 8, none⟩)) rfl rfl (by kernel_rfl) (by kernel_rfl) (by kernel_rfl) (fun _ _ _ h => h) (Or.inl ⟨by kernel_rfl, fun w _ => by first | kernel_rfl | go_simp⟩) hH ?_
  simp only [List.setIfInBounds_toArray, List.set_cons_zero, List.set_cons_succ]
  refine held_take 25 72 (v := .int .i64 y.cose) rfl rfl (by kernel_rfl) (by kernel_rfl) (by kernel_rfl) (fun _ _ _ h => h) (Or.inl ⟨by kernel_rfl, fun w hSw => by
    have hcell := hSw.b8
    go_simp⟩) hH ?_
  simp only [List.setIfInBounds_toArray, List.set_cons_zero, List.set_cons_succ]
  refine held_take 26 73 (v := .bool bs) rfl rfl (by kernel_rfl) (by kernel_rfl) (by kernel_rfl) (fun _ _ _ h => h) (Or.inl ⟨by kernel_rfl, fun w _ => by go_simp⟩) hH ?_
  simp only [List.setIfInBounds_toArray, List.set_cons_zero, List.set_cons_succ]
  refine held_take 27 74 (v := .bool bs) rfl rfl (by kernel_rfl) (by kernel_rfl) (by kernel_rfl) (fun _ _ _ h => h) (Or.inl ⟨by kernel_rfl, fun w _ => by first | kernel_rfl | go_simp⟩) hH ?_
  simp only [List.setIfInBounds_toArray, List.set_cons_zero, List.set_cons_succ]
  refine held_take 28 75 (v := .bool true) rfl rfl (by kernel_rfl) (by kernel_rfl) (by kernel_rfl) (fun _ _ _ h => h) (Or.inl ⟨by kernel_rfl, fun w _ => by go_simp⟩) hH ?_
  simp only [List.setIfInBounds_toArray, List.set_cons_zero, List.set_cons_succ]
  refine held_take 29 76 (v := .bool true) rfl rfl (by kernel_rfl) (by kernel_rfl) (by kernel_rfl) (fun _ _ _ h => h) (Or.inl ⟨by kernel_rfl, fun w _ => by first | kernel_rfl | go_simp⟩) hH ?_
  simp only [List.setIfInBounds_toArray, List.set_cons_zero, List.set_cons_succ]
  refine held_take 30 77 (v := .bool true) rfl rfl (by kernel_rfl) (by kernel_rfl) (by kernel_rfl) (fun _ _ _ h => h) (Or.inl ⟨by kernel_rfl, fun w _ => by first | kernel_rfl | go_simp⟩) hH ?_
  simp only [List.setIfInBounds_toArray, List.set_cons_zero, List.set_cons_succ]
  refine held_take 31 78 (v := .bool true) rfl rfl (by kernel_rfl) (by kernel_rfl) (by kernel_rfl) (fun _ _ _ h => h) (Or.inl ⟨by kernel_rfl, fun w _ => by first | kernel_rfl | go_simp⟩) hH ?_
  simp only [List.setIfInBounds_toArray, List.set_cons_zero, List.set_cons_succ]
  refine held_take 32 79 (v := .pointer (some ⟨u1, 9, none⟩)) rfl rfl (by kernel_rfl) (by kernel_rfl) (by kernel_rfl) (fun _ _ _ h => h) (Or.inl ⟨by kernel_rfl, fun w _ => by first | kernel_rfl | go_simp⟩) hH ?_
  simp only [List.setIfInBounds_toArray, List.set_cons_zero, List.set_cons_succ]
  refine held_take 33 80 (v := .int .u32 x.typ) rfl rfl (by kernel_rfl) (by kernel_rfl) (by kernel_rfl) (fun _ _ _ h => h) (Or.inl ⟨by kernel_rfl, fun w hSw => by
    have hcell := hSw.a9
    go_simp⟩) hH ?_
  simp only [List.setIfInBounds_toArray, List.set_cons_zero, List.set_cons_succ]
  refine held_take 34 81 (v := .bool true) rfl rfl (by kernel_rfl) (by kernel_rfl) (by kernel_rfl) (fun _ _ _ h => h) (Or.inl ⟨by kernel_rfl, fun w _ => by go_simp⟩) hH ?_
  simp only [List.setIfInBounds_toArray, List.set_cons_zero, List.set_cons_succ]
  refine held_take 35 82 (v := .bool true) rfl rfl (by kernel_rfl) (by kernel_rfl) (by kernel_rfl) (fun _ _ _ h => h) (Or.inl ⟨by kernel_rfl, fun w _ => by first | kernel_rfl | go_simp⟩) hH ?_
  simp only [List.setIfInBounds_toArray, List.set_cons_zero, List.set_cons_succ]
  refine held_take 36 83 (v := undef) rfl rfl (by kernel_rfl) (by kernel_rfl) (by kernel_rfl) (fun _ _ _ h => h) (Or.inr ⟨by kernel_rfl, rfl⟩) hH ?_
  simp only [List.setIfInBounds_toArray, List.set_cons_zero, List.set_cons_succ]
  refine held_take 37 84 (v := undef) rfl rfl (by kernel_rfl) (by kernel_rfl) (by kernel_rfl) (fun _ _ _ h => h) (Or.inr ⟨by kernel_rfl, rfl⟩) hH ?_
  simp only [List.setIfInBounds_toArray, List.set_cons_zero, List.set_cons_succ]
  refine held_take 38 85 (v := undef) rfl rfl (by kernel_rfl) (by kernel_rfl) (by kernel_rfl) (fun _ _ _ h => h) (Or.inr ⟨by kernel_rfl, rfl⟩) hH ?_
  simp only [List.setIfInBounds_toArray, List.set_cons_zero, List.set_cons_succ]
  refine held_take 39 86 (v := undef) rfl rfl (by kernel_rfl) (by kernel_rfl) (by kernel_rfl) (fun _ _ _ h => h) (Or.inr ⟨by kernel_rfl, rfl⟩) hH ?_
  simp only [List.setIfInBounds_toArray, List.set_cons_zero, List.set_cons_succ]
  refine held_take 40 87 (v := undef) rfl rfl (by kernel_rfl) (by kernel_rfl) (by kernel_rfl) (fun _ _ _ h => h) (Or.inr ⟨by kernel_rfl, rfl⟩) hH ?_
  simp only [List.setIfInBounds_toArray, List.set_cons_zero, List.set_cons_succ]
  refine held_take 41 88 (v := undef) rfl rfl (by kernel_rfl) (by kernel_rfl) (by kernel_rfl) (fun _ _ _ h => h) (Or.inr ⟨by kernel_rfl, rfl⟩) hH ?_
  simp only [List.setIfInBounds_toArray, List.set_cons_zero, List.set_cons_succ]
  refine held_take 42 89 (v := undef) rfl rfl (by kernel_rfl) (by kernel_rfl) (by kernel_rfl) (fun _ _ _ h => h) (Or.inr ⟨by kernel_rfl, rfl⟩) hH ?_
  simp only [List.setIfInBounds_toArray, List.set_cons_zero, List.set_cons_succ]
  refine held_take 43 90 (v := .bool true) rfl rfl (by kernel_rfl) (by kernel_rfl) (by kernel_rfl) (fun _ _ _ h => h) (Or.inl ⟨by kernel_rfl, fun w _ => by first | kernel_rfl | go_simp⟩) hH ?_
  simp only [List.setIfInBounds_toArray, List.set_cons_zero, List.set_cons_succ]
  refine held_take 44 91 (v := .bool true) rfl rfl (by kernel_rfl) (by kernel_rfl) (by kernel_rfl) (fun _ _ _ h => h) (Or.inl ⟨by kernel_rfl, fun w _ => by first | kernel_rfl | go_simp⟩) hH ?_
  simp only [List.setIfInBounds_toArray, List.set_cons_zero, List.set_cons_succ]
  refine held_take 45 92 (v := .bool true) rfl rfl (by kernel_rfl) (by kernel_rfl) (by kernel_rfl) (fun _ _ _ h => h) (Or.inl ⟨by kernel_rfl, fun w _ => by first | kernel_rfl | go_simp⟩) hH ?_
  simp only [List.setIfInBounds_toArray, List.set_cons_zero, List.set_cons_succ]
  refine held_take 46 93 (v := .pointer (some ⟨u1, 7, none⟩)) rfl rfl (by kernel_rfl) (by kernel_rfl) (by kernel_rfl) (fun _ _ _ h => h) (Or.inl ⟨by kernel_rfl, fun w _ => by first | kernel_rfl | go_simp⟩) hH ?_
  simp only [List.setIfInBounds_toArray, List.set_cons_zero, List.set_cons_succ]
  refine held_take 47 94 (v := .slice A n c) rfl rfl (by kernel_rfl) (by kernel_rfl) (by kernel_rfl) (fun _ _ _ h => h) (Or.inl ⟨by kernel_rfl, fun w hSw => by
    have hcell := hSw.a7
    go_simp⟩) hH ?_
  simp only [List.setIfInBounds_toArray, List.set_cons_zero, List.set_cons_succ]
  refine held_take 49 96 (v := .pointer (some ⟨u1, 0, none⟩)) rfl rfl (by kernel_rfl) (by kernel_rfl) (by kernel_rfl) (fun _ _ _ h => h) (Or.inl ⟨by kernel_rfl, fun w _ => by first | kernel_rfl | go_simp⟩) hH ?_
  simp only [List.setIfInBounds_toArray, List.set_cons_zero, List.set_cons_succ]
  refine held_take 50 97 (v := .int .i64 x.alg) rfl rfl (by kernel_rfl) (by kernel_rfl) (by kernel_rfl) (fun _ _ _ h => h) (Or.inl ⟨by kernel_rfl, fun w hSw => by
    have hcell := hSw.a0
    go_simp⟩) hH ?_
  simp only [List.setIfInBounds_toArray, List.set_cons_zero, List.set_cons_succ]
  refine wpAnyH_ready (rs := [48]) (by kernel_rfl) (by simp) ?_
  refine AllReadyH.cons rfl (fun K hK => ?_) AllReadyH.nil
  go_simp
  refine (HBO.out _ _ _ (HG.out.past (HPW.out.trans' HPD.out)) (HSL.out.past HPD.out)).mono ?_
  rintro e wA ⟨B1, e1, rfl, hs, hp⟩
  have HA : Hid (Past w9 wA) := Lib.hid (HPD.out.trans' hp)
  have HSA := Lib.hid hs
  clear hp hs
  refine hK.out _ _ (HSK.out _ HA.out) (fun hH => ?_)
  clear hK K
  refine wpAnyH_ready (rs := [51]) (by kernel_rfl) (by simp) ?_
  refine AllReadyH.cons rfl (fun K hK => ?_) AllReadyH.nil
  go_simp
  refine (HCO.out B1 e1 wA HSA.out).mono ?_
  rintro e wB ⟨rfl, rfl⟩
  refine hK.out _ _ (HSK.out _ HA.out) (fun hH => ?_)
  clear hK K
  refine held_take 52 99 (v := .bool true) rfl rfl (by kernel_rfl) (by kernel_rfl) (by kernel_rfl) (fun _ _ _ h => h) (Or.inl ⟨by kernel_rfl, fun w _ => by first | kernel_rfl | go_simp⟩) hH ?_
  simp only [List.setIfInBounds_toArray, List.set_cons_zero, List.set_cons_succ]
  refine wpAnyH_ready (rs := [53]) (by kernel_rfl) (by simp) ?_
  refine AllReadyH.cons rfl (fun K hK => ?_) AllReadyH.nil
  go_simp
  refine hK.out _ _ (HSK.out _ HA.out) (fun hH => ?_)
  clear hK K
  refine wpAnyH_done (by kernel_rfl) ?_ _
  go_simp
  go_wp2_with fail
  go_ret
  exact ⟨rfl, HPW.out.trans' HA.out⟩
set_option maxHeartbeats 16000000 in
set_option maxRecDepth 100000 in
theorem walk_10 (a b ka kb : Int) (w : World) (hma : a.tmod 25 = ka) (hmb : b.tmod 25 = kb) (ha0 : 0 ≤ a) (ha1 : a ≤ 255) (hb0 : 0 ≤ b) (hb1 : b ≤ 255) (hka : 0 ≤ ka ∧ ka < 25) (hkb : 0 ≤ kb ∧ kb < 25) (hcz : (row13 (1 + ka)).cose = 0) (htz : ¬ (row13 (1 + ka)).typ = 0) (hG : Glob13 w) :
    Calls Tryd.prog 6 #[.int .u8 a, .int .u8 b] w fun e w' => e = .returned (.bool true) ∧ Past w w' := by
  have HG := Lib.hid hG
  have hia : 1 ≤ 1 + ka ∧ 1 + ka ≤ 25 := by omega
  have hib : 1 ≤ 1 + kb ∧ 1 + kb ≤ 25 := by omega
  have hm2 : a % 25 = ka := by rw [← hma, Int.tmod_eq_emod_of_nonneg ha0]
  have hm3 : b % 25 = kb := by rw [← hmb, Int.tmod_eq_emod_of_nonneg hb0]
  have hw1 : IntKind.i64.wrap (1 + ka) = 1 + ka := by rw [IntKind.wrap_i64]; omega
  have hw2 : IntKind.i64.wrap (1 + kb) = 1 + kb := by rw [IntKind.wrap_i64]; omega
  have HNS := Lib.hid (name_same hia hib)
  skip
  have HTS := Lib.hid (type_same hia hib htz)
  have HFI : Hid (firstA (pName (row13 (1 + ka)).name) = 1 + ka) := Lib.hid (first_one hia.1 hia.2 (by unfold pName; simp) (paramsFinds.name_one _))
  have HAA : Hid ((row13 (1 + ka)).alg = 1 + ka ∧ (row13 (1 + kb)).alg = 1 + kb) := Lib.hid ⟨alg_in hia, alg_in hib⟩
  have HMEM : Hid ((row13 (1 + ka)).alg ∈ algs (pText (row13 (1 + ka)).text) 25) := Lib.hid (by
    rw [alg_in hia]
    unfold algs
    exact List.mem_filter.2 ⟨List.mem_map.2 ⟨ka.toNat, List.mem_range.2 (by omega), by omega⟩, by unfold pText; simp⟩)
  have HGE : ∀ k : Int, 1 ≤ k ∧ k ≤ 25 → Hid (∀ w e w', GetP k w e w' → ∃ A c, e = .returned (.tuple #[.agg (setC (row13 k) (.slice A (oidL k).length c)), .bool true]) ∧ SlK .u32 w' A (oidL k).length c (oidL k) ∧ Past w w') := fun k hk => Lib.hid (fun w e w' h => by
    obtain ⟨h, hp⟩ := h
    rw [if_pos hk] at h
    obtain ⟨A, c, e1, e2⟩ := h
    exact ⟨A, c, e1, e2, hp⟩)
  have HGA := HGE _ hia
  have HGB := HGE _ hib
  have HGN := Lib.hid (fun w hG => byName_any (row13 (1 + ka)).name w hG)
  rw [HFI.out] at HGN
  have HBO := Lib.hid (fun A c w hG h => byOid_any A (oidL (1 + ka)).length c (oidL (1 + ka)) w hG h (oid_in hia) (by have := (oid_some hia).2.2.2.1; omega))
  rw [oid_text hia] at HBO
  have HCO := Lib.hid (fun A c w h => contains_any A c (algs (pText (row13 (1 + ka)).text) 25) (row13 (1 + ka)).alg w (Nat.le_trans (algs_len _ 25) (by decide)) h HMEM.out)
  unfold IntsP at HBO
  have HG1 := Lib.hid (fun w hG => get_any (1 + ka) w hG)
  have HG2 := Lib.hid (fun w hG => get_any (1 + kb) w hG)
  have hal : ((row13 (1 + ka)).alg == (row13 (1 + kb)).alg) = decide (1 + ka = 1 + kb) := by rw [HAA.out.1, HAA.out.2]; rfl
  have HZ1 := Lib.hid hcz
  have HZ2 := Lib.hid htz
  clear HGE HMEM HFI hia hib hka hkb HAA hcz htz
  rw [← hal] at HNS  HTS
  clear hal
  generalize row13 (1 + ka) = x at *
  generalize row13 (1 + kb) = y at *
  generalize oidL (1 + ka) = l at *
  generalize oidL (1 + kb) = l2 at *
  obtain ⟨n, hn⟩ : ∃ n, l.length = n := ⟨_, rfl⟩
  obtain ⟨n2, hn2⟩ : ∃ n, l2.length = n := ⟨_, rfl⟩
  rw [hn] at HGA HBO
  rw [hn2] at HGB
  generalize algs (pText x.text) 25 = LT at *
  obtain ⟨ja, hja⟩ : ∃ j, 1 + ka = j := ⟨_, rfl⟩
  obtain ⟨jb, hjb⟩ : ∃ j, 1 + kb = j := ⟨_, rfl⟩
  rw [hja] at HGA HGN HG1 hw1
  rw [hjb] at HGB HG2 hw2
  have hja2 : IntKind.i64.wrap (1 + ka) = ja := by rw [hja]; exact hw1
  have hjb2 : IntKind.i64.wrap (1 + kb) = jb := by rw [hjb]; exact hw2
  clear hn hn2 hG
  go_enter Tryd.func6, Tryd.ntmps6
  go_wp2_with fail
  refine (awake13 w HG.out).mono ?_
  rintro e w1 ⟨rfl, hp⟩
  have H1 := Lib.hid hp
  clear hp
  go_wp2_with fail
  refine (HG1.out w1 (HG.out.past H1.out)).mono ?_
  intro e w2 he
  obtain ⟨A, c, rfl, hs, hp⟩ := HGA.out _ _ _ he
  obtain ⟨u1, hu⟩ : ∃ g, w2.heap.size = g := ⟨_, rfl⟩
  obtain ⟨w3, hw⟩ : ∃ w', w2.alloc (.cells (setC x (.slice A n c)) 26) = w' := ⟨_, rfl⟩
  have hpa : Past w2 w3 := by rw [← hw]; exact past_alloc13 _ _
  have hrowu1 : Row w3 u1 26 (setC x (.slice A n c)) := by rw [← hw, ← hu]; exact Row.new _ _ _
  have HW := Lib.hid hw
  have HU := Lib.hid hu
  clear hw hu
  go_upto_region 4 with (fail)
  rw [HW.out]
  try rw [HU.out]
  clear HW HU
  have H3 : Hid (Past w w3) := Lib.hid ((H1.out.trans' hp).trans' hpa)
  have HS3 := Lib.hid (hs.past hpa)
  have HR1 := Lib.hid hrowu1
  clear hp hs hpa hrowu1 he H1 HG1
  go_wp2_with fail
  refine (HG2.out w3 (HG.out.past H3.out)).mono ?_
  intro e w4 he
  obtain ⟨A2, c2, rfl, hs, hp⟩ := HGB.out _ _ _ he
  obtain ⟨u2, hu⟩ : ∃ g, w4.heap.size = g := ⟨_, rfl⟩
  obtain ⟨w5, hw⟩ : ∃ w', w4.alloc (.cells (setC y (.slice A2 n2 c2)) 26) = w' := ⟨_, rfl⟩
  have hpa : Past w4 w5 := by rw [← hw]; exact past_alloc13 _ _
  have hrowu2 : Row w5 u2 26 (setC y (.slice A2 n2 c2)) := by rw [← hw, ← hu]; exact Row.new _ _ _
  have HW := Lib.hid hw
  have HU := Lib.hid hu
  clear hw hu
  go_upto_region 5 with (fail)
  rw [HW.out]
  try rw [HU.out]
  clear HW HU
  have H35 : Hid (Past w3 w5) := Lib.hid (hp.trans' hpa)
  have HR2 := Lib.hid hrowu2
  have k12 := (HR1.out.past H35.out).cell 2
  have k10 := (HR1.out.past H35.out).cell 0
  have k20 := hrowu2.cell 0
  clear hp hs hpa hrowu2 he HG2
  go_wp2_with fail
  refine (HGN.out w5 (HG.out.past (H3.out.trans' H35.out))).mono ?_
  intro e w6 he
  obtain ⟨A3, c3, rfl, hs, hp⟩ := HGA.out _ _ _ he
  obtain ⟨u3, hu⟩ : ∃ g, w6.heap.size = g := ⟨_, rfl⟩
  obtain ⟨w9, hw⟩ : ∃ w', w6.alloc (.cells (setC x (.slice A3 n c3)) 26) = w' := ⟨_, rfl⟩
  have hpa : Past w6 w9 := by rw [← hw]; exact past_alloc13 _ _
  have hrowu3 : Row w9 u3 26 (setC x (.slice A3 n c3)) := by rw [← hw, ← hu]; exact Row.new _ _ _
  have HW := Lib.hid hw
  have HU := Lib.hid hu
  clear hw hu
  go_upto_region 8 with (fail)
  rw [HW.out]
  try rw [HU.out]
  clear HW HU
  have H59 : Hid (Past w5 w9) := Lib.hid (hp.trans' hpa)
  have HR3 := Lib.hid hrowu3
  clear k12 k10 k20
  have k10 := (HR1.out.past (H35.out.trans' H59.out)).cell 0
  have k20 := (HR2.out.past H59.out).cell 0
  clear hp hs hpa hrowu3 he HGN
  go_upto_region 9 with (fail)
  have HPW : Hid (Past w w9) := Lib.hid (H3.out.trans' (H35.out.trans' H59.out))
  have HSL : Hid (SlK .u32 w9 A n c l) := Lib.hid (HS3.out.past (H35.out.trans' H59.out))
  have HSK : Hid (∀ w', Past w9 w' → Sa u1 u2 u3 x y (.slice A n c) w') := Lib.hid (fun w' h => Sa.of (HR1.out.past ((H35.out.trans' H59.out).trans' h)) (HR2.out.past (H59.out.trans' h)) (HR3.out.past h))
  clear k10 k20 H3 H35 H59 HR1 HR2 HR3 HS3
  skip
  generalize (x.alg == y.alg) = bs at *
  have hns := HNS.out
  skip
  have hts := HTS.out
  have hcz := HZ1.out
  have htz := HZ2.out
  have hcb : (x.cose == 0) = true := by simp [hcz]
  have htb : (x.typ == 0) = false := by simp [htz]
  have hcd : decide (x.cose = 0) = true := by simp [hcz]
  have htd : decide (x.typ = 0) = false := by simp [htz]
  have HPD : Hid (Past w9 w9.drew) := Lib.hid (Past.drewN (Below.refl _ w9) 1)
  have hU : undef = Value.tuple #[] := rfl
  clear hcz htz
  refine wp_region_held_drew (S := Sa u1 u2 u3 x y (.slice A n c)) (by kernel_rfl) (HSK.out _ HPD.out) (fun hH => ?_)
  refine held_take 0 47 (v := .bool true) rfl rfl (by kernel_rfl) (by kernel_rfl) (by kernel_rfl) (fun _ _ _ h => h) (Or.inl ⟨by kernel_rfl, fun w _ => by first | kernel_rfl | go_simp⟩) hH ?_
  simp only [List.setIfInBounds_toArray, List.set_cons_zero, List.set_cons_succ]
  refine held_take 1 48 (v := .bool true) rfl rfl (by kernel_rfl) (by kernel_rfl) (by kernel_rfl) (fun _ _ _ h => h) (Or.inl ⟨by kernel_rfl, fun w _ => by first | kernel_rfl | go_simp⟩) hH ?_
  simp only [List.setIfInBounds_toArray, List.set_cons_zero, List.set_cons_succ]
  refine held_take 2 49 (v := .pointer (some ⟨u3, 0, none⟩)) rfl rfl (by kernel_rfl) (by kernel_rfl) (by kernel_rfl) (fun _ _ _ h => h) (Or.inl ⟨by kernel_rfl, fun w _ => by first | kernel_rfl | go_simp⟩) hH ?_
  simp only [List.setIfInBounds_toArray, List.set_cons_zero, List.set_cons_succ]
  refine held_take 3 50 (v := .int .i64 x.alg) rfl rfl (by kernel_rfl) (by kernel_rfl) (by kernel_rfl) (fun _ _ _ h => h) (Or.inl ⟨by kernel_rfl, fun w hSw => by
    have hcell := hSw.c0
    go_simp⟩) hH ?_
  simp only [List.setIfInBounds_toArray, List.set_cons_zero, List.set_cons_succ]
  refine held_take 4 51 (v := .pointer (some ⟨u1, 0, none⟩)) rfl rfl (by kernel_rfl) (by kernel_rfl) (by kernel_rfl) (fun _ _ _ h => h) (Or.inl ⟨by kernel_rfl, fun w _ => by first | kernel_rfl | go_simp⟩) hH ?_
  simp only [List.setIfInBounds_toArray, List.set_cons_zero, List.set_cons_succ]
  refine held_take 5 52 (v := .int .i64 x.alg) rfl rfl (by kernel_rfl) (by kernel_rfl) (by kernel_rfl) (fun _ _ _ h => h) (Or.inl ⟨by kernel_rfl, fun w hSw => by
    have hcell := hSw.a0
    go_simp⟩) hH ?_
  simp only [List.setIfInBounds_toArray, List.set_cons_zero, List.set_cons_succ]
  refine held_take 6 53 (v := .bool true) rfl rfl (by kernel_rfl) (by kernel_rfl) (by kernel_rfl) (fun _ _ _ h => h) (Or.inl ⟨by kernel_rfl, fun w _ => by go_simp⟩) hH ?_
  simp only [List.setIfInBounds_toArray, List.set_cons_zero, List.set_cons_succ]
  refine held_take 7 54 (v := .bool true) rfl rfl (by kernel_rfl) (by kernel_rfl) (by kernel_rfl) (fun _ _ _ h => h) (Or.inl ⟨by kernel_rfl, fun w _ => by first | kernel_rfl | go_simp⟩) hH ?_
  simp only [List.setIfInBounds_toArray, List.set_cons_zero, List.set_cons_succ]
  refine held_take 8 55 (v := .bool true) rfl rfl (by kernel_rfl) (by kernel_rfl) (by kernel_rfl) (fun _ _ _ h => h) (Or.inl ⟨by kernel_rfl, fun w _ => by first | kernel_rfl | go_simp⟩) hH ?_
  simp only [List.setIfInBounds_toArray, List.set_cons_zero, List.set_cons_succ]
  refine held_take 9 56 (v := .pointer (some ⟨u1, 2, none⟩)) rfl rfl (by kernel_rfl) (by kernel_rfl) (by kernel_rfl) (fun _ _ _ h => h) (Or.inl ⟨by kernel_rfl, fun w _ => by first | kernel_rfl | go_simp⟩) hH ?_
  simp only [List.setIfInBounds_toArray, List.set_cons_zero, List.set_cons_succ]
  refine held_take 10 57 (v := .string x.name) rfl rfl (by kernel_rfl) (by kernel_rfl) (by kernel_rfl) (fun _ _ _ h => h) (Or.inl ⟨by kernel_rfl, fun w hSw => by
    have hcell := hSw.a2
    go_simp⟩) hH ?_
  simp only [List.setIfInBounds_toArray, List.set_cons_zero, List.set_cons_succ]
  refine held_take 11 58 (v := .pointer (some ⟨u2, 2, none⟩)) rfl rfl (by kernel_rfl) (by kernel_rfl) (by kernel_rfl) (fun _ _ _ h => h) (Or.inl ⟨by kernel_rfl, fun w _ => by first | kernel_rfl | go_simp⟩) hH ?_
  simp only [List.setIfInBounds_toArray, List.set_cons_zero, List.set_cons_succ]
  refine held_take 12 59 (v := .string y.name) rfl rfl (by kernel_rfl) (by kernel_rfl) (by kernel_rfl) (fun _ _ _ h => h) (Or.inl ⟨by kernel_rfl, fun w hSw => by
    have hcell := hSw.b2
    go_simp⟩) hH ?_
  simp only [List.setIfInBounds_toArray, List.set_cons_zero, List.set_cons_succ]
  refine held_take 13 60 (v := .bool bs) rfl rfl (by kernel_rfl) (by kernel_rfl) (by kernel_rfl) (fun _ _ _ h => h) (Or.inl ⟨by kernel_rfl, fun w _ => by go_simp⟩) hH ?_
  simp only [List.setIfInBounds_toArray, List.set_cons_zero, List.set_cons_succ]
  refine held_take 14 61 (v := .bool bs) rfl rfl (by kernel_rfl) (by kernel_rfl) (by kernel_rfl) (fun _ _ _ h => h) (Or.inl ⟨by kernel_rfl, fun w _ => by first | kernel_rfl | go_simp⟩) hH ?_
  simp only [List.setIfInBounds_toArray, List.set_cons_zero, List.set_cons_succ]
  refine held_take 15 62 (v := .bool true) rfl rfl (by kernel_rfl) (by kernel_rfl) (by kernel_rfl) (fun _ _ _ h => h) (Or.inl ⟨by kernel_rfl, fun w _ => by go_simp⟩) hH ?_
  simp only [List.setIfInBounds_toArray, List.set_cons_zero, List.set_cons_succ]
  refine held_take 16 63 (v := .bool true) rfl rfl (by kernel_rfl) (by kernel_rfl) (by kernel_rfl) (fun _ _ _ h => h) (Or.inl ⟨by kernel_rfl, fun w _ => by first | kernel_rfl | go_simp⟩) hH ?_
  simp only [List.setIfInBounds_toArray, List.set_cons_zero, List.set_cons_succ]
  refine held_take 17 64 (v := .bool true) rfl rfl (by kernel_rfl) (by kernel_rfl) (by kernel_rfl) (fun _ _ _ h => h) (Or.inl ⟨by kernel_rfl, fun w _ => by first | kernel_rfl | go_simp⟩) hH ?_
  simp only [List.setIfInBounds_toArray, List.set_cons_zero, List.set_cons_succ]
  refine held_take 18 65 (v := .pointer (some ⟨u1, 8, none⟩)) rfl rfl (by kernel_rfl) (by kernel_rfl) (by kernel_rfl) (fun _ _ _ h => h) (Or.inl ⟨by kernel_rfl, fun w _ => by first | kernel_rfl | go_simp⟩) hH ?_
  simp only [List.setIfInBounds_toArray, List.set_cons_zero, List.set_cons_succ]
  refine held_take 19 66 (v := .int .i64 x.cose) rfl rfl (by kernel_rfl) (by kernel_rfl) (by kernel_rfl) (fun _ _ _ h => h) (Or.inl ⟨by kernel_rfl, fun w hSw => by
    have hcell := hSw.a8
    go_simp⟩) hH ?_
  simp only [List.setIfInBounds_toArray, List.set_cons_zero, List.set_cons_succ]
  refine held_take 20 67 (v := .bool true) rfl rfl (by kernel_rfl) (by kernel_rfl) (by kernel_rfl) (fun _ _ _ h => h) (Or.inl ⟨by kernel_rfl, fun w _ => by go_simp⟩) hH ?_
  simp only [List.setIfInBounds_toArray, List.set_cons_zero, List.set_cons_succ]
  refine held_take 21 68 (v := .bool true) rfl rfl (by kernel_rfl) (by kernel_rfl) (by kernel_rfl) (fun _ _ _ h => h) (Or.inl ⟨by kernel_rfl, fun w _ => by first | kernel_rfl | go_simp⟩) hH ?_
  simp only [List.setIfInBounds_toArray, List.set_cons_zero, List.set_cons_succ]
  refine held_take 22 69 (v := undef) rfl rfl (by kernel_rfl) (by kernel_rfl) (by kernel_rfl) (fun _ _ _ h => h) (Or.inr ⟨by kernel_rfl, rfl⟩) hH ?_
  simp only [List.setIfInBounds_toArray, List.set_cons_zero, List.set_cons_succ]
  refine held_take 23 70 (v := undef) rfl rfl (by kernel_rfl) (by kernel_rfl) (by kernel_rfl) (fun _ _ _ h => h) (Or.inr ⟨by kernel_rfl, rfl⟩) hH ?_
  simp only [List.setIfInBounds_toArray, List.set_cons_zero, List.set_cons_succ]
  refine held_take 24 71 (v := undef) rfl rfl (by kernel_rfl) (by kernel_rfl) (by kernel_rfl) (fun _ _ _ h => h) (Or.inr ⟨by kernel_rfl, rfl⟩) hH ?_
  simp only [List.setIfInBounds_toArray, List.set_cons_zero, List.set_cons_succ]
  refine held_take 25 72 (v := undef) rfl rfl (by kernel_rfl) (by kernel_rfl) (by kernel_rfl) (fun _ _ _ h => h) (Or.inr ⟨by kernel_rfl, rfl⟩) hH ?_
  simp only [List.setIfInBounds_toArray, List.set_cons_zero, List.set_cons_succ]
  refine held_take 26 73 (v := undef) rfl rfl (by kernel_rfl) (by kernel_rfl) (by kernel_rfl) (fun _ _ _ h => h) (Or.inr ⟨by kernel_rfl, rfl⟩) hH ?_
  simp only [List.setIfInBounds_toArray, List.set_cons_zero, List.set_cons_succ]
  refine held_take 27 74 (v := undef) rfl rfl (by kernel_rfl) (by kernel_rfl) (by kernel_rfl) (fun _ _ _ h => h) (Or.inr ⟨by kernel_rfl, rfl⟩) hH ?_
  simp only [List.setIfInBounds_toArray, List.set_cons_zero, List.set_cons_succ]
  refine held_take 28 75 (v := undef) rfl rfl (by kernel_rfl) (by kernel_rfl) (by kernel_rfl) (fun _ _ _ h => h) (Or.inr ⟨by kernel_rfl, rfl⟩) hH ?_
  simp only [List.setIfInBounds_toArray, List.set_cons_zero, List.set_cons_succ]
  refine held_take 29 76 (v := .bool true) rfl rfl (by kernel_rfl) (by kernel_rfl) (by kernel_rfl) (fun _ _ _ h => h) (Or.inl ⟨by kernel_rfl, fun w _ => by first | kernel_rfl | go_simp⟩) hH ?_
  simp only [List.setIfInBounds_toArray, List.set_cons_zero, List.set_cons_succ]
  refine held_take 30 77 (v := .bool true) rfl rfl (by kernel_rfl) (by kernel_rfl) (by kernel_rfl) (fun _ _ _ h => h) (Or.inl ⟨by kernel_rfl, fun w _ => by first | kernel_rfl | go_simp⟩) hH ?_
  simp only [List.setIfInBounds_toArray, List.set_cons_zero, List.set_cons_succ]
  refine held_take 31 78 (v := .bool true) rfl rfl (by kernel_rfl) (by kernel_rfl) (by kernel_rfl) (fun _ _ _ h => h) (Or.inl ⟨by kernel_rfl, fun w _ => by first | kernel_rfl | go_simp⟩) hH ?_
  simp only [List.setIfInBounds_toArray, List.set_cons_zero, List.set_cons_succ]
  refine held_take 32 79 (v := .pointer (some ⟨u1, 9, none⟩)) rfl rfl (by kernel_rfl) (by kernel_rfl) (by kernel_rfl) (fun _ _ _ h => h) (Or.inl ⟨by kernel_rfl, fun w _ => by first | kernel_rfl | go_simp⟩) hH ?_
  simp only [List.setIfInBounds_toArray, List.set_cons_zero, List.set_cons_succ]
  refine held_take 33 80 (v := .int .u32 x.typ) rfl rfl (by kernel_rfl) (by kernel_rfl) (by kernel_rfl) (fun _ _ _ h => h) (Or.inl ⟨by kernel_rfl, fun w hSw => by
    have hcell := hSw.a9
    go_simp⟩) hH ?_
  simp only [List.setIfInBounds_toArray, List.set_cons_zero, List.set_cons_succ]
  refine held_take 34 81 (v := .bool false) rfl rfl (by kernel_rfl) (by kernel_rfl) (by kernel_rfl) (fun _ _ _ h => h) (Or.inl ⟨by kernel_rfl, fun w _ => by go_simp⟩) hH ?_
  simp only [List.setIfInBounds_toArray, List.set_cons_zero, List.set_cons_succ]
  refine held_take 35 82 (v := .bool false) rfl rfl (by kernel_rfl) (by kernel_rfl) (by kernel_rfl) (fun _ _ _ h => h) (Or.inl ⟨by kernel_rfl, fun w _ => by first | kernel_rfl | go_simp⟩) hH ?_
  simp only [List.setIfInBounds_toArray, List.set_cons_zero, List.set_cons_succ]
  refine held_take 36 83 (v := .pointer (some ⟨u1, 9, none⟩)) rfl rfl (by kernel_rfl) (by kernel_rfl) (by kernel_rfl) (fun _ _ _ h => h) (Or.inl ⟨by kernel_rfl, fun w _ => by first | kernel_rfl | go_simp⟩) hH ?_
  simp only [List.setIfInBounds_toArray, List.set_cons_zero, List.set_cons_succ]
  refine held_take 37 84 (v := .int .u32 x.typ) rfl rfl (by kernel_rfl) (by kernel_rfl) (by kernel_rfl) (fun _ _ _ h => h) (Or.inl ⟨by kernel_rfl, fun w hSw => by
    have hcell := hSw.a9
    go_simp⟩) hH ?_
  simp only [List.setIfInBounds_toArray, List.set_cons_zero, List.set_cons_succ]
  refine held_take 38 85 (v := .pointer (some ⟨u2, 9, none⟩)) rfl rfl (by kernel_rfl) (by kernel_rfl) (by kernel_rfl) (fun _ _ _ h => h) (Or.inl ⟨by kernel_rfl, fun w _ => by first | kernel_rfl | go_simp⟩) hH ?_
  simp only [List.setIfInBounds_toArray, List.set_cons_zero, List.set_cons_succ]
  refine held_take 39 86 (v := .int .u32 y.typ) rfl rfl (by kernel_rfl) (by kernel_rfl) (by kernel_rfl) (fun _ _ _ h => h) (Or.inl ⟨by kernel_rfl, fun w hSw => by
    have hcell := hSw.b9
    go_simp⟩) hH ?_
  simp only [List.setIfInBounds_toArray, List.set_cons_zero, List.set_cons_succ]
  refine held_take 40 87 (v := .bool bs) rfl rfl (by kernel_rfl) (by kernel_rfl) (by kernel_rfl) (fun _ _ _ h => h) (Or.inl ⟨by kernel_rfl, fun w _ => by go_simp⟩) hH ?_
  simp only [List.setIfInBounds_toArray, List.set_cons_zero, List.set_cons_succ]
  refine held_take 41 88 (v := .bool bs) rfl rfl (by kernel_rfl) (by kernel_rfl) (by kernel_rfl) (fun _ _ _ h => h) (Or.inl ⟨by kernel_rfl, fun w _ => by first | kernel_rfl | go_simp⟩) hH ?_
  simp only [List.setIfInBounds_toArray, List.set_cons_zero, List.set_cons_succ]
  refine held_take 42 89 (v := .bool true) rfl rfl (by kernel_rfl) (by kernel_rfl) (by kernel_rfl) (fun _ _ _ h => h) (Or.inl ⟨by kernel_rfl, fun w _ => by go_simp⟩) hH ?_
  simp only [List.setIfInBounds_toArray, List.set_cons_zero, List.set_cons_succ]
  refine held_take 43 90 (v := .bool true) rfl rfl (by kernel_rfl) (by kernel_rfl) (by kernel_rfl) (fun _ _ _ h => h) (Or.inl ⟨by kernel_rfl, fun w _ => by first | kernel_rfl | go_simp⟩) hH ?_
  simp only [List.setIfInBounds_toArray, List.set_cons_zero, List.set_cons_succ]
  refine held_take 44 91 (v := .bool true) rfl rfl (by kernel_rfl) (by kernel_rfl) (by kernel_rfl) (fun _ _ _ h => h) (Or.inl ⟨by kernel_rfl, fun w _ => by first | kernel_rfl | go_simp⟩) hH ?_
  simp only [List.setIfInBounds_toArray, List.set_cons_zero, List.set_cons_succ]
  refine held_take 45 92 (v := .bool true) rfl rfl (by kernel_rfl) (by kernel_rfl) (by kernel_rfl) (fun _ _ _ h => h) (Or.inl ⟨by kernel_rfl, fun w _ => by first | kernel_rfl | go_simp⟩) hH ?_
  simp only [List.setIfInBounds_toArray, List.set_cons_zero, List.set_cons_succ]
  refine held_take 46 93 (v := .pointer (some ⟨u1, 7, none⟩)) rfl rfl (by kernel_rfl) (by kernel_rfl) (by kernel_rfl) (fun _ _ _ h => h) (Or.inl ⟨by kernel_rfl, fun w _ => by first | kernel_rfl | go_simp⟩) hH ?_
  simp only [List.setIfInBounds_toArray, List.set_cons_zero, List.set_cons_succ]
  refine held_take 47 94 (v := .slice A n c) rfl rfl (by kernel_rfl) (by kernel_rfl) (by kernel_rfl) (fun _ _ _ h => h) (Or.inl ⟨by kernel_rfl, fun w hSw => by
    have hcell := hSw.a7
    go_simp⟩) hH ?_
  simp only [List.setIfInBounds_toArray, List.set_cons_zero, List.set_cons_succ]
  refine held_take 49 96 (v := .pointer (some ⟨u1, 0, none⟩)) rfl rfl (by kernel_rfl) (by kernel_rfl) (by kernel_rfl) (fun _ _ _ h => h) (Or.inl ⟨by kernel_rfl, fun w _ => by first | kernel_rfl | go_simp⟩) hH ?_
  simp only [List.setIfInBounds_toArray, List.set_cons_zero, List.set_cons_succ]
  refine held_take 50 97 (v := .int .i64 x.alg) rfl rfl (by kernel_rfl) (by kernel_rfl) (by kernel_rfl) (fun _ _ _ h => h) (Or.inl ⟨by kernel_rfl, fun w hSw => by
    have hcell := hSw.a0
    go_simp⟩) hH ?_
  simp only [List.setIfInBounds_toArray, List.set_cons_zero, List.set_cons_succ]
  refine wpAnyH_ready (rs := [48]) (by kernel_rfl) (by simp) ?_
  refine AllReadyH.cons rfl (fun K hK => ?_) AllReadyH.nil
  go_simp
  refine (HBO.out _ _ _ (HG.out.past (HPW.out.trans' HPD.out)) (HSL.out.past HPD.out)).mono ?_
  rintro e wA ⟨B1, e1, rfl, hs, hp⟩
  have HA : Hid (Past w9 wA) := Lib.hid (HPD.out.trans' hp)
  have HSA := Lib.hid hs
  clear hp hs
  refine hK.out _ _ (HSK.out _ HA.out) (fun hH => ?_)
  clear hK K
  refine wpAnyH_ready (rs := [51]) (by kernel_rfl) (by simp) ?_
  refine AllReadyH.cons rfl (fun K hK => ?_) AllReadyH.nil
  go_simp
  refine (HCO.out B1 e1 wA HSA.out).mono ?_
  rintro e wB ⟨rfl, rfl⟩
  refine hK.out _ _ (HSK.out _ HA.out) (fun hH => ?_)
  clear hK K
  refine held_take 52 99 (v := .bool true) rfl rfl (by kernel_rfl) (by kernel_rfl) (by kernel_rfl) (fun _ _ _ h => h) (Or.inl ⟨by kernel_rfl, fun w _ => by first | kernel_rfl | go_simp⟩) hH ?_
  simp only [List.setIfInBounds_toArray, List.set_cons_zero, List.set_cons_succ]
  refine wpAnyH_ready (rs := [53]) (by kernel_rfl) (by simp) ?_
  refine AllReadyH.cons rfl (fun K hK => ?_) AllReadyH.nil
  go_simp
  refine hK.out _ _ (HSK.out _ HA.out) (fun hH => ?_)
  clear hK K
  refine wpAnyH_done (by kernel_rfl) ?_ _
  go_simp
  go_wp2_with fail
  go_ret
  exact ⟨rfl, HPW.out.trans' HA.out⟩
set_option maxHeartbeats 16000000 in
set_option maxRecDepth 100000 in
theorem walk_11 (a b ka kb : Int) (w : World) (hma : a.tmod 25 = ka) (hmb : b.tmod 25 = kb) (ha0 : 0 ≤ a) (ha1 : a ≤ 255) (hb0 : 0 ≤ b) (hb1 : b ≤ 255) (hka : 0 ≤ ka ∧ ka < 25) (hkb : 0 ≤ kb ∧ kb < 25) (hcz : (row13 (1 + ka)).cose = 0) (htz : (row13 (1 + ka)).typ = 0) (hG : Glob13 w) :
    Calls Tryd.prog 6 #[.int .u8 a, .int .u8 b] w fun e w' => e = .returned (.bool true) ∧ Past w w' := by
  have HG := Lib.hid hG
  have hia : 1 ≤ 1 + ka ∧ 1 + ka ≤ 25 := by omega
  have hib : 1 ≤ 1 + kb ∧ 1 + kb ≤ 25 := by omega
  have hm2 : a % 25 = ka := by rw [← hma, Int.tmod_eq_emod_of_nonneg ha0]
  have hm3 : b % 25 = kb := by rw [← hmb, Int.tmod_eq_emod_of_nonneg hb0]
  have hw1 : IntKind.i64.wrap (1 + ka) = 1 + ka := by rw [IntKind.wrap_i64]; omega
  have hw2 : IntKind.i64.wrap (1 + kb) = 1 + kb := by rw [IntKind.wrap_i64]; omega
  have HNS := Lib.hid (name_same hia hib)
  skip
  skip
  have HFI : Hid (firstA (pName (row13 (1 + ka)).name) = 1 + ka) := Lib.hid (first_one hia.1 hia.2 (by unfold pName; simp) (paramsFinds.name_one _))
  have HAA : Hid ((row13 (1 + ka)).alg = 1 + ka ∧ (row13 (1 + kb)).alg = 1 + kb) := Lib.hid ⟨alg_in hia, alg_in hib⟩
  have HMEM : Hid ((row13 (1 + ka)).alg ∈ algs (pText (row13 (1 + ka)).text) 25) := Lib.hid (by
    rw [alg_in hia]
    unfold algs
    exact List.mem_filter.2 ⟨List.mem_map.2 ⟨ka.toNat, List.mem_range.2 (by omega), by omega⟩, by unfold pText; simp⟩)
  have HGE : ∀ k : Int, 1 ≤ k ∧ k ≤ 25 → Hid (∀ w e w', GetP k w e w' → ∃ A c, e = .returned (.tuple #[.agg (setC (row13 k) (.slice A (oidL k).length c)), .bool true]) ∧ SlK .u32 w' A (oidL k).length c (oidL k) ∧ Past w w') := fun k hk => Lib.hid (fun w e w' h => by
    obtain ⟨h, hp⟩ := h
    rw [if_pos hk] at h
    obtain ⟨A, c, e1, e2⟩ := h
    exact ⟨A, c, e1, e2, hp⟩)
  have HGA := HGE _ hia
  have HGB := HGE _ hib
  have HGN := Lib.hid (fun w hG => byName_any (row13 (1 + ka)).name w hG)
  rw [HFI.out] at HGN
  have HBO := Lib.hid (fun A c w hG h => byOid_any A (oidL (1 + ka)).length c (oidL (1 + ka)) w hG h (oid_in hia) (by have := (oid_some hia).2.2.2.1; omega))
  rw [oid_text hia] at HBO
  have HCO := Lib.hid (fun A c w h => contains_any A c (algs (pText (row13 (1 + ka)).text) 25) (row13 (1 + ka)).alg w (Nat.le_trans (algs_len _ 25) (by decide)) h HMEM.out)
  unfold IntsP at HBO
  have HG1 := Lib.hid (fun w hG => get_any (1 + ka) w hG)
  have HG2 := Lib.hid (fun w hG => get_any (1 + kb) w hG)
  have hal : ((row13 (1 + ka)).alg == (row13 (1 + kb)).alg) = decide (1 + ka = 1 + kb) := by rw [HAA.out.1, HAA.out.2]; rfl
  have HZ1 := Lib.hid hcz
  have HZ2 := Lib.hid htz
  clear HGE HMEM HFI hia hib hka hkb HAA hcz htz
  rw [← hal] at HNS  
  clear hal
  generalize row13 (1 + ka) = x at *
  generalize row13 (1 + kb) = y at *
  generalize oidL (1 + ka) = l at *
  generalize oidL (1 + kb) = l2 at *
  obtain ⟨n, hn⟩ : ∃ n, l.length = n := ⟨_, rfl⟩
  obtain ⟨n2, hn2⟩ : ∃ n, l2.length = n := ⟨_, rfl⟩
  rw [hn] at HGA HBO
  rw [hn2] at HGB
  generalize algs (pText x.text) 25 = LT at *
  obtain ⟨ja, hja⟩ : ∃ j, 1 + ka = j := ⟨_, rfl⟩
  obtain ⟨jb, hjb⟩ : ∃ j, 1 + kb = j := ⟨_, rfl⟩
  rw [hja] at HGA HGN HG1 hw1
  rw [hjb] at HGB HG2 hw2
  have hja2 : IntKind.i64.wrap (1 + ka) = ja := by rw [hja]; exact hw1
  have hjb2 : IntKind.i64.wrap (1 + kb) = jb := by rw [hjb]; exact hw2
  clear hn hn2 hG
  go_enter Tryd.func6, Tryd.ntmps6
  go_wp2_with fail
  refine (awake13 w HG.out).mono ?_
  rintro e w1 ⟨rfl, hp⟩
  have H1 := Lib.hid hp
  clear hp
  go_wp2_with fail
  refine (HG1.out w1 (HG.out.past H1.out)).mono ?_
  intro e w2 he
  obtain ⟨A, c, rfl, hs, hp⟩ := HGA.out _ _ _ he
  obtain ⟨u1, hu⟩ : ∃ g, w2.heap.size = g := ⟨_, rfl⟩
  obtain ⟨w3, hw⟩ : ∃ w', w2.alloc (.cells (setC x (.slice A n c)) 26) = w' := ⟨_, rfl⟩
  have hpa : Past w2 w3 := by rw [← hw]; exact past_alloc13 _ _
  have hrowu1 : Row w3 u1 26 (setC x (.slice A n c)) := by rw [← hw, ← hu]; exact Row.new _ _ _
  have HW := Lib.hid hw
  have HU := Lib.hid hu
  clear hw hu
  go_upto_region 4 with (fail)
  rw [HW.out]
  try rw [HU.out]
  clear HW HU
  have H3 : Hid (Past w w3) := Lib.hid ((H1.out.trans' hp).trans' hpa)
  have HS3 := Lib.hid (hs.past hpa)
  have HR1 := Lib.hid hrowu1
  clear hp hs hpa hrowu1 he H1 HG1
  go_wp2_with fail
  refine (HG2.out w3 (HG.out.past H3.out)).mono ?_
  intro e w4 he
  obtain ⟨A2, c2, rfl, hs, hp⟩ := HGB.out _ _ _ he
  obtain ⟨u2, hu⟩ : ∃ g, w4.heap.size = g := ⟨_, rfl⟩
  obtain ⟨w5, hw⟩ : ∃ w', w4.alloc (.cells (setC y (.slice A2 n2 c2)) 26) = w' := ⟨_, rfl⟩
  have hpa : Past w4 w5 := by rw [← hw]; exact past_alloc13 _ _
  have hrowu2 : Row w5 u2 26 (setC y (.slice A2 n2 c2)) := by rw [← hw, ← hu]; exact Row.new _ _ _
  have HW := Lib.hid hw
  have HU := Lib.hid hu
  clear hw hu
  go_upto_region 5 with (fail)
  rw [HW.out]
  try rw [HU.out]
  clear HW HU
  have H35 : Hid (Past w3 w5) := Lib.hid (hp.trans' hpa)
  have HR2 := Lib.hid hrowu2
  have k12 := (HR1.out.past H35.out).cell 2
  have k10 := (HR1.out.past H35.out).cell 0
  have k20 := hrowu2.cell 0
  clear hp hs hpa hrowu2 he HG2
  go_wp2_with fail
  refine (HGN.out w5 (HG.out.past (H3.out.trans' H35.out))).mono ?_
  intro e w6 he
  obtain ⟨A3, c3, rfl, hs, hp⟩ := HGA.out _ _ _ he
  obtain ⟨u3, hu⟩ : ∃ g, w6.heap.size = g := ⟨_, rfl⟩
  obtain ⟨w9, hw⟩ : ∃ w', w6.alloc (.cells (setC x (.slice A3 n c3)) 26) = w' := ⟨_, rfl⟩
  have hpa : Past w6 w9 := by rw [← hw]; exact past_alloc13 _ _
  have hrowu3 : Row w9 u3 26 (setC x (.slice A3 n c3)) := by rw [← hw, ← hu]; exact Row.new _ _ _
  have HW := Lib.hid hw
  have HU := Lib.hid hu
  clear hw hu
  go_upto_region 8 with (fail)
  rw [HW.out]
  try rw [HU.out]
  clear HW HU
  have H59 : Hid (Past w5 w9) := Lib.hid (hp.trans' hpa)
  have HR3 := Lib.hid hrowu3
  clear k12 k10 k20
  have k10 := (HR1.out.past (H35.out.trans' H59.out)).cell 0
  have k20 := (HR2.out.past H59.out).cell 0
  clear hp hs hpa hrowu3 he HGN
  go_upto_region 9 with (fail)
  have HPW : Hid (Past w w9) := Lib.hid (H3.out.trans' (H35.out.trans' H59.out))
  have HSL : Hid (SlK .u32 w9 A n c l) := Lib.hid (HS3.out.past (H35.out.trans' H59.out))
  have HSK : Hid (∀ w', Past w9 w' → Sa u1 u2 u3 x y (.slice A n c) w') := Lib.hid (fun w' h => Sa.of (HR1.out.past ((H35.out.trans' H59.out).trans' h)) (HR2.out.past (H59.out.trans' h)) (HR3.out.past h))
  clear k10 k20 H3 H35 H59 HR1 HR2 HR3 HS3
  skip
  generalize (x.alg == y.alg) = bs at *
  have hns := HNS.out
  skip
  skip
  have hcz := HZ1.out
  have htz := HZ2.out
  have hcb : (x.cose == 0) = true := by simp [hcz]
  have htb : (x.typ == 0) = true := by simp [htz]
  have hcd : decide (x.cose = 0) = true := by simp [hcz]
  have htd : decide (x.typ = 0) = true := by simp [htz]
  have HPD : Hid (Past w9 w9.drew) := Lib.hid (Past.drewN (Below.refl _ w9) 1)
  have hU : undef = Value.tuple #[] := rfl
  clear hcz htz
  refine wp_region_held_drew (S := Sa u1 u2 u3 x y (.slice A n c)) (by kernel_rfl) (HSK.out _ HPD.out) (fun hH => ?_)
  refine held_take 0 47 (v := .bool true) rfl rfl (by kernel_rfl) (by kernel_rfl) (by kernel_rfl) (fun _ _ _ h => h) (Or.inl ⟨by kernel_rfl, fun w _ => by first | kernel_rfl | go_simp⟩) hH ?_
  simp only [List.setIfInBounds_toArray, List.set_cons_zero, List.set_cons_succ]
  refine held_take 1 48 (v := .bool true) rfl rfl (by kernel_rfl) (by kernel_rfl) (by kernel_rfl) (fun _ _ _ h => h) (Or.inl ⟨by kernel_rfl, fun w _ => by first | kernel_rfl | go_simp⟩) hH ?_
  simp only [List.setIfInBounds_toArray, List.set_cons_zero, List.set_cons_succ]
  refine held_take 2 49 (v := .pointer (some ⟨u3, 0, none⟩)) rfl rfl (by kernel_rfl) (by kernel_rfl) (by kernel_rfl) (fun _ _ _ h => h) (Or.inl ⟨by kernel_rfl, fun w _ => by first | kernel_rfl | go_simp⟩) hH ?_
  simp only [List.setIfInBounds_toArray, List.set_cons_zero, List.set_cons_succ]
  refine held_take 3 50 (v := .int .i64 x.alg) rfl rfl (by kernel_rfl) (by kernel_rfl) (by kernel_rfl) (fun _ _ _ h => h) (Or.inl ⟨by kernel_rfl, fun w hSw => by
    have hcell := hSw.c0
    go_simp⟩) hH ?_
  simp only [List.setIfInBounds_toArray, List.set_cons_zero, List.set_cons_succ]
  refine held_take 4 51 (v := .pointer (some ⟨u1, 0, none⟩)) rfl rfl (by kernel_rfl) (by kernel_rfl) (by kernel_rfl) (fun _ _ _ h => h) (Or.inl ⟨by kernel_rfl, fun w _ => by first | kernel_rfl | go_simp⟩) hH ?_
  simp only [List.setIfInBounds_toArray, List.set_cons_zero, List.set_cons_succ]
  refine held_take 5 52 (v := .int .i64 x.alg) rfl rfl (by kernel_rfl) (by kernel_rfl) (by kernel_rfl) (fun _ _ _ h => h) (Or.inl ⟨by kernel_rfl, fun w hSw => by
    have hcell := hSw.a0
    go_simp⟩) hH ?_
  simp only [List.setIfInBounds_toArray, List.set_cons_zero, List.set_cons_succ]
  refine held_take 6 53 (v := .bool true) rfl rfl (by kernel_rfl) (by kernel_rfl) (by kernel_rfl) (fun _ _ _ h => h) (Or.inl ⟨by kernel_rfl, fun w _ => by go_simp⟩) hH ?_
  simp only [List.setIfInBounds_toArray, List.set_cons_zero, List.set_cons_succ]
  refine held_take 7 54 (v := .bool true) rfl rfl (by kernel_rfl) (by kernel_rfl) (by kernel_rfl) (fun _ _ _ h => h) (Or.inl ⟨by kernel_rfl, fun w _ => by first | kernel_rfl | go_simp⟩) hH ?_
  simp only [List.setIfInBounds_toArray, List.set_cons_zero, List.set_cons_succ]
  refine held_take 8 55 (v := .bool true) rfl rfl (by kernel_rfl) (by kernel_rfl) (by kernel_rfl) (fun _ _ _ h => h) (Or.inl ⟨by kernel_rfl, fun w _ => by first | kernel_rfl | go_simp⟩) hH ?_
  simp only [List.setIfInBounds_toArray, List.set_cons_zero, List.set_cons_succ]
  refine held_take 9 56 (v := .pointer (some ⟨u1, 2, none⟩)) rfl rfl (by kernel_rfl) (by kernel_rfl) (by kernel_rfl) (fun _ _ _ h => h) (Or.inl ⟨by kernel_rfl, fun w _ => by first | kernel_rfl | go_simp⟩) hH ?_
  simp only [List.setIfInBounds_toArray, List.set_cons_zero, List.set_cons_succ]
  refine held_take 10 57 (v := .string x.name) rfl rfl (by kernel_rfl) (by kernel_rfl) (by kernel_rfl) (fun _ _ _ h => h) (Or.inl ⟨by kernel_rfl, fun w hSw => by
    have hcell := hSw.a2
    go_simp⟩) hH ?_
  simp only [List.setIfInBounds_toArray, List.set_cons_zero, List.set_cons_succ]
  refine held_take 11 58 (v := .pointer (some ⟨u2, 2, none⟩)) rfl rfl (by kernel_rfl) (by kernel_rfl) (by kernel_rfl) (fun _ _ _ h => h) (Or.inl ⟨by kernel_rfl, fun w _ => by first | kernel_rfl | go_simp⟩) hH ?_
  simp only [List.setIfInBounds_toArray, List.set_cons_zero, List.set_cons_succ]
  refine held_take 12 59 (v := .string y.name) rfl rfl (by kernel_rfl) (by kernel_rfl) (by kernel_rfl) (fun _ _ _ h => h) (Or.inl ⟨by kernel_rfl, fun w hSw => by
    have hcell := hSw.b2
    go_simp⟩) hH ?_
  simp only [List.setIfInBounds_toArray, List.set_cons_zero, List.set_cons_succ]
  refine held_take 13 60 (v := .bool bs) rfl rfl (by kernel_rfl) (by kernel_rfl) (by kernel_rfl) (fun _ _ _ h => h) (Or.inl ⟨by kernel_rfl, fun w _ => by go_simp⟩) hH ?_
  simp only [List.setIfInBounds_toArray, List.set_cons_zero, List.set_cons_succ]
  refine held_take 14 61 (v := .bool bs) rfl rfl (by kernel_rfl) (by kernel_rfl) (by kernel_rfl) (fun _ _ _ h => h) (Or.inl ⟨by kernel_rfl, fun w _ => by first | kernel_rfl | go_simp⟩) hH ?_
  simp only [List.setIfInBounds_toArray, List.set_cons_zero, List.set_cons_succ]
  refine held_take 15 62 (v := .bool true) rfl rfl (by kernel_rfl) (by kernel_rfl) (by kernel_rfl) (fun _ _ _ h => h) (Or.inl ⟨by kernel_rfl, fun w _ => by go_simp⟩) hH ?_
  simp only [List.setIfInBounds_toArray, List.set_cons_zero, List.set_cons_succ]
  refine held_take 16 63 (v := .bool true) rfl rfl (by kernel_rfl) (by kernel_rfl) (by kernel_rfl) (fun _ _ _ h => h) (Or.inl ⟨by kernel_rfl, fun w _ => by first | kernel_rfl | go_simp⟩) hH ?_
  simp only [List.setIfInBounds_toArray, List.set_cons_zero, List.set_cons_succ]
  refine held_take 17 64 (v := .bool true) rfl rfl (by kernel_rfl) (by kernel_rfl) (by kernel_rfl) (fun _ _ _ h => h) (Or.inl ⟨by kernel_rfl, fun w _ => by first | kernel_rfl | go_simp⟩) hH ?_
  simp only [List.setIfInBounds_toArray, List.set_cons_zero, List.set_cons_succ]
  refine held_take 18 65 (v := .pointer (some ⟨u1, 8, none⟩)) rfl rfl (by kernel_rfl) (by kernel_rfl) (by kernel_rfl) (fun _ _ _ h => h) (Or.inl ⟨by kernel_rfl, fun w _ => by first | kernel_rfl | go_simp⟩) hH ?_
  simp only [List.setIfInBounds_toArray, List.set_cons_zero, List.set_cons_succ]
  refine held_take 19 66 (v := .int .i64 x.cose) rfl rfl (by kernel_rfl) (by kernel_rfl) (by kernel_rfl) (fun _ _ _ h => h) (Or.inl ⟨by kernel_rfl, fun w hSw => by
    have hcell := hSw.a8
    go_simp⟩) hH ?_
  simp only [List.setIfInBounds_toArray, List.set_cons_zero, List.set_cons_succ]
  refine held_take 20 67 (v := .bool true) rfl rfl (by kernel_rfl) (by kernel_rfl) (by kernel_rfl) (fun _ _ _ h => h) (Or.inl ⟨by kernel_rfl, fun w _ => by go_simp⟩) hH ?_
  simp only [List.setIfInBounds_toArray, List.set_cons_zero, List.set_cons_succ]
  refine held_take 21 68 (v := .bool true) rfl rfl (by kernel_rfl) (by kernel_rfl) (by kernel_rfl) (fun _ _ _ h => h) (Or.inl ⟨by kernel_rfl, fun w _ => by first | kernel_rfl | go_simp⟩) hH ?_
  simp only [List.setIfInBounds_toArray, List.set_cons_zero, List.set_cons_succ]
  refine held_take 22 69 (v := undef) rfl rfl (by kernel_rfl) (by kernel_rfl) (by kernel_rfl) (fun _ _ _ h => h) (Or.inr ⟨by kernel_rfl, rfl⟩) hH ?_
  simp only [List.setIfInBounds_toArray, List.set_cons_zero, List.set_cons_succ]
  refine held_take 23 70 (v := undef) rfl rfl (by kernel_rfl) (by kernel_rfl) (by kernel_rfl) (fun _ _ _ h => h) (Or.inr ⟨by kernel_rfl, rfl⟩) hH ?_
  simp only [List.setIfInBounds_toArray, List.set_cons_zero, List.set_cons_succ]
  refine held_take 24 71 (v := undef) rfl rfl (by kernel_rfl) (by kernel_rfl) (by kernel_rfl) (fun _ _ _ h => h) (Or.inr ⟨by kernel_rfl, rfl⟩) hH ?_
  simp only [List.setIfInBounds_toArray, List.set_cons_zero, List.set_cons_succ]
  refine held_take 25 72 (v := undef) rfl rfl (by kernel_rfl) (by kernel_rfl) (by kernel_rfl) (fun _ _ _ h => h) (Or.inr ⟨by kernel_rfl, rfl⟩) hH ?_
  simp only [List.setIfInBounds_toArray, List.set_cons_zero, List.set_cons_succ]
  refine held_take 26 73 (v := undef) rfl rfl (by kernel_rfl) (by kernel_rfl) (by kernel_rfl) (fun _ _ _ h => h) (Or.inr ⟨by kernel_rfl, rfl⟩) hH ?_
  simp only [List.setIfInBounds_toArray, List.set_cons_zero, List.set_cons_succ]
  refine held_take 27 74 (v := undef) rfl rfl (by kernel_rfl) (by kernel_rfl) (by kernel_rfl) (fun _ _ _ h => h) (Or.inr ⟨by kernel_rfl, rfl⟩) hH ?_
  simp only [List.setIfInBounds_toArray, List.set_cons_zero, List.set_cons_succ]
  refine held_take 28 75 (v := undef) rfl rfl (by kernel_rfl) (by kernel_rfl) (by kernel_rfl) (fun _ _ _ h => h) (Or.inr ⟨by kernel_rfl, rfl⟩) hH ?_
  simp only [List.setIfInBounds_toArray, List.set_cons_zero, List.set_cons_succ]
  refine held_take 29 76 (v := .bool true) rfl rfl (by kernel_rfl) (by kernel_rfl) (by kernel_rfl) (fun _ _ _ h => h) (Or.inl ⟨by kernel_rfl, fun w _ => by first | kernel_rfl | go_simp⟩) hH ?_
  simp only [List.setIfInBounds_toArray, List.set_cons_zero, List.set_cons_succ]
  refine held_take 30 77 (v := .bool true) rfl rfl (by kernel_rfl) (by kernel_rfl) (by kernel_rfl) (fun _ _ _ h => h) (Or.inl ⟨by kernel_rfl, fun w _ => by first | kernel_rfl | go_simp⟩) hH ?_
  simp only [List.setIfInBounds_toArray, List.set_cons_zero, List.set_cons_succ]
  refine held_take 31 78 (v := .bool true) rfl rfl (by kernel_rfl) (by kernel_rfl) (by kernel_rfl) (fun _ _ _ h => h) (Or.inl ⟨by kernel_rfl, fun w _ => by first | kernel_rfl | go_simp⟩) hH ?_
  simp only [List.setIfInBounds_toArray, List.set_cons_zero, List.set_cons_succ]
  refine held_take 32 79 (v := .pointer (some ⟨u1, 9, none⟩)) rfl rfl (by kernel_rfl) (by kernel_rfl) (by kernel_rfl) (fun _ _ _ h => h) (Or.inl ⟨by kernel_rfl, fun w _ => by first | kernel_rfl | go_simp⟩) hH ?_
  simp only [List.setIfInBounds_toArray, List.set_cons_zero, List.set_cons_succ]
  refine held_take 33 80 (v := .int .u32 x.typ) rfl rfl (by kernel_rfl) (by kernel_rfl) (by kernel_rfl) (fun _ _ _ h => h) (Or.inl ⟨by kernel_rfl, fun w hSw => by
    have hcell := hSw.a9
    go_simp⟩) hH ?_
  simp only [List.setIfInBounds_toArray, List.set_cons_zero, List.set_cons_succ]
  refine held_take 34 81 (v := .bool true) rfl rfl (by kernel_rfl) (by kernel_rfl) (by kernel_rfl) (fun _ _ _ h => h) (Or.inl ⟨by kernel_rfl, fun w _ => by go_simp⟩) hH ?_
  simp only [List.setIfInBounds_toArray, List.set_cons_zero, List.set_cons_succ]
  refine held_take 35 82 (v := .bool true) rfl rfl (by kernel_rfl) (by kernel_rfl) (by kernel_rfl) (fun _ _ _ h => h) (Or.inl ⟨by kernel_rfl, fun w _ => by first | kernel_rfl | go_simp⟩) hH ?_
  simp only [List.setIfInBounds_toArray, List.set_cons_zero, List.set_cons_succ]
  refine held_take 36 83 (v := undef) rfl rfl (by kernel_rfl) (by kernel_rfl) (by kernel_rfl) (fun _ _ _ h => h) (Or.inr ⟨by kernel_rfl, rfl⟩) hH ?_
  simp only [List.setIfInBounds_toArray, List.set_cons_zero, List.set_cons_succ]
  refine held_take 37 84 (v := undef) rfl rfl (by kernel_rfl) (by kernel_rfl) (by kernel_rfl) (fun _ _ _ h => h) (Or.inr ⟨by kernel_rfl, rfl⟩) hH ?_
  simp only [List.setIfInBounds_toArray, List.set_cons_zero, List.set_cons_succ]
  refine held_take 38 85 (v := undef) rfl rfl (by kernel_rfl) (by kernel_rfl) (by kernel_rfl) (fun _ _ _ h => h) (Or.inr ⟨by kernel_rfl, rfl⟩) hH ?_
  simp only [List.setIfInBounds_toArray, List.set_cons_zero, List.set_cons_succ]
  refine held_take 39 86 (v := undef) rfl rfl (by kernel_rfl) (by kernel_rfl) (by kernel_rfl) (fun _ _ _ h => h) (Or.inr ⟨by kernel_rfl, rfl⟩) hH ?_
  simp only [List.setIfInBounds_toArray, List.set_cons_zero, List.set_cons_succ]
  refine held_take 40 87 (v := undef) rfl rfl (by kernel_rfl) (by kernel_rfl) (by kernel_rfl) (fun _ _ _ h => h) (Or.inr ⟨by kernel_rfl, rfl⟩) hH ?_
  simp only [List.setIfInBounds_toArray, List.set_cons_zero, List.set_cons_succ]
  refine held_take 41 88 (v := undef) rfl rfl (by kernel_rfl) (by kernel_rfl) (by kernel_rfl) (fun _ _ _ h => h) (Or.inr ⟨by kernel_rfl, rfl⟩) hH ?_
  simp only [List.setIfInBounds_toArray, List.set_cons_zero, List.set_cons_succ]
  refine held_take 42 89 (v := undef) rfl rfl (by kernel_rfl) (by kernel_rfl) (by kernel_rfl) (fun _ _ _ h => h) (Or.inr ⟨by kernel_rfl, rfl⟩) hH ?_
  simp only [List.setIfInBounds_toArray, List.set_cons_zero, List.set_cons_succ]
  refine held_take 43 90 (v := .bool true) rfl rfl (by kernel_rfl) (by kernel_rfl) (by kernel_rfl) (fun _ _ _ h => h) (Or.inl ⟨by kernel_rfl, fun w _ => by first | kernel_rfl | go_simp⟩) hH ?_
  simp only [List.setIfInBounds_toArray, List.set_cons_zero, List.set_cons_succ]
  refine held_take 44 91 (v := .bool true) rfl rfl (by kernel_rfl) (by kernel_rfl) (by kernel_rfl) (fun _ _ _ h => h) (Or.inl ⟨by kernel_rfl, fun w _ => by first | kernel_rfl | go_simp⟩) hH ?_
  simp only [List.setIfInBounds_toArray, List.set_cons_zero, List.set_cons_succ]
  refine held_take 45 92 (v := .bool true) rfl rfl (by kernel_rfl) (by kernel_rfl) (by kernel_rfl) (fun _ _ _ h => h) (Or.inl ⟨by kernel_rfl, fun w _ => by first | kernel_rfl | go_simp⟩) hH ?_
  simp only [List.setIfInBounds_toArray, List.set_cons_zero, List.set_cons_succ]
  refine held_take 46 93 (v := .pointer (some ⟨u1, 7, none⟩)) rfl rfl (by kernel_rfl) (by kernel_rfl) (by kernel_rfl) (fun _ _ _ h => h) (Or.inl ⟨by kernel_rfl, fun w _ => by first | kernel_rfl | go_simp⟩) hH ?_
  simp only [List.setIfInBounds_toArray, List.set_cons_zero, List.set_cons_succ]
  refine held_take 47 94 (v := .slice A n c) rfl rfl (by kernel_rfl) (by kernel_rfl) (by kernel_rfl) (fun _ _ _ h => h) (Or.inl ⟨by kernel_rfl, fun w hSw => by
    have hcell := hSw.a7
    go_simp⟩) hH ?_
  simp only [List.setIfInBounds_toArray, List.set_cons_zero, List.set_cons_succ]
  refine held_take 49 96 (v := .pointer (some ⟨u1, 0, none⟩)) rfl rfl (by kernel_rfl) (by kernel_rfl) (by kernel_rfl) (fun _ _ _ h => h) (Or.inl ⟨by kernel_rfl, fun w _ => by first | kernel_rfl | go_simp⟩) hH ?_
  simp only [List.setIfInBounds_toArray, List.set_cons_zero, List.set_cons_succ]
  refine held_take 50 97 (v := .int .i64 x.alg) rfl rfl (by kernel_rfl) (by kernel_rfl) (by kernel_rfl) (fun _ _ _ h => h) (Or.inl ⟨by kernel_rfl, fun w hSw => by
    have hcell := hSw.a0
    go_simp⟩) hH ?_
  simp only [List.setIfInBounds_toArray, List.set_cons_zero, List.set_cons_succ]
  refine wpAnyH_ready (rs := [48]) (by kernel_rfl) (by simp) ?_
  refine AllReadyH.cons rfl (fun K hK => ?_) AllReadyH.nil
  go_simp
  refine (HBO.out _ _ _ (HG.out.past (HPW.out.trans' HPD.out)) (HSL.out.past HPD.out)).mono ?_
  rintro e wA ⟨B1, e1, rfl, hs, hp⟩
  have HA : Hid (Past w9 wA) := Lib.hid (HPD.out.trans' hp)
  have HSA := Lib.hid hs
  clear hp hs
  refine hK.out _ _ (HSK.out _ HA.out) (fun hH => ?_)
  clear hK K
  refine wpAnyH_ready (rs := [51]) (by kernel_rfl) (by simp) ?_
  refine AllReadyH.cons rfl (fun K hK => ?_) AllReadyH.nil
  go_simp
  refine (HCO.out B1 e1 wA HSA.out).mono ?_
  rintro e wB ⟨rfl, rfl⟩
  refine hK.out _ _ (HSK.out _ HA.out) (fun hH => ?_)
  clear hK K
  refine held_take 52 99 (v := .bool true) rfl rfl (by kernel_rfl) (by kernel_rfl) (by kernel_rfl) (fun _ _ _ h => h) (Or.inl ⟨by kernel_rfl, fun w _ => by first | kernel_rfl | go_simp⟩) hH ?_
  simp only [List.setIfInBounds_toArray, List.set_cons_zero, List.set_cons_succ]
  refine wpAnyH_ready (rs := [53]) (by kernel_rfl) (by simp) ?_
  refine AllReadyH.cons rfl (fun K hK => ?_) AllReadyH.nil
  go_simp
  refine hK.out _ _ (HSK.out _ HA.out) (fun hH => ?_)
  clear hK K
  refine wpAnyH_done (by kernel_rfl) ?_ _
  go_simp
  go_wp2_with fail
  go_ret
  exact ⟨rfl, HPW.out.trans' HA.out⟩
end Go.Proofs.YtnjoccmjembppaaDoor.paramsApart

