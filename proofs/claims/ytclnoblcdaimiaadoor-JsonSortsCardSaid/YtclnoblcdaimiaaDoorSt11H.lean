/- slices.symMergeCmpFunc at pairs: the general case with a long first part. -/
import Derived.Test.YtclnoblcdaimiaaDoorSt11G
namespace Go.Proofs.YtclnoblcdaimiaaDoor
open Go.RowKit Go.Sort Go.Shelf Go.Lib
set_option linter.unusedVariables false

set_option maxHeartbeats 8000000 in
set_option maxRecDepth 100000 in
theorem merge_c (blk off cap : Nat) (d0 : Array P2) (w0 : World) (R : RowK encP 2 w0 blk off d0) (a m b : Nat) (d : Array P2) (w : World) (ham : a < m) (hmb : m < b) (hbN : b ≤ d.size) (hs : d0.size = d.size) (hsz : d.size ≤ 1000000) (S : SWK encP 2 w0 blk off d w) (hsa : SortedIn (ltOf cfP) a m d) (hsb : SortedIn (ltOf cfP) m b d) (n : Nat) (ih : MergeP blk off cap d0 w0 n) (hn : b - a ≤ n + 1) (hA : ¬ m - a = 1) (hB : ¬ b - m = 1) (hbig : (a + b) / 2 < m) :
    Calls Tryd.prog 66 #[.slice (some ⟨blk, off, none⟩) d.size cap, .int .i64 (a : Int), .int .i64 (m : Int), .int .i64 (b : Int), .func (.func 38) #[] #[]] w fun e w' => e = .returned (.tuple #[]) ∧ ∃ d', Rng d d' a b ∧ SortedIn (ltOf cfP) a b d' ∧ Stb clsP d d' ∧ SWK encP 2 w0 blk off d' w' := by
  have HR := Lib.hid R
  obtain ⟨N, hN⟩ : ∃ N, d.size = N := ⟨_, rfl⟩
  have HDS : Hid (d0.size = N) := Lib.hid (by rw [hs, hN])
  have HDN := Lib.hid hN
  have HS := Lib.hid S
  have HSA := Lib.hid hsa
  have HSB := Lib.hid hsb
  rw [hN] at hbN hsz ⊢
  clear R S hs hN hsa hsb
  obtain ⟨ma, hma0⟩ : ∃ ma, m - a = ma := ⟨_, rfl⟩
  obtain ⟨bm, hbm0⟩ : ∃ bm, b - m = bm := ⟨_, rfl⟩
  have HMA : Hid (IntKind.i64.wrap ((m : Int) - (a : Int)) = (ma : Int) ∧ wrap64 (ma : Int) = (ma : Int) ∧ IntKind.i64.wrap ((b : Int) - (m : Int)) = (bm : Int) ∧ wrap64 (bm : Int) = (bm : Int)) := Lib.hid ⟨by rw [IntKind.wrap_i64]; omega, IntWalk.wrap64_in _ (by omega), by rw [IntKind.wrap_i64]; omega, IntWalk.wrap64_in _ (by omega)⟩
  have hma1 : ¬ (ma : Int) = 1 := by omega
  have hbm1 : ¬ (bm : Int) = 1 := by omega
  have hma2 : ((ma : Int) == 1) = false := by simpa using hma1
  have hbm2 : ((bm : Int) == 1) = false := by simpa using hbm1
  obtain ⟨sab, hsab⟩ : ∃ sab, a + b = sab := ⟨_, rfl⟩
  obtain ⟨mid, hmid⟩ : ∃ mid, sab / 2 = mid := ⟨_, rfl⟩
  have HWH0 : Hid (IntKind.i64.wrap ((a : Int) + (b : Int)) = (sab : Int) ∧ wrap64 (sab : Int) = (sab : Int) ∧ IntKind.u64.wrap (sab : Int) = (sab : Int) ∧ (sab : Int) / 2 = (mid : Int) ∧ IntKind.u64.wrap (mid : Int) = (mid : Int) ∧ IntKind.i64.wrap (mid : Int) = (mid : Int) ∧ wrap64 (mid : Int) = (mid : Int)) :=
    Lib.hid ⟨by rw [IntKind.wrap_i64]; omega, IntWalk.wrap64_in _ (by omega), by rw [IntKind.wrap_u64]; omega, by omega, by rw [IntKind.wrap_u64]; omega, by rw [IntKind.wrap_i64]; omega, IntWalk.wrap64_in _ (by omega)⟩
  obtain ⟨nn, hnn⟩ : ∃ nn, mid + m = nn := ⟨_, rfl⟩
  obtain ⟨pp, hpp⟩ : ∃ pp, nn - 1 = pp := ⟨_, rfl⟩
  have hamid : a ≤ mid := by omega
  have hmidb : mid ≤ b := by omega
  have HIH := Lib.hid ih
  clear ih
  rw [hsab, hmid] at hbig
  have hmm : (mid : Int) < (m : Int) := Int.ofNat_lt.2 hbig
  obtain ⟨ss, hss⟩ : ∃ ss, nn - b = ss := ⟨_, rfl⟩
  have HGE : Hid (a ≤ ss ∧ ss ≤ mid ∧ mid ≤ m ∧ mid ≤ mid ∧ nn - ss ≤ b) := Lib.hid ⟨by omega, by omega, by omega, by omega, by omega⟩
  have HWN : Hid (IntKind.i64.wrap ((mid : Int) + (m : Int)) = (nn : Int) ∧ wrap64 (nn : Int) = (nn : Int) ∧ IntKind.i64.wrap ((nn : Int) - 1) = (pp : Int) ∧ wrap64 (pp : Int) = (pp : Int) ∧ IntKind.i64.wrap ((nn : Int) - (b : Int)) = (ss : Int) ∧ wrap64 (ss : Int) = (ss : Int)) := Lib.hid ⟨by rw [IntKind.wrap_i64]; omega, IntWalk.wrap64_in _ (by omega), by rw [IntKind.wrap_i64]; omega, IntWalk.wrap64_in _ (by omega), by rw [IntKind.wrap_i64]; omega, IntWalk.wrap64_in _ (by omega)⟩
  obtain ⟨k0, k1, k2, k3⟩ := HMA.out
  obtain ⟨g0, g1, g2, g3, g4, g5, g6⟩ := HWH0.out
  obtain ⟨y0, y1, y2, y3, y4, y5⟩ := HWN.out
  go_enter Tryd.func66, Tryd.ntmps66
  go_wp2_with fail
  go_loopg [20, 21] (mid - ss) (fun q s20 s21 wx => ∃ i j : Nat, s20 = .int .i64 (i : Int) ∧ s21 = .int .i64 (j : Int) ∧ ss ≤ i ∧ i ≤ j ∧ j ≤ mid ∧ q = j - i ∧ Hid ((i = ss ∨ ltOf cfP d[nn - i]! d[i - 1]! = false) ∧ (j = mid ∨ ltOf cfP d[nn - 1 - j]! d[j]! = true) ∧ SWK encP 2 w0 blk off d wx))
  case atStart => exact ⟨ss, mid, rfl, rfl, Nat.le_refl _, HGE.out.2.1, Nat.le_refl _, rfl, Lib.hid ⟨Or.inl rfl, Or.inl rfl, HS.out⟩⟩
  case round =>
    clear HS k0 k1 k2 k3 g0 g1 g2 g3 g4 g5 g6 y0 y1 y2 y3 y4 y5 hma1 hbm1 hma2 hbm2
    obtain ⟨i, j, rfl, rfl, hmi, hij, hjb, hq, HQ⟩ := hrel
    have HGQ := Lib.hid hq
    clear hq
    obtain ⟨hlow, hhigh, hS1⟩ := HQ.out
    obtain ⟨ge1, ge2, ge3, ge4, ge5⟩ := HGE.out
    by_cases hlt : i < j
    · have hii : (i : Int) < (j : Int) := Int.ofNat_lt.2 hlt
      obtain ⟨s, hs⟩ : ∃ s, i + j = s := ⟨_, rfl⟩
      obtain ⟨h, hh⟩ : ∃ h, s / 2 = h := ⟨_, rfl⟩
      have HWH : Hid (IntKind.i64.wrap ((i : Int) + (j : Int)) = (s : Int) ∧ wrap64 (s : Int) = (s : Int) ∧ IntKind.u64.wrap (s : Int) = (s : Int) ∧ (s : Int) / 2 = (h : Int) ∧ IntKind.u64.wrap (h : Int) = (h : Int) ∧ IntKind.i64.wrap (h : Int) = (h : Int) ∧ wrap64 (h : Int) = (h : Int)) :=
        Lib.hid ⟨by rw [IntKind.wrap_i64]; omega, IntWalk.wrap64_in _ (by omega), by rw [IntKind.wrap_u64]; omega, by omega, by rw [IntKind.wrap_u64]; omega, by rw [IntKind.wrap_i64]; omega, IntWalk.wrap64_in _ (by omega)⟩
      have hhj : h < j := by omega
      have hih : i ≤ h := by omega
      obtain ⟨x, hx⟩ : ∃ x, pp - h = x := ⟨_, rfl⟩
      obtain ⟨wd, hwd⟩ : ∃ w', w' = wr.drew := ⟨_, rfl⟩
      have HWD := Lib.hid hwd
      have hSd := hS1.drew
      rw [← hwd] at hSd
      have HSD := Lib.hid hSd
      obtain ⟨X, Y, lx, ly, hcm⟩ := tst HR.out (by rw [HDN.out, HDS.out]) (u := x) (v := h) (dk := d) (by rw [HDN.out]; omega) (by rw [HDN.out]; omega)
      have HLX := Lib.hid lx
      have HLY := Lib.hid ly
      obtain ⟨c, hc⟩ : ∃ c, cfP d[x]! d[h]! = c := ⟨_, rfl⟩
      rw [hc] at hcm
      have HCM := Lib.hid hcm
      obtain ⟨h1, hh1⟩ : ∃ h1, h + 1 = h1 := ⟨_, rfl⟩
      have HWI : Hid (IntKind.i64.wrap ((h : Int) + 1) = (h1 : Int) ∧ wrap64 (h1 : Int) = (h1 : Int)) := Lib.hid ⟨by rw [IntKind.wrap_i64]; omega, IntWalk.wrap64_in _ (by omega)⟩
      have HWX : Hid (IntKind.i64.wrap ((pp : Int) - (h : Int)) = (x : Int) ∧ wrap64 (x : Int) = (x : Int)) := Lib.hid ⟨by rw [IntKind.wrap_i64]; omega, IntWalk.wrap64_in _ (by omega)⟩
      have hp0 : (0 : Int) ≤ (h : Int) := by omega
      have hpN' : (h : Int) < (N : Int) := by omega
      have ha0 : (0 : Int) ≤ (x : Int) := by omega
      have haN' : (x : Int) < (N : Int) := by omega
      have HAI : Hid (ss ≤ h1 ∧ h1 ≤ j ∧ ss ≤ i ∧ i ≤ h ∧ h ≤ mid ∧ j ≤ mid) := Lib.hid ⟨by omega, by omega, hmi, hih, by omega, hjb⟩
      have HMS : Hid (j - h1 < j - i ∧ h - i < j - i) := Lib.hid ⟨by omega, by omega⟩
      have hx1 : nn - 1 - h = x := by omega
      have hx2 : nn - h1 = x := by omega
      have hx3 : h1 - 1 = h := by omega
      by_cases hlv : c < 0
      · have HL2 : Hid ((i = ss ∨ ltOf cfP d[nn - i]! d[i - 1]! = false) ∧ (h = mid ∨ ltOf cfP d[nn - 1 - h]! d[h]! = true)) := Lib.hid ⟨hlow, Or.inr (by rw [hx1]; unfold ltOf; rw [hc]; exact decide_eq_true hlv)⟩
        clear hlow hhigh hS1 hwd hSd lx ly hcm hc hlt hij hmi hjb HQ hhj hih hs hh hh1 hx hx1 hx2 hx3 ge1 ge2 ge3 ge4 ge5
        obtain ⟨g0, g1, g2, g3, g4, g5, g6⟩ := HWH.out
        go_upto_region 35 with (fail)
        refine wp_region_held_drew (S := fun w' => SWK encP 2 w0 blk off d w') (by kernel_rfl) (by rw [← HWD.out]; exact HSD.out) (fun hH => ?_)
        change wpAnyH _ _ _ _ _ _ _ _ (World.drew _)
        rw [← HWD.out]
        clear hH HWD
        have hH := HSD.out
        refine held_take 0 158 (v := .func (.func 38) #[] #[]) rfl rfl (by kernel_rfl) (by kernel_rfl) (by kernel_rfl) (fun _ _ _ h => h) (Or.inl ⟨by kernel_rfl, fun w _ => by kernel_rfl⟩) hH ?_
        (try simp only [List.setIfInBounds_toArray, List.set_cons_zero, List.set_cons_succ])
        refine held_take 1 159 (v := .slice (some ⟨blk, off, none⟩) N cap) rfl rfl (by kernel_rfl) (by kernel_rfl) (by kernel_rfl) (fun _ _ _ h => h) (Or.inl ⟨by kernel_rfl, fun w _ => by kernel_rfl⟩) hH ?_
        (try simp only [List.setIfInBounds_toArray, List.set_cons_zero, List.set_cons_succ])
        refine held_take 2 160 (v := .int .i64 (pp : Int)) rfl rfl (by kernel_rfl) (by kernel_rfl) (by kernel_rfl) (fun _ _ _ h => h) (Or.inl ⟨by kernel_rfl, fun w _ => by kernel_rfl⟩) hH ?_
        (try simp only [List.setIfInBounds_toArray, List.set_cons_zero, List.set_cons_succ])
        refine held_take 3 161 (v := .int .i64 (h : Int)) rfl rfl (by kernel_rfl) (by kernel_rfl) (by kernel_rfl) (fun _ _ _ h => h) (Or.inl ⟨by kernel_rfl, fun w _ => by kernel_rfl⟩) hH ?_
        (try simp only [List.setIfInBounds_toArray, List.set_cons_zero, List.set_cons_succ])
        refine held_take 4 162 (v := .int .i64 (x : Int)) rfl rfl (by kernel_rfl) (by kernel_rfl) (by kernel_rfl) (fun _ _ _ h => h) (Or.inl ⟨by kernel_rfl, fun w _ => by have hwx := HWX.out.1; have hwx2 := HWX.out.2; go_simp⟩) hH ?_
        (try simp only [List.setIfInBounds_toArray, List.set_cons_zero, List.set_cons_succ])
        refine held_take 5 163 (v := .pointer (some ⟨blk, off + x * 2, none⟩)) rfl rfl (by kernel_rfl) (by kernel_rfl) (by kernel_rfl) (fun _ _ _ h => h) (Or.inl ⟨by kernel_rfl, fun w _ => by go_simp⟩) hH ?_
        (try simp only [List.setIfInBounds_toArray, List.set_cons_zero, List.set_cons_succ])
        refine held_take 6 164 (v := X) rfl rfl (by kernel_rfl) (by kernel_rfl) (by kernel_rfl) (fun _ _ _ h => h) (yields_load (by kernel_rfl) 54 (.tmp 163) rfl ⟨blk, off + x * 2, none⟩ rfl X (fun w h => HLX.out w h)) hH ?_
        refine held_take 7 165 (v := .slice (some ⟨blk, off, none⟩) N cap) rfl rfl (by kernel_rfl) (by kernel_rfl) (by kernel_rfl) (fun _ _ _ h => h) (Or.inl ⟨by kernel_rfl, fun w _ => by kernel_rfl⟩) hH ?_
        (try simp only [List.setIfInBounds_toArray, List.set_cons_zero, List.set_cons_succ])
        refine held_take 8 166 (v := .int .i64 (h : Int)) rfl rfl (by kernel_rfl) (by kernel_rfl) (by kernel_rfl) (fun _ _ _ h => h) (Or.inl ⟨by kernel_rfl, fun w _ => by kernel_rfl⟩) hH ?_
        (try simp only [List.setIfInBounds_toArray, List.set_cons_zero, List.set_cons_succ])
        refine held_take 9 167 (v := .pointer (some ⟨blk, off + h * 2, none⟩)) rfl rfl (by kernel_rfl) (by kernel_rfl) (by kernel_rfl) (fun _ _ _ h => h) (Or.inl ⟨by kernel_rfl, fun w _ => by go_simp⟩) hH ?_
        (try simp only [List.setIfInBounds_toArray, List.set_cons_zero, List.set_cons_succ])
        refine held_take 10 168 (v := Y) rfl rfl (by kernel_rfl) (by kernel_rfl) (by kernel_rfl) (fun _ _ _ h => h) (yields_load (by kernel_rfl) 54 (.tmp 167) rfl ⟨blk, off + h * 2, none⟩ rfl Y (fun w h => HLY.out w h)) hH ?_
        refine wpAnyH_ready (rs := [11]) (by kernel_rfl) (by simp) ?_
        refine AllReadyH.cons (by simp only [List.getElem?_toArray, List.getElem?_cons_succ, List.getElem?_cons_zero]; rfl) (fun K hK => ?_) AllReadyH.nil
        go_simp
        refine (HCM.out wd).mono ?_
        rintro e9 w9 ⟨rfl, q9, os9, hw9⟩
        have HS9 : Hid (SWK encP 2 w0 blk off d w9) := Lib.hid (by rw [hw9]; exact HSD.out.grown q9 os9)
        clear hw9
        refine hK.out _ _ HS9.out (fun hH => ?_)
        clear hK K
        refine held_take 12 170 (v := .bool true) rfl rfl (by kernel_rfl) (by kernel_rfl) (by kernel_rfl) (fun _ _ _ h => h) (Or.inl ⟨by kernel_rfl, fun w _ => by go_simp⟩) hH ?_
        (try simp only [List.setIfInBounds_toArray, List.set_cons_zero, List.set_cons_succ])
        refine held_take 13 171 (v := .bool false) rfl rfl (by kernel_rfl) (by kernel_rfl) (by kernel_rfl) (fun _ _ _ h => h) (Or.inl ⟨by kernel_rfl, fun w _ => by go_simp⟩) hH ?_
        (try simp only [List.setIfInBounds_toArray, List.set_cons_zero, List.set_cons_succ])
        refine wpAnyH_done (by kernel_rfl) ?_ _
        go_simp
        clear hH
        have HE : Hid ((i = ss ∨ ltOf cfP d[nn - i]! d[i - 1]! = false) ∧ (h = mid ∨ ltOf cfP d[nn - 1 - h]! d[h]! = true) ∧ SWK encP 2 w0 blk off d w9) := Lib.hid ⟨HL2.out.1, HL2.out.2, HS9.out⟩
        go_wp2_with fail
        go_roundg (h - i)
        case rel => exact ⟨i, h, rfl, rfl, HAI.out.2.2.1, HAI.out.2.2.2.1, HAI.out.2.2.2.2.1, rfl, HE⟩
        case measure => rw [HGQ.out]; exact HMS.out.2
      · have HL2 : Hid ((h1 = ss ∨ ltOf cfP d[nn - h1]! d[h1 - 1]! = false) ∧ (j = mid ∨ ltOf cfP d[nn - 1 - j]! d[j]! = true)) := Lib.hid ⟨Or.inr (by rw [hx2, hx3]; unfold ltOf; rw [hc]; exact decide_eq_false hlv), hhigh⟩
        clear hlow hhigh hS1 hwd hSd lx ly hcm hc hlt hij hmi hjb HQ hhj hih hs hh hh1 hx hx1 hx2 hx3 ge1 ge2 ge3 ge4 ge5
        obtain ⟨g0, g1, g2, g3, g4, g5, g6⟩ := HWH.out
        go_upto_region 35 with (fail)
        refine wp_region_held_drew (S := fun w' => SWK encP 2 w0 blk off d w') (by kernel_rfl) (by rw [← HWD.out]; exact HSD.out) (fun hH => ?_)
        change wpAnyH _ _ _ _ _ _ _ _ (World.drew _)
        rw [← HWD.out]
        clear hH HWD
        have hH := HSD.out
        refine held_take 0 158 (v := .func (.func 38) #[] #[]) rfl rfl (by kernel_rfl) (by kernel_rfl) (by kernel_rfl) (fun _ _ _ h => h) (Or.inl ⟨by kernel_rfl, fun w _ => by kernel_rfl⟩) hH ?_
        (try simp only [List.setIfInBounds_toArray, List.set_cons_zero, List.set_cons_succ])
        refine held_take 1 159 (v := .slice (some ⟨blk, off, none⟩) N cap) rfl rfl (by kernel_rfl) (by kernel_rfl) (by kernel_rfl) (fun _ _ _ h => h) (Or.inl ⟨by kernel_rfl, fun w _ => by kernel_rfl⟩) hH ?_
        (try simp only [List.setIfInBounds_toArray, List.set_cons_zero, List.set_cons_succ])
        refine held_take 2 160 (v := .int .i64 (pp : Int)) rfl rfl (by kernel_rfl) (by kernel_rfl) (by kernel_rfl) (fun _ _ _ h => h) (Or.inl ⟨by kernel_rfl, fun w _ => by kernel_rfl⟩) hH ?_
        (try simp only [List.setIfInBounds_toArray, List.set_cons_zero, List.set_cons_succ])
        refine held_take 3 161 (v := .int .i64 (h : Int)) rfl rfl (by kernel_rfl) (by kernel_rfl) (by kernel_rfl) (fun _ _ _ h => h) (Or.inl ⟨by kernel_rfl, fun w _ => by kernel_rfl⟩) hH ?_
        (try simp only [List.setIfInBounds_toArray, List.set_cons_zero, List.set_cons_succ])
        refine held_take 4 162 (v := .int .i64 (x : Int)) rfl rfl (by kernel_rfl) (by kernel_rfl) (by kernel_rfl) (fun _ _ _ h => h) (Or.inl ⟨by kernel_rfl, fun w _ => by have hwx := HWX.out.1; have hwx2 := HWX.out.2; go_simp⟩) hH ?_
        (try simp only [List.setIfInBounds_toArray, List.set_cons_zero, List.set_cons_succ])
        refine held_take 5 163 (v := .pointer (some ⟨blk, off + x * 2, none⟩)) rfl rfl (by kernel_rfl) (by kernel_rfl) (by kernel_rfl) (fun _ _ _ h => h) (Or.inl ⟨by kernel_rfl, fun w _ => by go_simp⟩) hH ?_
        (try simp only [List.setIfInBounds_toArray, List.set_cons_zero, List.set_cons_succ])
        refine held_take 6 164 (v := X) rfl rfl (by kernel_rfl) (by kernel_rfl) (by kernel_rfl) (fun _ _ _ h => h) (yields_load (by kernel_rfl) 54 (.tmp 163) rfl ⟨blk, off + x * 2, none⟩ rfl X (fun w h => HLX.out w h)) hH ?_
        refine held_take 7 165 (v := .slice (some ⟨blk, off, none⟩) N cap) rfl rfl (by kernel_rfl) (by kernel_rfl) (by kernel_rfl) (fun _ _ _ h => h) (Or.inl ⟨by kernel_rfl, fun w _ => by kernel_rfl⟩) hH ?_
        (try simp only [List.setIfInBounds_toArray, List.set_cons_zero, List.set_cons_succ])
        refine held_take 8 166 (v := .int .i64 (h : Int)) rfl rfl (by kernel_rfl) (by kernel_rfl) (by kernel_rfl) (fun _ _ _ h => h) (Or.inl ⟨by kernel_rfl, fun w _ => by kernel_rfl⟩) hH ?_
        (try simp only [List.setIfInBounds_toArray, List.set_cons_zero, List.set_cons_succ])
        refine held_take 9 167 (v := .pointer (some ⟨blk, off + h * 2, none⟩)) rfl rfl (by kernel_rfl) (by kernel_rfl) (by kernel_rfl) (fun _ _ _ h => h) (Or.inl ⟨by kernel_rfl, fun w _ => by go_simp⟩) hH ?_
        (try simp only [List.setIfInBounds_toArray, List.set_cons_zero, List.set_cons_succ])
        refine held_take 10 168 (v := Y) rfl rfl (by kernel_rfl) (by kernel_rfl) (by kernel_rfl) (fun _ _ _ h => h) (yields_load (by kernel_rfl) 54 (.tmp 167) rfl ⟨blk, off + h * 2, none⟩ rfl Y (fun w h => HLY.out w h)) hH ?_
        refine wpAnyH_ready (rs := [11]) (by kernel_rfl) (by simp) ?_
        refine AllReadyH.cons (by simp only [List.getElem?_toArray, List.getElem?_cons_succ, List.getElem?_cons_zero]; rfl) (fun K hK => ?_) AllReadyH.nil
        go_simp
        refine (HCM.out wd).mono ?_
        rintro e9 w9 ⟨rfl, q9, os9, hw9⟩
        have HS9 : Hid (SWK encP 2 w0 blk off d w9) := Lib.hid (by rw [hw9]; exact HSD.out.grown q9 os9)
        clear hw9
        refine hK.out _ _ HS9.out (fun hH => ?_)
        clear hK K
        refine held_take 12 170 (v := .bool false) rfl rfl (by kernel_rfl) (by kernel_rfl) (by kernel_rfl) (fun _ _ _ h => h) (Or.inl ⟨by kernel_rfl, fun w _ => by go_simp⟩) hH ?_
        (try simp only [List.setIfInBounds_toArray, List.set_cons_zero, List.set_cons_succ])
        refine held_take 13 171 (v := .bool true) rfl rfl (by kernel_rfl) (by kernel_rfl) (by kernel_rfl) (fun _ _ _ h => h) (Or.inl ⟨by kernel_rfl, fun w _ => by go_simp⟩) hH ?_
        (try simp only [List.setIfInBounds_toArray, List.set_cons_zero, List.set_cons_succ])
        refine wpAnyH_done (by kernel_rfl) ?_ _
        go_simp
        clear hH
        have HE : Hid ((h1 = ss ∨ ltOf cfP d[nn - h1]! d[h1 - 1]! = false) ∧ (j = mid ∨ ltOf cfP d[nn - 1 - j]! d[j]! = true) ∧ SWK encP 2 w0 blk off d w9) := Lib.hid ⟨HL2.out.1, HL2.out.2, HS9.out⟩
        obtain ⟨z0, z1⟩ := HWI.out
        go_wp2_with fail
        go_roundg (j - h1)
        case rel => exact ⟨h1, j, rfl, rfl, HAI.out.1, HAI.out.2.1, HAI.out.2.2.2.2.2, rfl, HE⟩
        case measure => rw [HGQ.out]; exact HMS.out.1
    · have hii : ¬ (i : Int) < (j : Int) := by omega
      obtain ⟨s, hsi⟩ : ∃ s, i = s := ⟨_, rfl⟩
      have hjs : j = s := by omega
      rw [hsi] at hlow
      rw [hjs] at hhigh
      rw [hsi] at hmi
      rw [hjs] at hjb
      obtain ⟨t, ht⟩ : ∃ t, nn - s = t := ⟨_, rfl⟩
      have HWT : Hid (IntKind.i64.wrap ((nn : Int) - (s : Int)) = (t : Int) ∧ wrap64 (t : Int) = (t : Int)) := Lib.hid ⟨by rw [IntKind.wrap_i64]; omega, IntWalk.wrap64_in _ (by omega)⟩
      have hst : s + t = mid + m := by omega
      have has : a ≤ s := by omega
      have hsm : s ≤ m := by omega
      have hmt : m ≤ t := by omega
      have htb : t ≤ b := by omega
      have HMO : Hid (∀ e, Rot d e s m t → Mid (ltOf cfP) d e a mid s t b ∧ ∀ u v, s ≤ u → u < m → m ≤ v → v < t → ltOf cfP d[v]! d[u]! = true) := Lib.hid (fun e hr => mid_of swoP HSA.out HSB.out hst has hsm hmt htb hr
        (fun q1 q2 => by
          rcases hlow with h | h
          · exact absurd h (by omega)
          · rw [ht] at h
            exact h)
        (fun q1 q2 => by
          rcases hhigh with h | h
          · exact absurd h (by omega)
          · rw [show nn - 1 - s = t - 1 by omega] at h
            exact h))
      have HSS := Lib.hid hS1
      rw [hsi, hjs]
      clear hlow hhigh hS1 HQ hlt hij hmi hjb hsi hjs ht hst ge1 ge2 ge3 ge4 ge5 hii
      have hii : ¬ (s : Int) < (s : Int) := by omega
      obtain ⟨z0, z1⟩ := HWT.out
      go_upto_region 39 with (fail)
      clear z0 z1 hii
      by_cases ho1 : s < m
      · by_cases ho2 : m < t
        · have hi1 : (s : Int) < (m : Int) := Int.ofNat_lt.2 ho1
          have hi2 : (m : Int) < (t : Int) := Int.ofNat_lt.2 ho2
          have HC := rotate_any blk off cap s m t d0 d w0 wr (.func (.func 38) #[] #[]) HR.out (by rw [HDS.out, HDN.out]) HSS.out ho1 ho2 (by rw [HDN.out]; omega) (by rw [HDN.out]; exact hsz)
          rw [HDN.out] at HC
          have HC := Lib.hid HC
          clear ho1 ho2
          go_wp2_with fail
          refine HC.out.mono ?_
          rintro e5 w5 ⟨rfl, e, hg1, hg2⟩
          have HM : Hid (Mid (ltOf cfP) d e a mid s t b ∧ Stb clsP d e ∧ SWK encP 2 w0 blk off e w5) := Lib.hid ⟨(HMO.out e hg1).1, hg1.stb clsP_ne (HMO.out e hg1).2, hg2⟩
          have hes : e.size = N := by rw [hg1.size, HDN.out]
          clear hg1 hg2
          by_cases hl1 : a < s
          · by_cases hl2 : s < mid
            · have hk1 : (a : Int) < (s : Int) := Int.ofNat_lt.2 hl1
              have hk2 : (s : Int) < (mid : Int) := Int.ofNat_lt.2 hl2
              have HC := HIH.out a s mid e w5 (by omega) hl1 hl2 (by rw [hes]; omega) (by rw [hes, HDS.out]) (by rw [hes]; exact hsz) HM.out.2.2 HM.out.1.l1 HM.out.1.l2
              rw [hes] at HC
              have HC := Lib.hid HC
              clear hl1 hl2
              go_wp2_with fail
              refine HC.out.mono ?_
              rintro e6 w6 ⟨rfl, f, hg1, hg2, hg3, hg4⟩
              have HL : Hid (Mid (ltOf cfP) d e a mid s t b ∧ Stb clsP d f ∧ Rng e f a mid ∧ SortedIn (ltOf cfP) a mid f ∧ SWK encP 2 w0 blk off f w6) := Lib.hid ⟨HM.out.1, HM.out.2.1.trans hg3, hg1, hg2, hg4⟩
              have hfs : f.size = N := by rw [hg1.1, hes]
              clear hg1 hg2 hg3 hg4
              by_cases hr1 : mid < t
              · by_cases hr2 : t < b
                · have hj1 : (mid : Int) < (t : Int) := Int.ofNat_lt.2 hr1
                  have hj2 : (t : Int) < (b : Int) := Int.ofNat_lt.2 hr2
                  have HC := (fun (h : mid < t ∧ t < b) => HIH.out mid t b f w6 (by omega) h.1 h.2 (by rw [hfs]; omega) (by rw [hfs, HDS.out]) (by rw [hfs]; exact hsz) HL.out.2.2.2.2 (sorted_out HL.out.1.r1 fun p q1 q2 => HL.out.2.2.1.2.1 p (Or.inr q1)) (sorted_out HL.out.1.r2 fun p q1 q2 => HL.out.2.2.1.2.1 p (Or.inr (by omega)))) ⟨hr1, hr2⟩
                  rw [hfs] at HC
                  have HC := Lib.hid HC
                  clear hr1 hr2
                  go_wp2_with fail
                  refine HC.out.mono ?_
                  rintro e7 w7 ⟨rfl, gg, hg1, hg2, hg3, hg4⟩
                  have HEND : Hid (∃ d', Rng d d' a b ∧ SortedIn (ltOf cfP) a b d' ∧ Stb clsP d d' ∧ SWK encP 2 w0 blk off d' w7) := Lib.hid ⟨gg, (HL.out.1.done swoP hamid hmidb HL.out.2.2.1 HL.out.2.2.2.1 hg1 hg2).1, (HL.out.1.done swoP hamid hmidb HL.out.2.2.1 HL.out.2.2.2.1 hg1 hg2).2, HL.out.2.1.trans hg3, hg4⟩
                  clear hg1 hg2 hg3 hg4
                  go_wp2_with fail
                  go_end0
                  exact ⟨rfl, HEND.out⟩
                · have hj1 : (mid : Int) < (t : Int) := Int.ofNat_lt.2 hr1
                  have hj2 : ¬ (t : Int) < (b : Int) := by omega
                  have hsr : SortedIn (ltOf cfP) mid b f := sorted_out (sorted_mono HL.out.1.r1 (Nat.le_refl _) (by omega)) fun p q1 q2 => HL.out.2.2.1.2.1 p (Or.inr (by omega))
                  have HEND : Hid (∃ d', Rng d d' a b ∧ SortedIn (ltOf cfP) a b d' ∧ Stb clsP d d' ∧ SWK encP 2 w0 blk off d' w6) := Lib.hid ⟨f, (HL.out.1.done swoP hamid hmidb HL.out.2.2.1 HL.out.2.2.2.1 (Rng.refl f mid b) hsr).1, (HL.out.1.done swoP hamid hmidb HL.out.2.2.1 HL.out.2.2.2.1 (Rng.refl f mid b) hsr).2, HL.out.2.1, HL.out.2.2.2.2⟩
                  clear hsr
                  go_wp2_with fail
                  go_end0
                  exact ⟨rfl, HEND.out⟩
              · have hj1 : ¬ (mid : Int) < (t : Int) := by omega
                have hsr : SortedIn (ltOf cfP) mid b f := sorted_out (sorted_mono HL.out.1.r2 (by omega) (Nat.le_refl _)) fun p q1 q2 => HL.out.2.2.1.2.1 p (Or.inr (by omega))
                have HEND : Hid (∃ d', Rng d d' a b ∧ SortedIn (ltOf cfP) a b d' ∧ Stb clsP d d' ∧ SWK encP 2 w0 blk off d' w6) := Lib.hid ⟨f, (HL.out.1.done swoP hamid hmidb HL.out.2.2.1 HL.out.2.2.2.1 (Rng.refl f mid b) hsr).1, (HL.out.1.done swoP hamid hmidb HL.out.2.2.1 HL.out.2.2.2.1 (Rng.refl f mid b) hsr).2, HL.out.2.1, HL.out.2.2.2.2⟩
                clear hsr
                go_wp2_with fail
                go_end0
                exact ⟨rfl, HEND.out⟩
            · have hk1 : (a : Int) < (s : Int) := Int.ofNat_lt.2 hl1
              have hk2 : ¬ (s : Int) < (mid : Int) := by omega
              obtain ⟨f, hfe⟩ : ∃ f, f = e := ⟨_, rfl⟩
              have HL : Hid (Mid (ltOf cfP) d e a mid s t b ∧ Stb clsP d f ∧ Rng e f a mid ∧ SortedIn (ltOf cfP) a mid f ∧ SWK encP 2 w0 blk off f w5) := Lib.hid (by rw [hfe]; exact ⟨HM.out.1, HM.out.2.1, Rng.refl e a mid, sorted_mono HM.out.1.l1 (Nat.le_refl _) (by omega), HM.out.2.2⟩)
              have hfs : f.size = N := by rw [hfe, hes]
              clear hfe
              by_cases hr1 : mid < t
              · by_cases hr2 : t < b
                · have hj1 : (mid : Int) < (t : Int) := Int.ofNat_lt.2 hr1
                  have hj2 : (t : Int) < (b : Int) := Int.ofNat_lt.2 hr2
                  have HC := (fun (h : mid < t ∧ t < b) => HIH.out mid t b f w5 (by omega) h.1 h.2 (by rw [hfs]; omega) (by rw [hfs, HDS.out]) (by rw [hfs]; exact hsz) HL.out.2.2.2.2 (sorted_out HL.out.1.r1 fun p q1 q2 => HL.out.2.2.1.2.1 p (Or.inr q1)) (sorted_out HL.out.1.r2 fun p q1 q2 => HL.out.2.2.1.2.1 p (Or.inr (by omega)))) ⟨hr1, hr2⟩
                  rw [hfs] at HC
                  have HC := Lib.hid HC
                  clear hr1 hr2
                  go_wp2_with fail
                  refine HC.out.mono ?_
                  rintro e7 w7 ⟨rfl, gg, hg1, hg2, hg3, hg4⟩
                  have HEND : Hid (∃ d', Rng d d' a b ∧ SortedIn (ltOf cfP) a b d' ∧ Stb clsP d d' ∧ SWK encP 2 w0 blk off d' w7) := Lib.hid ⟨gg, (HL.out.1.done swoP hamid hmidb HL.out.2.2.1 HL.out.2.2.2.1 hg1 hg2).1, (HL.out.1.done swoP hamid hmidb HL.out.2.2.1 HL.out.2.2.2.1 hg1 hg2).2, HL.out.2.1.trans hg3, hg4⟩
                  clear hg1 hg2 hg3 hg4
                  go_wp2_with fail
                  go_end0
                  exact ⟨rfl, HEND.out⟩
                · have hj1 : (mid : Int) < (t : Int) := Int.ofNat_lt.2 hr1
                  have hj2 : ¬ (t : Int) < (b : Int) := by omega
                  have hsr : SortedIn (ltOf cfP) mid b f := sorted_out (sorted_mono HL.out.1.r1 (Nat.le_refl _) (by omega)) fun p q1 q2 => HL.out.2.2.1.2.1 p (Or.inr (by omega))
                  have HEND : Hid (∃ d', Rng d d' a b ∧ SortedIn (ltOf cfP) a b d' ∧ Stb clsP d d' ∧ SWK encP 2 w0 blk off d' w5) := Lib.hid ⟨f, (HL.out.1.done swoP hamid hmidb HL.out.2.2.1 HL.out.2.2.2.1 (Rng.refl f mid b) hsr).1, (HL.out.1.done swoP hamid hmidb HL.out.2.2.1 HL.out.2.2.2.1 (Rng.refl f mid b) hsr).2, HL.out.2.1, HL.out.2.2.2.2⟩
                  clear hsr
                  go_wp2_with fail
                  go_end0
                  exact ⟨rfl, HEND.out⟩
              · have hj1 : ¬ (mid : Int) < (t : Int) := by omega
                have hsr : SortedIn (ltOf cfP) mid b f := sorted_out (sorted_mono HL.out.1.r2 (by omega) (Nat.le_refl _)) fun p q1 q2 => HL.out.2.2.1.2.1 p (Or.inr (by omega))
                have HEND : Hid (∃ d', Rng d d' a b ∧ SortedIn (ltOf cfP) a b d' ∧ Stb clsP d d' ∧ SWK encP 2 w0 blk off d' w5) := Lib.hid ⟨f, (HL.out.1.done swoP hamid hmidb HL.out.2.2.1 HL.out.2.2.2.1 (Rng.refl f mid b) hsr).1, (HL.out.1.done swoP hamid hmidb HL.out.2.2.1 HL.out.2.2.2.1 (Rng.refl f mid b) hsr).2, HL.out.2.1, HL.out.2.2.2.2⟩
                clear hsr
                go_wp2_with fail
                go_end0
                exact ⟨rfl, HEND.out⟩
          · have hk1 : ¬ (a : Int) < (s : Int) := by omega
            obtain ⟨f, hfe⟩ : ∃ f, f = e := ⟨_, rfl⟩
            have HL : Hid (Mid (ltOf cfP) d e a mid s t b ∧ Stb clsP d f ∧ Rng e f a mid ∧ SortedIn (ltOf cfP) a mid f ∧ SWK encP 2 w0 blk off f w5) := Lib.hid (by rw [hfe]; exact ⟨HM.out.1, HM.out.2.1, Rng.refl e a mid, sorted_mono HM.out.1.l2 (by omega) (Nat.le_refl _), HM.out.2.2⟩)
            have hfs : f.size = N := by rw [hfe, hes]
            clear hfe
            by_cases hr1 : mid < t
            · by_cases hr2 : t < b
              · have hj1 : (mid : Int) < (t : Int) := Int.ofNat_lt.2 hr1
                have hj2 : (t : Int) < (b : Int) := Int.ofNat_lt.2 hr2
                have HC := (fun (h : mid < t ∧ t < b) => HIH.out mid t b f w5 (by omega) h.1 h.2 (by rw [hfs]; omega) (by rw [hfs, HDS.out]) (by rw [hfs]; exact hsz) HL.out.2.2.2.2 (sorted_out HL.out.1.r1 fun p q1 q2 => HL.out.2.2.1.2.1 p (Or.inr q1)) (sorted_out HL.out.1.r2 fun p q1 q2 => HL.out.2.2.1.2.1 p (Or.inr (by omega)))) ⟨hr1, hr2⟩
                rw [hfs] at HC
                have HC := Lib.hid HC
                clear hr1 hr2
                go_wp2_with fail
                refine HC.out.mono ?_
                rintro e7 w7 ⟨rfl, gg, hg1, hg2, hg3, hg4⟩
                have HEND : Hid (∃ d', Rng d d' a b ∧ SortedIn (ltOf cfP) a b d' ∧ Stb clsP d d' ∧ SWK encP 2 w0 blk off d' w7) := Lib.hid ⟨gg, (HL.out.1.done swoP hamid hmidb HL.out.2.2.1 HL.out.2.2.2.1 hg1 hg2).1, (HL.out.1.done swoP hamid hmidb HL.out.2.2.1 HL.out.2.2.2.1 hg1 hg2).2, HL.out.2.1.trans hg3, hg4⟩
                clear hg1 hg2 hg3 hg4
                go_wp2_with fail
                go_end0
                exact ⟨rfl, HEND.out⟩
              · have hj1 : (mid : Int) < (t : Int) := Int.ofNat_lt.2 hr1
                have hj2 : ¬ (t : Int) < (b : Int) := by omega
                have hsr : SortedIn (ltOf cfP) mid b f := sorted_out (sorted_mono HL.out.1.r1 (Nat.le_refl _) (by omega)) fun p q1 q2 => HL.out.2.2.1.2.1 p (Or.inr (by omega))
                have HEND : Hid (∃ d', Rng d d' a b ∧ SortedIn (ltOf cfP) a b d' ∧ Stb clsP d d' ∧ SWK encP 2 w0 blk off d' w5) := Lib.hid ⟨f, (HL.out.1.done swoP hamid hmidb HL.out.2.2.1 HL.out.2.2.2.1 (Rng.refl f mid b) hsr).1, (HL.out.1.done swoP hamid hmidb HL.out.2.2.1 HL.out.2.2.2.1 (Rng.refl f mid b) hsr).2, HL.out.2.1, HL.out.2.2.2.2⟩
                clear hsr
                go_wp2_with fail
                go_end0
                exact ⟨rfl, HEND.out⟩
            · have hj1 : ¬ (mid : Int) < (t : Int) := by omega
              have hsr : SortedIn (ltOf cfP) mid b f := sorted_out (sorted_mono HL.out.1.r2 (by omega) (Nat.le_refl _)) fun p q1 q2 => HL.out.2.2.1.2.1 p (Or.inr (by omega))
              have HEND : Hid (∃ d', Rng d d' a b ∧ SortedIn (ltOf cfP) a b d' ∧ Stb clsP d d' ∧ SWK encP 2 w0 blk off d' w5) := Lib.hid ⟨f, (HL.out.1.done swoP hamid hmidb HL.out.2.2.1 HL.out.2.2.2.1 (Rng.refl f mid b) hsr).1, (HL.out.1.done swoP hamid hmidb HL.out.2.2.1 HL.out.2.2.2.1 (Rng.refl f mid b) hsr).2, HL.out.2.1, HL.out.2.2.2.2⟩
              clear hsr
              go_wp2_with fail
              go_end0
              exact ⟨rfl, HEND.out⟩
        · have hi1 : (s : Int) < (m : Int) := Int.ofNat_lt.2 ho1
          have hi2 : ¬ (m : Int) < (t : Int) := by omega
          obtain ⟨e, hed⟩ : ∃ e, e = d := ⟨_, rfl⟩
          have HM : Hid (Mid (ltOf cfP) d e a mid s t b ∧ Stb clsP d e ∧ SWK encP 2 w0 blk off e wr) := Lib.hid (by
            have hrot : Rot d d s m t := by rw [show t = m by omega]; exact Rot.id d s m (by omega) (by rw [HDN.out]; omega)
            rw [hed]
            exact ⟨(HMO.out d hrot).1, Stb.refl clsP d, HSS.out⟩)
          have hes : e.size = N := by rw [hed, HDN.out]
          clear hed
          by_cases hl1 : a < s
          · by_cases hl2 : s < mid
            · have hk1 : (a : Int) < (s : Int) := Int.ofNat_lt.2 hl1
              have hk2 : (s : Int) < (mid : Int) := Int.ofNat_lt.2 hl2
              have HC := HIH.out a s mid e wr (by omega) hl1 hl2 (by rw [hes]; omega) (by rw [hes, HDS.out]) (by rw [hes]; exact hsz) HM.out.2.2 HM.out.1.l1 HM.out.1.l2
              rw [hes] at HC
              have HC := Lib.hid HC
              clear hl1 hl2
              go_wp2_with fail
              refine HC.out.mono ?_
              rintro e6 w6 ⟨rfl, f, hg1, hg2, hg3, hg4⟩
              have HL : Hid (Mid (ltOf cfP) d e a mid s t b ∧ Stb clsP d f ∧ Rng e f a mid ∧ SortedIn (ltOf cfP) a mid f ∧ SWK encP 2 w0 blk off f w6) := Lib.hid ⟨HM.out.1, HM.out.2.1.trans hg3, hg1, hg2, hg4⟩
              have hfs : f.size = N := by rw [hg1.1, hes]
              clear hg1 hg2 hg3 hg4
              by_cases hr1 : mid < t
              · by_cases hr2 : t < b
                · have hj1 : (mid : Int) < (t : Int) := Int.ofNat_lt.2 hr1
                  have hj2 : (t : Int) < (b : Int) := Int.ofNat_lt.2 hr2
                  have HC := (fun (h : mid < t ∧ t < b) => HIH.out mid t b f w6 (by omega) h.1 h.2 (by rw [hfs]; omega) (by rw [hfs, HDS.out]) (by rw [hfs]; exact hsz) HL.out.2.2.2.2 (sorted_out HL.out.1.r1 fun p q1 q2 => HL.out.2.2.1.2.1 p (Or.inr q1)) (sorted_out HL.out.1.r2 fun p q1 q2 => HL.out.2.2.1.2.1 p (Or.inr (by omega)))) ⟨hr1, hr2⟩
                  rw [hfs] at HC
                  have HC := Lib.hid HC
                  clear hr1 hr2
                  go_wp2_with fail
                  refine HC.out.mono ?_
                  rintro e7 w7 ⟨rfl, gg, hg1, hg2, hg3, hg4⟩
                  have HEND : Hid (∃ d', Rng d d' a b ∧ SortedIn (ltOf cfP) a b d' ∧ Stb clsP d d' ∧ SWK encP 2 w0 blk off d' w7) := Lib.hid ⟨gg, (HL.out.1.done swoP hamid hmidb HL.out.2.2.1 HL.out.2.2.2.1 hg1 hg2).1, (HL.out.1.done swoP hamid hmidb HL.out.2.2.1 HL.out.2.2.2.1 hg1 hg2).2, HL.out.2.1.trans hg3, hg4⟩
                  clear hg1 hg2 hg3 hg4
                  go_wp2_with fail
                  go_end0
                  exact ⟨rfl, HEND.out⟩
                · have hj1 : (mid : Int) < (t : Int) := Int.ofNat_lt.2 hr1
                  have hj2 : ¬ (t : Int) < (b : Int) := by omega
                  have hsr : SortedIn (ltOf cfP) mid b f := sorted_out (sorted_mono HL.out.1.r1 (Nat.le_refl _) (by omega)) fun p q1 q2 => HL.out.2.2.1.2.1 p (Or.inr (by omega))
                  have HEND : Hid (∃ d', Rng d d' a b ∧ SortedIn (ltOf cfP) a b d' ∧ Stb clsP d d' ∧ SWK encP 2 w0 blk off d' w6) := Lib.hid ⟨f, (HL.out.1.done swoP hamid hmidb HL.out.2.2.1 HL.out.2.2.2.1 (Rng.refl f mid b) hsr).1, (HL.out.1.done swoP hamid hmidb HL.out.2.2.1 HL.out.2.2.2.1 (Rng.refl f mid b) hsr).2, HL.out.2.1, HL.out.2.2.2.2⟩
                  clear hsr
                  go_wp2_with fail
                  go_end0
                  exact ⟨rfl, HEND.out⟩
              · have hj1 : ¬ (mid : Int) < (t : Int) := by omega
                have hsr : SortedIn (ltOf cfP) mid b f := sorted_out (sorted_mono HL.out.1.r2 (by omega) (Nat.le_refl _)) fun p q1 q2 => HL.out.2.2.1.2.1 p (Or.inr (by omega))
                have HEND : Hid (∃ d', Rng d d' a b ∧ SortedIn (ltOf cfP) a b d' ∧ Stb clsP d d' ∧ SWK encP 2 w0 blk off d' w6) := Lib.hid ⟨f, (HL.out.1.done swoP hamid hmidb HL.out.2.2.1 HL.out.2.2.2.1 (Rng.refl f mid b) hsr).1, (HL.out.1.done swoP hamid hmidb HL.out.2.2.1 HL.out.2.2.2.1 (Rng.refl f mid b) hsr).2, HL.out.2.1, HL.out.2.2.2.2⟩
                clear hsr
                go_wp2_with fail
                go_end0
                exact ⟨rfl, HEND.out⟩
            · have hk1 : (a : Int) < (s : Int) := Int.ofNat_lt.2 hl1
              have hk2 : ¬ (s : Int) < (mid : Int) := by omega
              obtain ⟨f, hfe⟩ : ∃ f, f = e := ⟨_, rfl⟩
              have HL : Hid (Mid (ltOf cfP) d e a mid s t b ∧ Stb clsP d f ∧ Rng e f a mid ∧ SortedIn (ltOf cfP) a mid f ∧ SWK encP 2 w0 blk off f wr) := Lib.hid (by rw [hfe]; exact ⟨HM.out.1, HM.out.2.1, Rng.refl e a mid, sorted_mono HM.out.1.l1 (Nat.le_refl _) (by omega), HM.out.2.2⟩)
              have hfs : f.size = N := by rw [hfe, hes]
              clear hfe
              by_cases hr1 : mid < t
              · by_cases hr2 : t < b
                · have hj1 : (mid : Int) < (t : Int) := Int.ofNat_lt.2 hr1
                  have hj2 : (t : Int) < (b : Int) := Int.ofNat_lt.2 hr2
                  have HC := (fun (h : mid < t ∧ t < b) => HIH.out mid t b f wr (by omega) h.1 h.2 (by rw [hfs]; omega) (by rw [hfs, HDS.out]) (by rw [hfs]; exact hsz) HL.out.2.2.2.2 (sorted_out HL.out.1.r1 fun p q1 q2 => HL.out.2.2.1.2.1 p (Or.inr q1)) (sorted_out HL.out.1.r2 fun p q1 q2 => HL.out.2.2.1.2.1 p (Or.inr (by omega)))) ⟨hr1, hr2⟩
                  rw [hfs] at HC
                  have HC := Lib.hid HC
                  clear hr1 hr2
                  go_wp2_with fail
                  refine HC.out.mono ?_
                  rintro e7 w7 ⟨rfl, gg, hg1, hg2, hg3, hg4⟩
                  have HEND : Hid (∃ d', Rng d d' a b ∧ SortedIn (ltOf cfP) a b d' ∧ Stb clsP d d' ∧ SWK encP 2 w0 blk off d' w7) := Lib.hid ⟨gg, (HL.out.1.done swoP hamid hmidb HL.out.2.2.1 HL.out.2.2.2.1 hg1 hg2).1, (HL.out.1.done swoP hamid hmidb HL.out.2.2.1 HL.out.2.2.2.1 hg1 hg2).2, HL.out.2.1.trans hg3, hg4⟩
                  clear hg1 hg2 hg3 hg4
                  go_wp2_with fail
                  go_end0
                  exact ⟨rfl, HEND.out⟩
                · have hj1 : (mid : Int) < (t : Int) := Int.ofNat_lt.2 hr1
                  have hj2 : ¬ (t : Int) < (b : Int) := by omega
                  have hsr : SortedIn (ltOf cfP) mid b f := sorted_out (sorted_mono HL.out.1.r1 (Nat.le_refl _) (by omega)) fun p q1 q2 => HL.out.2.2.1.2.1 p (Or.inr (by omega))
                  have HEND : Hid (∃ d', Rng d d' a b ∧ SortedIn (ltOf cfP) a b d' ∧ Stb clsP d d' ∧ SWK encP 2 w0 blk off d' wr) := Lib.hid ⟨f, (HL.out.1.done swoP hamid hmidb HL.out.2.2.1 HL.out.2.2.2.1 (Rng.refl f mid b) hsr).1, (HL.out.1.done swoP hamid hmidb HL.out.2.2.1 HL.out.2.2.2.1 (Rng.refl f mid b) hsr).2, HL.out.2.1, HL.out.2.2.2.2⟩
                  clear hsr
                  go_wp2_with fail
                  go_end0
                  exact ⟨rfl, HEND.out⟩
              · have hj1 : ¬ (mid : Int) < (t : Int) := by omega
                have hsr : SortedIn (ltOf cfP) mid b f := sorted_out (sorted_mono HL.out.1.r2 (by omega) (Nat.le_refl _)) fun p q1 q2 => HL.out.2.2.1.2.1 p (Or.inr (by omega))
                have HEND : Hid (∃ d', Rng d d' a b ∧ SortedIn (ltOf cfP) a b d' ∧ Stb clsP d d' ∧ SWK encP 2 w0 blk off d' wr) := Lib.hid ⟨f, (HL.out.1.done swoP hamid hmidb HL.out.2.2.1 HL.out.2.2.2.1 (Rng.refl f mid b) hsr).1, (HL.out.1.done swoP hamid hmidb HL.out.2.2.1 HL.out.2.2.2.1 (Rng.refl f mid b) hsr).2, HL.out.2.1, HL.out.2.2.2.2⟩
                clear hsr
                go_wp2_with fail
                go_end0
                exact ⟨rfl, HEND.out⟩
          · have hk1 : ¬ (a : Int) < (s : Int) := by omega
            obtain ⟨f, hfe⟩ : ∃ f, f = e := ⟨_, rfl⟩
            have HL : Hid (Mid (ltOf cfP) d e a mid s t b ∧ Stb clsP d f ∧ Rng e f a mid ∧ SortedIn (ltOf cfP) a mid f ∧ SWK encP 2 w0 blk off f wr) := Lib.hid (by rw [hfe]; exact ⟨HM.out.1, HM.out.2.1, Rng.refl e a mid, sorted_mono HM.out.1.l2 (by omega) (Nat.le_refl _), HM.out.2.2⟩)
            have hfs : f.size = N := by rw [hfe, hes]
            clear hfe
            by_cases hr1 : mid < t
            · by_cases hr2 : t < b
              · have hj1 : (mid : Int) < (t : Int) := Int.ofNat_lt.2 hr1
                have hj2 : (t : Int) < (b : Int) := Int.ofNat_lt.2 hr2
                have HC := (fun (h : mid < t ∧ t < b) => HIH.out mid t b f wr (by omega) h.1 h.2 (by rw [hfs]; omega) (by rw [hfs, HDS.out]) (by rw [hfs]; exact hsz) HL.out.2.2.2.2 (sorted_out HL.out.1.r1 fun p q1 q2 => HL.out.2.2.1.2.1 p (Or.inr q1)) (sorted_out HL.out.1.r2 fun p q1 q2 => HL.out.2.2.1.2.1 p (Or.inr (by omega)))) ⟨hr1, hr2⟩
                rw [hfs] at HC
                have HC := Lib.hid HC
                clear hr1 hr2
                go_wp2_with fail
                refine HC.out.mono ?_
                rintro e7 w7 ⟨rfl, gg, hg1, hg2, hg3, hg4⟩
                have HEND : Hid (∃ d', Rng d d' a b ∧ SortedIn (ltOf cfP) a b d' ∧ Stb clsP d d' ∧ SWK encP 2 w0 blk off d' w7) := Lib.hid ⟨gg, (HL.out.1.done swoP hamid hmidb HL.out.2.2.1 HL.out.2.2.2.1 hg1 hg2).1, (HL.out.1.done swoP hamid hmidb HL.out.2.2.1 HL.out.2.2.2.1 hg1 hg2).2, HL.out.2.1.trans hg3, hg4⟩
                clear hg1 hg2 hg3 hg4
                go_wp2_with fail
                go_end0
                exact ⟨rfl, HEND.out⟩
              · have hj1 : (mid : Int) < (t : Int) := Int.ofNat_lt.2 hr1
                have hj2 : ¬ (t : Int) < (b : Int) := by omega
                have hsr : SortedIn (ltOf cfP) mid b f := sorted_out (sorted_mono HL.out.1.r1 (Nat.le_refl _) (by omega)) fun p q1 q2 => HL.out.2.2.1.2.1 p (Or.inr (by omega))
                have HEND : Hid (∃ d', Rng d d' a b ∧ SortedIn (ltOf cfP) a b d' ∧ Stb clsP d d' ∧ SWK encP 2 w0 blk off d' wr) := Lib.hid ⟨f, (HL.out.1.done swoP hamid hmidb HL.out.2.2.1 HL.out.2.2.2.1 (Rng.refl f mid b) hsr).1, (HL.out.1.done swoP hamid hmidb HL.out.2.2.1 HL.out.2.2.2.1 (Rng.refl f mid b) hsr).2, HL.out.2.1, HL.out.2.2.2.2⟩
                clear hsr
                go_wp2_with fail
                go_end0
                exact ⟨rfl, HEND.out⟩
            · have hj1 : ¬ (mid : Int) < (t : Int) := by omega
              have hsr : SortedIn (ltOf cfP) mid b f := sorted_out (sorted_mono HL.out.1.r2 (by omega) (Nat.le_refl _)) fun p q1 q2 => HL.out.2.2.1.2.1 p (Or.inr (by omega))
              have HEND : Hid (∃ d', Rng d d' a b ∧ SortedIn (ltOf cfP) a b d' ∧ Stb clsP d d' ∧ SWK encP 2 w0 blk off d' wr) := Lib.hid ⟨f, (HL.out.1.done swoP hamid hmidb HL.out.2.2.1 HL.out.2.2.2.1 (Rng.refl f mid b) hsr).1, (HL.out.1.done swoP hamid hmidb HL.out.2.2.1 HL.out.2.2.2.1 (Rng.refl f mid b) hsr).2, HL.out.2.1, HL.out.2.2.2.2⟩
              clear hsr
              go_wp2_with fail
              go_end0
              exact ⟨rfl, HEND.out⟩
      · have hi1 : ¬ (s : Int) < (m : Int) := by omega
        obtain ⟨e, hed⟩ : ∃ e, e = d := ⟨_, rfl⟩
        have HM : Hid (Mid (ltOf cfP) d e a mid s t b ∧ Stb clsP d e ∧ SWK encP 2 w0 blk off e wr) := Lib.hid (by
          have hrot : Rot d d s m t := by rw [show s = m by omega]; exact Rot.id2 d m t (by omega) (by rw [HDN.out]; omega)
          rw [hed]
          exact ⟨(HMO.out d hrot).1, Stb.refl clsP d, HSS.out⟩)
        have hes : e.size = N := by rw [hed, HDN.out]
        clear hed
        by_cases hl1 : a < s
        · by_cases hl2 : s < mid
          · have hk1 : (a : Int) < (s : Int) := Int.ofNat_lt.2 hl1
            have hk2 : (s : Int) < (mid : Int) := Int.ofNat_lt.2 hl2
            have HC := HIH.out a s mid e wr (by omega) hl1 hl2 (by rw [hes]; omega) (by rw [hes, HDS.out]) (by rw [hes]; exact hsz) HM.out.2.2 HM.out.1.l1 HM.out.1.l2
            rw [hes] at HC
            have HC := Lib.hid HC
            clear hl1 hl2
            go_wp2_with fail
            refine HC.out.mono ?_
            rintro e6 w6 ⟨rfl, f, hg1, hg2, hg3, hg4⟩
            have HL : Hid (Mid (ltOf cfP) d e a mid s t b ∧ Stb clsP d f ∧ Rng e f a mid ∧ SortedIn (ltOf cfP) a mid f ∧ SWK encP 2 w0 blk off f w6) := Lib.hid ⟨HM.out.1, HM.out.2.1.trans hg3, hg1, hg2, hg4⟩
            have hfs : f.size = N := by rw [hg1.1, hes]
            clear hg1 hg2 hg3 hg4
            by_cases hr1 : mid < t
            · by_cases hr2 : t < b
              · have hj1 : (mid : Int) < (t : Int) := Int.ofNat_lt.2 hr1
                have hj2 : (t : Int) < (b : Int) := Int.ofNat_lt.2 hr2
                have HC := (fun (h : mid < t ∧ t < b) => HIH.out mid t b f w6 (by omega) h.1 h.2 (by rw [hfs]; omega) (by rw [hfs, HDS.out]) (by rw [hfs]; exact hsz) HL.out.2.2.2.2 (sorted_out HL.out.1.r1 fun p q1 q2 => HL.out.2.2.1.2.1 p (Or.inr q1)) (sorted_out HL.out.1.r2 fun p q1 q2 => HL.out.2.2.1.2.1 p (Or.inr (by omega)))) ⟨hr1, hr2⟩
                rw [hfs] at HC
                have HC := Lib.hid HC
                clear hr1 hr2
                go_wp2_with fail
                refine HC.out.mono ?_
                rintro e7 w7 ⟨rfl, gg, hg1, hg2, hg3, hg4⟩
                have HEND : Hid (∃ d', Rng d d' a b ∧ SortedIn (ltOf cfP) a b d' ∧ Stb clsP d d' ∧ SWK encP 2 w0 blk off d' w7) := Lib.hid ⟨gg, (HL.out.1.done swoP hamid hmidb HL.out.2.2.1 HL.out.2.2.2.1 hg1 hg2).1, (HL.out.1.done swoP hamid hmidb HL.out.2.2.1 HL.out.2.2.2.1 hg1 hg2).2, HL.out.2.1.trans hg3, hg4⟩
                clear hg1 hg2 hg3 hg4
                go_wp2_with fail
                go_end0
                exact ⟨rfl, HEND.out⟩
              · have hj1 : (mid : Int) < (t : Int) := Int.ofNat_lt.2 hr1
                have hj2 : ¬ (t : Int) < (b : Int) := by omega
                have hsr : SortedIn (ltOf cfP) mid b f := sorted_out (sorted_mono HL.out.1.r1 (Nat.le_refl _) (by omega)) fun p q1 q2 => HL.out.2.2.1.2.1 p (Or.inr (by omega))
                have HEND : Hid (∃ d', Rng d d' a b ∧ SortedIn (ltOf cfP) a b d' ∧ Stb clsP d d' ∧ SWK encP 2 w0 blk off d' w6) := Lib.hid ⟨f, (HL.out.1.done swoP hamid hmidb HL.out.2.2.1 HL.out.2.2.2.1 (Rng.refl f mid b) hsr).1, (HL.out.1.done swoP hamid hmidb HL.out.2.2.1 HL.out.2.2.2.1 (Rng.refl f mid b) hsr).2, HL.out.2.1, HL.out.2.2.2.2⟩
                clear hsr
                go_wp2_with fail
                go_end0
                exact ⟨rfl, HEND.out⟩
            · have hj1 : ¬ (mid : Int) < (t : Int) := by omega
              have hsr : SortedIn (ltOf cfP) mid b f := sorted_out (sorted_mono HL.out.1.r2 (by omega) (Nat.le_refl _)) fun p q1 q2 => HL.out.2.2.1.2.1 p (Or.inr (by omega))
              have HEND : Hid (∃ d', Rng d d' a b ∧ SortedIn (ltOf cfP) a b d' ∧ Stb clsP d d' ∧ SWK encP 2 w0 blk off d' w6) := Lib.hid ⟨f, (HL.out.1.done swoP hamid hmidb HL.out.2.2.1 HL.out.2.2.2.1 (Rng.refl f mid b) hsr).1, (HL.out.1.done swoP hamid hmidb HL.out.2.2.1 HL.out.2.2.2.1 (Rng.refl f mid b) hsr).2, HL.out.2.1, HL.out.2.2.2.2⟩
              clear hsr
              go_wp2_with fail
              go_end0
              exact ⟨rfl, HEND.out⟩
          · have hk1 : (a : Int) < (s : Int) := Int.ofNat_lt.2 hl1
            have hk2 : ¬ (s : Int) < (mid : Int) := by omega
            obtain ⟨f, hfe⟩ : ∃ f, f = e := ⟨_, rfl⟩
            have HL : Hid (Mid (ltOf cfP) d e a mid s t b ∧ Stb clsP d f ∧ Rng e f a mid ∧ SortedIn (ltOf cfP) a mid f ∧ SWK encP 2 w0 blk off f wr) := Lib.hid (by rw [hfe]; exact ⟨HM.out.1, HM.out.2.1, Rng.refl e a mid, sorted_mono HM.out.1.l1 (Nat.le_refl _) (by omega), HM.out.2.2⟩)
            have hfs : f.size = N := by rw [hfe, hes]
            clear hfe
            by_cases hr1 : mid < t
            · by_cases hr2 : t < b
              · have hj1 : (mid : Int) < (t : Int) := Int.ofNat_lt.2 hr1
                have hj2 : (t : Int) < (b : Int) := Int.ofNat_lt.2 hr2
                have HC := (fun (h : mid < t ∧ t < b) => HIH.out mid t b f wr (by omega) h.1 h.2 (by rw [hfs]; omega) (by rw [hfs, HDS.out]) (by rw [hfs]; exact hsz) HL.out.2.2.2.2 (sorted_out HL.out.1.r1 fun p q1 q2 => HL.out.2.2.1.2.1 p (Or.inr q1)) (sorted_out HL.out.1.r2 fun p q1 q2 => HL.out.2.2.1.2.1 p (Or.inr (by omega)))) ⟨hr1, hr2⟩
                rw [hfs] at HC
                have HC := Lib.hid HC
                clear hr1 hr2
                go_wp2_with fail
                refine HC.out.mono ?_
                rintro e7 w7 ⟨rfl, gg, hg1, hg2, hg3, hg4⟩
                have HEND : Hid (∃ d', Rng d d' a b ∧ SortedIn (ltOf cfP) a b d' ∧ Stb clsP d d' ∧ SWK encP 2 w0 blk off d' w7) := Lib.hid ⟨gg, (HL.out.1.done swoP hamid hmidb HL.out.2.2.1 HL.out.2.2.2.1 hg1 hg2).1, (HL.out.1.done swoP hamid hmidb HL.out.2.2.1 HL.out.2.2.2.1 hg1 hg2).2, HL.out.2.1.trans hg3, hg4⟩
                clear hg1 hg2 hg3 hg4
                go_wp2_with fail
                go_end0
                exact ⟨rfl, HEND.out⟩
              · have hj1 : (mid : Int) < (t : Int) := Int.ofNat_lt.2 hr1
                have hj2 : ¬ (t : Int) < (b : Int) := by omega
                have hsr : SortedIn (ltOf cfP) mid b f := sorted_out (sorted_mono HL.out.1.r1 (Nat.le_refl _) (by omega)) fun p q1 q2 => HL.out.2.2.1.2.1 p (Or.inr (by omega))
                have HEND : Hid (∃ d', Rng d d' a b ∧ SortedIn (ltOf cfP) a b d' ∧ Stb clsP d d' ∧ SWK encP 2 w0 blk off d' wr) := Lib.hid ⟨f, (HL.out.1.done swoP hamid hmidb HL.out.2.2.1 HL.out.2.2.2.1 (Rng.refl f mid b) hsr).1, (HL.out.1.done swoP hamid hmidb HL.out.2.2.1 HL.out.2.2.2.1 (Rng.refl f mid b) hsr).2, HL.out.2.1, HL.out.2.2.2.2⟩
                clear hsr
                go_wp2_with fail
                go_end0
                exact ⟨rfl, HEND.out⟩
            · have hj1 : ¬ (mid : Int) < (t : Int) := by omega
              have hsr : SortedIn (ltOf cfP) mid b f := sorted_out (sorted_mono HL.out.1.r2 (by omega) (Nat.le_refl _)) fun p q1 q2 => HL.out.2.2.1.2.1 p (Or.inr (by omega))
              have HEND : Hid (∃ d', Rng d d' a b ∧ SortedIn (ltOf cfP) a b d' ∧ Stb clsP d d' ∧ SWK encP 2 w0 blk off d' wr) := Lib.hid ⟨f, (HL.out.1.done swoP hamid hmidb HL.out.2.2.1 HL.out.2.2.2.1 (Rng.refl f mid b) hsr).1, (HL.out.1.done swoP hamid hmidb HL.out.2.2.1 HL.out.2.2.2.1 (Rng.refl f mid b) hsr).2, HL.out.2.1, HL.out.2.2.2.2⟩
              clear hsr
              go_wp2_with fail
              go_end0
              exact ⟨rfl, HEND.out⟩
        · have hk1 : ¬ (a : Int) < (s : Int) := by omega
          obtain ⟨f, hfe⟩ : ∃ f, f = e := ⟨_, rfl⟩
          have HL : Hid (Mid (ltOf cfP) d e a mid s t b ∧ Stb clsP d f ∧ Rng e f a mid ∧ SortedIn (ltOf cfP) a mid f ∧ SWK encP 2 w0 blk off f wr) := Lib.hid (by rw [hfe]; exact ⟨HM.out.1, HM.out.2.1, Rng.refl e a mid, sorted_mono HM.out.1.l2 (by omega) (Nat.le_refl _), HM.out.2.2⟩)
          have hfs : f.size = N := by rw [hfe, hes]
          clear hfe
          by_cases hr1 : mid < t
          · by_cases hr2 : t < b
            · have hj1 : (mid : Int) < (t : Int) := Int.ofNat_lt.2 hr1
              have hj2 : (t : Int) < (b : Int) := Int.ofNat_lt.2 hr2
              have HC := (fun (h : mid < t ∧ t < b) => HIH.out mid t b f wr (by omega) h.1 h.2 (by rw [hfs]; omega) (by rw [hfs, HDS.out]) (by rw [hfs]; exact hsz) HL.out.2.2.2.2 (sorted_out HL.out.1.r1 fun p q1 q2 => HL.out.2.2.1.2.1 p (Or.inr q1)) (sorted_out HL.out.1.r2 fun p q1 q2 => HL.out.2.2.1.2.1 p (Or.inr (by omega)))) ⟨hr1, hr2⟩
              rw [hfs] at HC
              have HC := Lib.hid HC
              clear hr1 hr2
              go_wp2_with fail
              refine HC.out.mono ?_
              rintro e7 w7 ⟨rfl, gg, hg1, hg2, hg3, hg4⟩
              have HEND : Hid (∃ d', Rng d d' a b ∧ SortedIn (ltOf cfP) a b d' ∧ Stb clsP d d' ∧ SWK encP 2 w0 blk off d' w7) := Lib.hid ⟨gg, (HL.out.1.done swoP hamid hmidb HL.out.2.2.1 HL.out.2.2.2.1 hg1 hg2).1, (HL.out.1.done swoP hamid hmidb HL.out.2.2.1 HL.out.2.2.2.1 hg1 hg2).2, HL.out.2.1.trans hg3, hg4⟩
              clear hg1 hg2 hg3 hg4
              go_wp2_with fail
              go_end0
              exact ⟨rfl, HEND.out⟩
            · have hj1 : (mid : Int) < (t : Int) := Int.ofNat_lt.2 hr1
              have hj2 : ¬ (t : Int) < (b : Int) := by omega
              have hsr : SortedIn (ltOf cfP) mid b f := sorted_out (sorted_mono HL.out.1.r1 (Nat.le_refl _) (by omega)) fun p q1 q2 => HL.out.2.2.1.2.1 p (Or.inr (by omega))
              have HEND : Hid (∃ d', Rng d d' a b ∧ SortedIn (ltOf cfP) a b d' ∧ Stb clsP d d' ∧ SWK encP 2 w0 blk off d' wr) := Lib.hid ⟨f, (HL.out.1.done swoP hamid hmidb HL.out.2.2.1 HL.out.2.2.2.1 (Rng.refl f mid b) hsr).1, (HL.out.1.done swoP hamid hmidb HL.out.2.2.1 HL.out.2.2.2.1 (Rng.refl f mid b) hsr).2, HL.out.2.1, HL.out.2.2.2.2⟩
              clear hsr
              go_wp2_with fail
              go_end0
              exact ⟨rfl, HEND.out⟩
          · have hj1 : ¬ (mid : Int) < (t : Int) := by omega
            have hsr : SortedIn (ltOf cfP) mid b f := sorted_out (sorted_mono HL.out.1.r2 (by omega) (Nat.le_refl _)) fun p q1 q2 => HL.out.2.2.1.2.1 p (Or.inr (by omega))
            have HEND : Hid (∃ d', Rng d d' a b ∧ SortedIn (ltOf cfP) a b d' ∧ Stb clsP d d' ∧ SWK encP 2 w0 blk off d' wr) := Lib.hid ⟨f, (HL.out.1.done swoP hamid hmidb HL.out.2.2.1 HL.out.2.2.2.1 (Rng.refl f mid b) hsr).1, (HL.out.1.done swoP hamid hmidb HL.out.2.2.1 HL.out.2.2.2.1 (Rng.refl f mid b) hsr).2, HL.out.2.1, HL.out.2.2.2.2⟩
            clear hsr
            go_wp2_with fail
            go_end0
            exact ⟨rfl, HEND.out⟩
end Go.Proofs.YtclnoblcdaimiaaDoor
