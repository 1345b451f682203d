/- Keys of the algorithm 1, of the seed of the fixed example. -/
import Derived.Test.YtalhdalmafhofaaGreatDoorSv16
import Derived.Test.YtalhdalmafhofaaGreatDoorNv16
import Derived.Test.YtalhdalmafhofaaGreatDoorEn16
import Derived.Test.YtalhdalmafhofaaGreatDoorSn16
import Derived.Handy
namespace Go.Proofs.YtalhdalmafhofaaGreatDoor
open Go.RowKit
set_option linter.unusedVariables false
set_option maxRecDepth 100000
set_option maxHeartbeats 4000000

/-- The output of SHA3-512 for d and k. -/
def prtF (j : Nat) : Int := rout (rstate z33 72 6) 72 j
theorem own_sl {xs : List Int} {w w' : World} {e : Ending} (h : OwnB xs w e w') : ∃ A c, e = .returned (.slice A xs.length c) ∧ Sl w' A xs.length c xs ∧ Past w w' := by
  obtain ⟨v, he, ho, hr, hp⟩ := h
  obtain ⟨A, c, rfl⟩ := own_slice ho
  exact ⟨A, c, he, Sl.of_own ho hr, hp⟩
theorem keys1_any (b : Nat) (w : World) (hS : Sl w (some ⟨b, 0, none⟩) 64 64 (List.replicate 64 0)) (hG : Glob13 w) :
    Calls Tryz.prog 9 #[.int .i64 1, .slice (some ⟨b, 0, none⟩) 64 64] w fun r w' => ∃ A c B d, r = .returned (.tuple #[.slice A 800 c, .slice B 1632 d, .bool true]) ∧ Past w w' := by
  have HG := Lib.hid hG
  have hd0 := sl_head hS (m := 32) (by decide)
  rw [show (List.replicate 64 (0 : Int)).take 32 = List.replicate 32 0 by decide] at hd0
  have HD := Lib.hid hd0
  have hz0 := sl_tail hS (L := 32) (m := 32) rfl (by decide)
  have HZZ := Lib.hid hz0
  clear hS hG hd0 hz0
  go_enter Tryz.func9, Tryz.ntmps9
  go_wp2_with fail
  refine (rank_any 1 w HG.out).mono ?_
  rintro e w2 ⟨rfl, hp2⟩
  have H2 := Lib.hid hp2
  clear hp2
  rw [show rkF 1 = 2 from rfl]
  go_upto_region 4 with (fail)
  go_quiet (fail)
  obtain ⟨w3, hw3⟩ : ∃ w', w2.drewN nq = w' := ⟨_, rfl⟩
  have H3 : Hid (Past w w3) := Lib.hid (by rw [← hw3]; exact (H2.out).drewN _)
  rw [hw3]
  clear hw3 H2
  go_upto_region 5 with (fail)
  obtain ⟨h3, hh3⟩ : ∃ h, w3.heap.size = h := ⟨_, rfl⟩
  obtain ⟨w4, hw4⟩ : ∃ w', w3.alloc (.cells #[.int .u8 2] 5) = w' := ⟨_, rfl⟩
  have hp4 : Past w3 w4 := by rw [← hw4]; exact (Below.refl _ _).alloc (Nat.le_refl _) _
  have s2 : Sl w4 (some ⟨h3, 0, none⟩) 1 1 [2] := by rw [← hw4, ← hh3]; exact sl_one16 _ _ (by decide)
  have hs4 : w4.heap.size = h3 + 1 := by rw [← hw4, ← hh3]; simp [World.size_alloc]
  obtain ⟨V, C, X, hX, hcat⟩ := sls_row w4 2 [(some ⟨b, 0, none⟩, 32, 64, List.replicate 32 0), (some ⟨h3, 0, none⟩, 1, 1, [2])] rfl (by decide) 25 (by intro y hy; simp at hy; rcases hy with rfl | rfl; exact (HD.out.past (H3.out.trans' hp4)); exact s2) (by decide)
  obtain ⟨w5, hw5⟩ : ∃ w', w4.alloc (.cells #[.slice (some ⟨b, 0, none⟩) 32 64, .slice (some ⟨h3, 0, none⟩) 1 1] 25) = w' := ⟨_, rfl⟩
  have hp5 : Past w4 w5 := by rw [← hw5]; exact (Below.refl _ _).alloc (Nat.le_refl _) _
  have hX5 : Sls w5 (some ⟨h3 + 1, 0, none⟩) 2 2 V C X := by rw [← hw5, ← hs4]; exact hX
  have hcz : cat X 2 = z33 := by rw [hcat]; rfl
  have H5 := Lib.hid (H3.out.trans' (hp4.trans' hp5))
  have HSH := Lib.hid (hSHA512_any _ 2 2 V C X w5 hX5 (by decide) (by rw [hcz]; decide))
  rw [hcz] at HSH
  have HWS := Lib.hid (And.intro hw4 (And.intro hw5 hs4))
  clear hX hX5 hcz hcat hp4 hp5 s2 hw4 hw5 hs4 V C X
  go_wp2_with fail
  try rw [hh3]
  rw [HWS.out.1]
  try rw [HWS.out.2.2]
  rw [HWS.out.2.1]
  clear HWS hh3
  refine HSH.out.mono ?_
  rintro e w6 ⟨rfl, hp6⟩
  obtain ⟨cs, hcs⟩ : ∃ cs, hsh z33 72 6 64 = cs := ⟨_, rfl⟩
  obtain ⟨c64, hc64⟩ : ∃ cs, arr .u8 64 (fun _ => 0) = cs := ⟨_, rfl⟩
  have hzz := zero64
  rw [hc64] at hzz
  rw [hcs]
  obtain ⟨p, hpe⟩ : ∃ p, w6.heap.size = p := ⟨_, rfl⟩
  obtain ⟨w7, hw7⟩ : ∃ w', w6.alloc (.cells cs 54) = w' := ⟨_, rfl⟩
  have hp7 : Past w6 w7 := by rw [← hw7]; exact (Below.refl _ _).alloc (Nat.le_refl _) _
  have hr7 : Row w7 p 54 (arr .u8 64 prtF) := by rw [← hw7, ← hpe, ← hcs]; exact Row.new _ _ _
  have hsl7 := sl_arr hr7 (fun j => rout_rng _ _ _) (by decide)
  have hrho := sl_head hsl7 (m := 32) (by decide)
  rw [show (bl prtF 64).take 32 = rhoL from (show (bl prtF 64).take 32 = bl prtF 32 from rfl).trans rho_lit] at hrho
  have hsig := sl_tail hsl7 (L := 32) (m := 32) rfl (by decide)
  have HP7 := Lib.hid (H5.out.trans' (hp6.trans' hp7))
  have HRHO := Lib.hid hrho
  have HSIG := Lib.hid hsig
  have hi1 : (Tryz.prog.info? 54).map (·.size) = some cs.size := by rw [← hcs]; unfold hsh; rw [arr_size]; kernel_rfl
  have hs1 : c64.size = cs.size := by rw [← hcs, ← hc64]; unfold hsh; rw [arr_size, arr_size]
  have ho1 : cs.all (·.oneCell') = true := by rw [← hcs]; exact arr_one .u8 64 _
  have hn1 := heap_alloc_new w6 (.cells c64 54)
  rw [hpe] at hn1
  have HSR : Hid ((w6.alloc (.cells c64 54)).setRow p cs = w7) := Lib.hid (by rw [← hpe, World.setRow_alloc_new]; exact hw7)
  clear hp6 hcs hc64 hw7 hp7 hr7 hsl7 hrho hsig H5 HSH
  go_upto_region 6 with (refine wpList_store_row rfl 54 _ _ rfl p _ rfl rfl _ _ hn1 hi1 hs1 ho1 ?_)
  rw [HSR.out]
  clear HSR hn1 hi1 hs1 ho1 hzz hpe
  go_quiet (fail)
  obtain ⟨w8, hw8⟩ : ∃ w', w7.drewN nq = w' := ⟨_, rfl⟩
  have H8 : Hid (Past w7 w8) := Lib.hid (by rw [← hw8]; exact Past.drewN (Below.refl _ _) _)
  rw [hw8]
  clear hw8
  go_wp2_with fail
  refine (noises_any 0 (some ⟨p, 32, none⟩) 32 _ w8 (HSIG.out.past H8.out) (HG.out.past (HP7.out.trans' H8.out)) (by decide)).mono ?_
  rintro e w9 ⟨v9, rfl, hrp9, hp9⟩
  obtain ⟨gs, cs, S, rfl, hpl9, _⟩ := hrp9.pl
  have HS9 := Lib.hid hpl9
  have HP9 := Lib.hid (H8.out.trans' hp9)
  clear hrp9 hpl9 hp9
  go_wp2_with fail
  refine (matrix_any (some ⟨p, 0, none⟩) 64 rhoL w9 (HRHO.out.past HP9.out) (HG.out.past (HP7.out.trans' HP9.out)) (fun i j hi hj => uok_all i j hi hj)).mono ?_
  rintro e w10 ⟨R, v0, v1, rfl, hR, h0, h1, hp10⟩
  have HM := Lib.hid (And.intro hR (And.intro h0 h1))
  have HP10 := Lib.hid (HP9.out.trans' hp10)
  have HS10 := Lib.hid (HS9.out.past hp10)
  clear hR h0 h1 hp10 HS9 HP9
  go_wp2_with fail
  refine (noises_any 2 (some ⟨p, 32, none⟩) 32 _ w10 (HSIG.out.past HP10.out) (HG.out.past (HP7.out.trans' HP10.out)) (by decide)).mono ?_
  rintro e w11 ⟨v11, rfl, hrp11, hp11⟩
  obtain ⟨ge, ce, E, rfl, hpl11, _⟩ := hrp11.pl
  have HE11 := Lib.hid hpl11
  have HP11 := Lib.hid (HP10.out.trans' hp11)
  have HM11 := Lib.hid (And.intro (HM.out.1.past hp11) (And.intro (HM.out.2.1.past hp11) (HM.out.2.2.past hp11)))
  have HS11 := Lib.hid (HS10.out.past hp11)
  clear hrp11 hpl11 hp11 HP10 HM HS10
  go_wp2_with fail
  refine (sums_any R v0 v1 gs cs ge ce S E w11 HM11.out.1 HM11.out.2.1 HM11.out.2.2 HS11.out HE11.out).mono ?_
  rintro e w12 ⟨v12, rfl, hrp12, hp12⟩
  obtain ⟨gt, ct, Tt, rfl, hpl12, _⟩ := hrp12.pl
  have HT12 := Lib.hid hpl12
  have HP12 := Lib.hid (HP11.out.trans' hp12)
  have HS12 := Lib.hid (HS11.out.past hp12)
  clear hrp12 hpl12 hp12 HM11 HE11 HP11 HS11
  go_wp2_with fail
  refine (encoded_any gt ct Tt w12 HT12.out).mono ?_
  rintro e w13 ⟨xs1, hl1, hb1⟩
  obtain ⟨A1, c1, rfl, hs1, hp13⟩ := own_sl hb1
  rw [hl1] at hs1 ⊢
  have HL1 := Lib.hid hl1
  have HP13 := Lib.hid (HP12.out.trans' hp13)
  have HS13 := Lib.hid (HS12.out.past hp13)
  have HX1 := Lib.hid hs1
  clear hl1 hb1 hs1 hp13 HT12 HP12 HS12
  obtain ⟨V, C, X, hX, hcat⟩ := sls_row w13 2 [(A1, 768, c1, xs1), (some ⟨p, 0, none⟩, 32, 64, rhoL)] rfl (by decide) 25 (by intro y hy; simp at hy; rcases hy with rfl | rfl; exact HX1.out; exact (HRHO.out.past HP13.out)) (by decide)
  obtain ⟨w14, hw14⟩ : ∃ w', w13.alloc (.cells #[.slice A1 768 c1, .slice (some ⟨p, 0, none⟩) 32 64] 25) = w' := ⟨_, rfl⟩
  have hp14 : Past w13 w14 := by rw [← hw14]; exact (Below.refl _ _).alloc (Nat.le_refl _) _
  obtain ⟨h13, hh13⟩ : ∃ h, w13.heap.size = h := ⟨_, rfl⟩
  have hX14 : Sls w14 (some ⟨h13, 0, none⟩) 2 2 V C X := by rw [← hw14, ← hh13]; exact hX
  obtain ⟨pub, hpub⟩ : ∃ x, cat X 2 = x := ⟨_, rfl⟩
  have hplen : pub.length = 800 := by rw [← hpub, hcat]; simp [HL1.out]; rfl
  have HCC := Lib.hid (concat_any _ 2 2 V C X w14 hX14 (by decide) (by rw [hpub, hplen]; decide))
  rw [hpub] at HCC
  have HPL := Lib.hid hplen
  have HP14 := Lib.hid (HP13.out.trans' hp14)
  have HS14 := Lib.hid (HS13.out.past hp14)
  have HW14 := Lib.hid hw14
  clear hX hX14 hcat hpub hplen hp14 hw14 V C X HX1 HP13 HS13 HL1
  go_wp2_with fail
  try rw [hh13]
  rw [HW14.out]
  clear HW14 hh13
  refine HCC.out.mono ?_
  rintro e w15 hb15
  obtain ⟨A2, c2, rfl, hs15, hp15⟩ := own_sl hb15
  rw [HPL.out] at hs15 ⊢
  have HPB := Lib.hid hs15
  have HP15 := Lib.hid (HP14.out.trans' hp15)
  have HS15 := Lib.hid (HS14.out.past hp15)
  clear hb15 hs15 hp15 HCC HP14 HS14
  go_upto_region 10 with (fail)
  obtain ⟨V, C, X, hX, hcat⟩ := sls_row w15 1 [(A2, 800, c2, pub)] rfl (by decide) 25 (by intro y hy; simp at hy; rcases hy with rfl; exact HPB.out) (by decide)
  obtain ⟨w16, hw16⟩ : ∃ w', w15.alloc (.cells #[.slice A2 800 c2] 25) = w' := ⟨_, rfl⟩
  have hp16 : Past w15 w16 := by rw [← hw16]; exact (Below.refl _ _).alloc (Nat.le_refl _) _
  obtain ⟨h15, hh15⟩ : ∃ h, w15.heap.size = h := ⟨_, rfl⟩
  have hX16 : Sls w16 (some ⟨h15, 0, none⟩) 1 1 V C X := by rw [← hw16, ← hh15]; exact hX
  have HSA := Lib.hid (hSHA256_any _ 1 1 V C X w16 hX16 (by decide) (by rw [hcat]; simp [HPL.out]))
  have HP16 := Lib.hid (HP15.out.trans' hp16)
  have HS16 := Lib.hid (HS15.out.past hp16)
  have HPB16 := Lib.hid (HPB.out.past hp16)
  have HW16 := Lib.hid hw16
  clear hX hX16 hcat hp16 hw16 HP15 HS15 HPB
  go_wp2_with fail
  try rw [hh15]
  rw [HW16.out]
  clear HW16 hh15
  refine HSA.out.mono ?_
  rintro e w17 ⟨rfl, hp17⟩
  obtain ⟨cs2, hcs2⟩ : ∃ cs, hsh (cat X 1) 136 6 32 = cs := ⟨_, rfl⟩
  obtain ⟨c32, hc32⟩ : ∃ cs, arr .u8 32 (fun _ => 0) = cs := ⟨_, rfl⟩
  have hzz := zero32
  rw [hc32] at hzz
  rw [hcs2]
  obtain ⟨p2, hpe2⟩ : ∃ p, w17.heap.size = p := ⟨_, rfl⟩
  obtain ⟨w18, hw18⟩ : ∃ w', w17.alloc (.cells cs2 61) = w' := ⟨_, rfl⟩
  have hp18 : Past w17 w18 := by rw [← hw18]; exact (Below.refl _ _).alloc (Nat.le_refl _) _
  have hr18 : Row w18 p2 61 (arr .u8 32 (rout (rstate (cat X 1) 136 6) 136)) := by rw [← hw18, ← hpe2, ← hcs2]; exact Row.new _ _ _
  have hsl18 := sl_arr hr18 (fun j => rout_rng _ _ _) (by decide)
  obtain ⟨sm, hsm⟩ : ∃ x, bl (rout (rstate (cat X 1) 136 6) 136) 32 = x := ⟨_, rfl⟩
  rw [hsm] at hsl18
  have HSUM := Lib.hid hsl18
  have HP18 := Lib.hid (HP16.out.trans' (hp17.trans' hp18))
  have HS18 := Lib.hid (HS16.out.past (hp17.trans' hp18))
  have HPB18 := Lib.hid (HPB16.out.past (hp17.trans' hp18))
  have hi1 : (Tryz.prog.info? 61).map (·.size) = some cs2.size := by rw [← hcs2]; unfold hsh; rw [arr_size]; kernel_rfl
  have hs1 : c32.size = cs2.size := by rw [← hcs2, ← hc32]; unfold hsh; rw [arr_size, arr_size]
  have ho1 : cs2.all (·.oneCell') = true := by rw [← hcs2]; exact arr_one .u8 32 _
  have hn1 := heap_alloc_new w17 (.cells c32 61)
  rw [hpe2] at hn1
  have HSR : Hid ((w17.alloc (.cells c32 61)).setRow p2 cs2 = w18) := Lib.hid (by rw [← hpe2, World.setRow_alloc_new]; exact hw18)
  clear hp17 hcs2 hc32 hw18 hp18 hr18 hsl18 hsm HSA HP16 HS16 HPB16
  go_upto_region 11 with (refine wpList_store_row rfl 61 _ _ rfl p2 _ rfl rfl _ _ hn1 hi1 hs1 ho1 ?_)
  rw [HSR.out]
  clear HSR hn1 hi1 hs1 ho1 hzz hpe2 V C X
  obtain ⟨wd, hwd⟩ : ∃ W, W = w18.drew := ⟨_, rfl⟩
  have HPD : Hid (Past w18 wd) := Lib.hid (by rw [hwd]; exact Past.drewN (Below.refl _ w18) 1)
  refine wp_region_held_drew (S := fun _ => True) (by kernel_rfl) trivial (fun hH => ?_)
  change wpAnyH _ _ _ _ _ _ _ _ (World.drew _)
  rw [← hwd]
  clear hwd
  refine held_take 0 57 (v := .slice (some ⟨gs, 0, none⟩) 2 cs) rfl rfl (by kernel_rfl) (by kernel_rfl) (by kernel_rfl) (fun _ _ _ h => h) (Or.inl ⟨by kernel_rfl, fun w _ => by kernel_rfl⟩) hH ?_
  (try dsimp only [Act.put])
  (try simp only [List.setIfInBounds_toArray, List.set_cons_zero, List.set_cons_succ])
  refine held_take 2 59 (v := .slice A2 800 c2) rfl rfl (by kernel_rfl) (by kernel_rfl) (by kernel_rfl) (fun _ _ _ h => h) (Or.inl ⟨by kernel_rfl, fun w _ => by kernel_rfl⟩) hH ?_
  (try dsimp only [Act.put])
  (try simp only [List.setIfInBounds_toArray, List.set_cons_zero, List.set_cons_succ])
  refine held_take 3 60 (v := .slice (some ⟨p2, 0, none⟩) 32 32) rfl rfl (by kernel_rfl) (by kernel_rfl) (by kernel_rfl) (fun _ _ _ h => h) (Or.inl ⟨by kernel_rfl, fun w _ => by go_simp⟩) hH ?_
  (try dsimp only [Act.put])
  (try simp only [List.setIfInBounds_toArray, List.set_cons_zero, List.set_cons_succ])
  refine held_take 4 61 (v := .slice (some ⟨b, 32, none⟩) 32 32) rfl rfl (by kernel_rfl) (by kernel_rfl) (by kernel_rfl) (fun _ _ _ h => h) (Or.inl ⟨by kernel_rfl, fun w _ => by kernel_rfl⟩) hH ?_
  (try dsimp only [Act.put])
  (try simp only [List.setIfInBounds_toArray, List.set_cons_zero, List.set_cons_succ])
  refine wpAnyH_ready (rs := [1]) (by kernel_rfl) (by simp) ?_
  refine AllReadyH.cons (by simp only [List.getElem?_toArray, List.getElem?_cons_succ, List.getElem?_cons_zero]; rfl) (fun K hK => ?_) AllReadyH.nil
  go_simp
  refine (encoded_any gs cs S wd (HS18.out.past HPD.out)).mono ?_
  rintro e w19 ⟨xs2, hl2, hb2⟩
  obtain ⟨A3, c3, rfl, hs3, hp19⟩ := own_sl hb2
  rw [hl2] at hs3 ⊢
  have HL2 := Lib.hid hl2
  have HX2 := Lib.hid hs3
  have HP19 := Lib.hid (HPD.out.trans' hp19)
  clear hl2 hb2 hs3 hp19
  refine hK.out _ _ trivial (fun hH => ?_)
  clear hK K
  refine wpAnyH_ready (rs := [5]) (by kernel_rfl) (by simp) ?_
  refine AllReadyH.cons (by simp only [List.getElem?_toArray, List.getElem?_cons_succ, List.getElem?_cons_zero]; rfl) (fun K hK => ?_) AllReadyH.nil
  go_simp
  obtain ⟨V, C, X, hX, hcat⟩ := sls_row w19 4 [(A3, 768, c3, xs2), (A2, 800, c2, pub), (some ⟨p2, 0, none⟩, 32, 32, sm), (some ⟨b, 32, none⟩, 32, 32, (List.drop 32 (List.replicate 64 0)).take 32)] rfl (by decide) 25 (by intro y hy; simp at hy; rcases hy with rfl | rfl | rfl | rfl; exact HX2.out; exact (HPB18.out.past HP19.out); exact (HSUM.out.past HP19.out); exact (HZZ.out.past ((HP7.out.trans' HP18.out).trans' HP19.out))) (by decide)
  obtain ⟨w20, hw20⟩ : ∃ w', w19.alloc (.cells #[.slice A3 768 c3, .slice A2 800 c2, .slice (some ⟨p2, 0, none⟩) 32 32, .slice (some ⟨b, 32, none⟩) 32 32] 25) = w' := ⟨_, rfl⟩
  have hp20 : Past w19 w20 := by rw [← hw20]; exact (Below.refl _ _).alloc (Nat.le_refl _) _
  obtain ⟨h19, hh19⟩ : ∃ h, w19.heap.size = h := ⟨_, rfl⟩
  have hX20 : Sls w20 (some ⟨h19, 0, none⟩) 4 4 V C X := by rw [← hw20, ← hh19]; exact hX
  obtain ⟨prv, hprv⟩ : ∃ x, cat X 4 = x := ⟨_, rfl⟩
  have hl3 := HSUM.out.len
  have hvlen : prv.length = 1632 := by rw [← hprv, hcat]; simp [HL2.out, HPL.out, hl3]
  have HCC := Lib.hid (concat_any _ 4 4 V C X w20 hX20 (by decide) (by rw [hprv, hvlen]; decide))
  rw [hprv] at HCC
  have HVL := Lib.hid hvlen
  have HP20 := Lib.hid (HP19.out.trans' hp20)
  try rw [hh19]
  rw [hw20]
  clear hX hX20 hcat hprv hvlen hp20 hw20 V C X hl3 hh19
  refine hK.out _ _ trivial (fun hH => ?_)
  clear hK K
  refine wpAnyH_ready (rs := [6]) (by kernel_rfl) (by simp) ?_
  refine AllReadyH.cons (by simp only [List.getElem?_toArray, List.getElem?_cons_succ, List.getElem?_cons_zero]; rfl) (fun K hK => ?_) AllReadyH.nil
  go_simp
  refine HCC.out.mono ?_
  rintro e w21 hb21
  obtain ⟨A4, c4, rfl, _, hp21⟩ := own_sl hb21
  rw [HVL.out]
  have HP21 := Lib.hid ((HP7.out.trans' HP18.out).trans' (HP20.out.trans' hp21))
  clear hb21 hp21 HCC
  refine hK.out _ _ trivial (fun hH => ?_)
  clear hK K
  refine held_take 7 5 (v := .slice A4 1632 c4) rfl rfl (by kernel_rfl) (by kernel_rfl) (by kernel_rfl) (fun _ _ _ h => h) (Or.inl ⟨by kernel_rfl, fun w _ => by kernel_rfl⟩) hH ?_
  (try dsimp only [Act.put])
  (try simp only [List.setIfInBounds_toArray, List.set_cons_zero, List.set_cons_succ])
  refine wpAnyH_done (by kernel_rfl) ?_ _
  go_simp
  clear hH
  go_wp2_with fail
  go_returns
  exact ⟨A2, c2, A4, c4, rfl, HP21.out⟩
end Go.Proofs.YtalhdalmafhofaaGreatDoor
