/- DcodeMatchesReference: every key, changed in any way, is accepted exactly if the reference implementation accepts it, or has its error; for every input of the statement, with no condition beyond the card's. -/
import Derived.Test.YteflpbkdnebopaaGreatDoorOp18
import Derived.Test.YteflpbkdnebopaaGreatDoorAw18
namespace Go.Proofs.YteflpbkdnebopaaGreatDoor.dcodeMatchesReference
open Go.RowKit Go.ChangeShapes Go.WideShapes Go.ChangeAt
set_option linter.unusedVariables false
set_option maxRecDepth 100000

theorem errOk_Q (a n : Int) : ErrOk (chkQ a n) := by
  unfold chkQ ErrOk
  split
  · exact .inr ⟨by decide, by decide, by decide⟩
  · split
    · exact .inr ⟨by decide, by decide, by decide⟩
    · exact .inl ⟨rfl, rfl⟩
theorem errOk_D (a : Int) (xs : List Int) (h : xs.length ≤ 10000) : ErrOk (chkD a xs) := by
  unfold chkD ErrOk
  by_cases h1 : a < 4 ∨ 6 < a
  · rw [if_pos h1]
    exact .inr ⟨by decide, by decide, by decide⟩
  · rw [if_neg h1]
    by_cases h2 : (xs.length : Int) ≠ (sD a : Int)
    · rw [if_pos h2]
      exact .inr ⟨by decide, by decide, by decide⟩
    · rw [if_neg h2]
      by_cases h3 : 0 ≤ fbD a xs
      · rw [if_pos h3]
        have hf : fbD a xs = -1 ∨ fbD a xs < ((kD a + lD a : Nat) : Int) := by
          rcases fstI_rng (bad4 a xs) (kD a + lD a) with h | h
          · exact .inr h.2
          · exact .inl h
        have hk := kD_le a
        have hl := lD_le a
        have hz : zD a ≤ 128 := by have := wD_le a; unfold zD; omega
        obtain ⟨f, hfn⟩ : ∃ f : Nat, fbD a xs = (f : Int) := ⟨(fbD a xs).toNat, by omega⟩
        rw [hfn] at hf ⊢
        have hm : zD a * f ≤ 128 * 15 := Nat.mul_le_mul hz (by omega)
        have e : (zD a : Int) * (f : Int) = ((zD a * f : Nat) : Int) := (Int.natCast_mul _ _).symm
        simp only [e]
        exact .inr ⟨by decide, by omega, by omega⟩
      · rw [if_neg h3]
        exact .inl ⟨rfl, rfl⟩
set_option maxHeartbeats 2000000 in
theorem walk (a d s : Int) (P : Option Addr) (m pc : Nat) (V : Nat → Int × Int × Int) (w : World) (ha : (Lit.int .i64 a).wf = true) (hd : (Lit.int .u8 d).wf = true) (hs : (Lit.int .u32 s).wf = true) (hC : Chs w P m V) (hml : m ≤ maxLen) (hG : Glob15 w) :
    Calls Tryz.prog 3 #[.int .i64 a, .int .u8 d, .int .u32 s, .slice P m pc] w fun e w' => e = .returned (.bool true) ∧ Past w w' := by
  have HAW := Lib.hid (fun w' (h : Past w w') => awake18 w' (hG.past h))
  have hdb := bounds_u8 hd
  have hsb := bounds_u32 hs
  have HG := Lib.hid hG
  have hm0 : (0 : Int) ≤ (m : Int) := by omega
  by_cases hm : m ≤ 20
  · have hmI : (m : Int) ≤ 20 := by omega
    obtain ⟨f, hf⟩ : ∃ f : Int, 4 + d % 3 = f := ⟨_, rfl⟩
    have hfb : f = 4 ∨ f = 5 ∨ f = 6 := by omega
    have HWW : Hid (d.tmod 3 = d % 3 ∧ IntKind.i64.wrap d = d ∧ IntKind.i64.wrap (4 + d % 3) = f ∧ wrap64 f = f ∧ 4 + d % 3 = f) := Lib.hid ⟨Int.tmod_eq_emod_of_nonneg (by omega), by rw [IntKind.wrap_i64]; omega, by rw [hf, IntKind.wrap_i64]; omega, IntWalk.wrap64_in _ (by omega), hf⟩
    have HWF : Hid (wrap64 f = f) := Lib.hid HWW.out.2.2.2.1
    have HKY := Lib.hid (fun w => rkey_any f s hfb (by omega) w)
    have HKL : Hid (0 < (keyB f s).length ∧ (keyB f s).length ≤ 10000) := Lib.hid (by
      rw [keyB_len]
      rcases hfb with rfl | rfl | rfl <;> decide)
    have HCH := Lib.hid (fun A n c xs w' (h : Past w w') (h1 : Sl w' A n c xs) h2 h3 => changed_any A n c xs P m pc V w' h1 h2 h3 (hC.past h) hm)
    generalize keyB f s = kb at *
    have HVR := Lib.hid (fun w => rvec_any a w)
    have HVC := Lib.hid (fun w => pvec_any a w)
    have hkd := kD_le a
    have HKZ : Hid (kD a = 0 ↔ (a < 4 ∨ 6 < a)) := Lib.hid kD_zero
    unfold VecP at HVR
    have HKD : Hid (kD a ≤ 8) := Lib.hid hkd
    generalize kD a = k at *
    generalize lD a = l at *
    generalize eD a = e0 at *
    have HSB := Lib.hid hsb
    clear ha hd hs hG hC hdb hsb hf hfb hml hm hkd
    obtain ⟨hw1, hw2, hw3, hw4, hw5⟩ := HWW.out
    go_enter Tryz.func3, Tryz.ntmps3
    go_wp2_with fail
    refine (HAW.out w (Below.refl _ _)).mono ?_
    rintro e1 w1 ⟨rfl, hp1⟩
    have HP1 := Lib.hid hp1
    clear hp1 HAW
    go_wp2_with fail
    (try rw [HWF.out])
    clear hw1 hw2 hw3 hw4 hw5
    refine (HKY.out w1).mono ?_
    rintro e2 w2 ⟨v2, rfl, hown, hrng, hp2⟩
    obtain ⟨A2, c2, rfl⟩ := own_slice hown
    have HP2 := Lib.hid (HP1.out.trans' hp2)
    have HH := Lib.hid (HCH.out A2 _ c2 kb w2 HP2.out (Sl.of_own hown hrng) HKL.out.1 HKL.out.2)
    clear hown hrng hp2 HKY HCH
    go_wp2_with fail
    refine HH.out.mono ?_
    rintro e3 w5 ⟨v3, rfl, hown, hrng, hp3⟩
    obtain ⟨A5, c5, rfl⟩ := own_slice hown
    have HP5 := Lib.hid (HP2.out.trans' hp3)
    have HS5 := Lib.hid (Sl.of_own hown hrng)
    have HL5 : Hid ((chg V kb m).length ≤ 10000) := Lib.hid (Nat.le_trans (chg_len V kb m) HKL.out.2)
    clear hown hrng hp3 HH
    obtain ⟨kx, hkx⟩ : ∃ kx, chg V kb m = kx := ⟨_, rfl⟩
    rw [hkx] at HS5 HL5 ⊢
    clear hkx
    obtain ⟨L, hL⟩ : ∃ L, kx.length = L := ⟨_, rfl⟩
    rw [hL] at HS5 HL5 ⊢
    have HKX := Lib.hid hL
    obtain ⟨n1, hn1⟩ : ∃ n1, L % 3000 = n1 := ⟨_, rfl⟩
    have hL0 : (0 : Int) ≤ (L : Int) := by omega
    have HN1 : Hid (n1 ≤ 10000) := Lib.hid (by omega)
    have hmd : (L : Int).tmod 3000 = (n1 : Int) := by rw [Int.tmod_eq_emod_of_nonneg hL0]; omega
    have hmd2 : (L : Int) % 3000 = (n1 : Int) := by omega
    have hwn : wrap64 (n1 : Int) = (n1 : Int) := IntWalk.wrap64_in _ (by omega)
    have HWN := Lib.hid hwn
    have hmk := fun w => make8 n1 (by omega) w
    clear hL hn1
    go_upto_region 5 with (fail)
    obtain ⟨w6, hw6⟩ : ∃ W, w5.alloc (.cells (arr .u8 n1 fun _ => 0) 5) = W := ⟨_, rfl⟩
    have HQ6 : Hid (Past w5 w6) := Lib.hid (by rw [← hw6]; exact (Below.refl _ _).alloc (Nat.le_refl _) _)
    obtain ⟨g6, hg6⟩ : ∃ g, w5.heap.size = g := ⟨_, rfl⟩
    rw [hw6]
    try rw [hg6]
    clear hw6 hg6 hmk hmd hmd2 hwn
    go_wp2_with fail
    refine (HVR.out w6).mono ?_
    rintro e7 w7 ⟨b, rfl, hrb, hp7⟩
    have HRB := Lib.hid hrb
    have HQ7 := Lib.hid (HQ6.out.trans' hp7)
    have k0 : w7.cell? ⟨b, 0, none⟩ = some (.int .i64 (k : Int)) := by rw [hrb.cell]; rfl
    clear hrb hp7 HVR
    have hsb := HSB.out
    obtain ⟨r2_, hr2⟩ : ∃ r, s % 2 = r := ⟨_, rfl⟩
    have hs2 : s.tmod 2 = r2_ := by rw [Int.tmod_eq_emod_of_nonneg (by omega)]; exact hr2
    by_cases hk0 : k = 0
    · have hdec : decide (4 ≤ a ∧ a ≤ 6) = false := decide_eq_false (by have := HKZ.out.1 hk0; omega)
      rw [hdec] at HVC
      have hkI : (k : Int) = 0 := by omega
      have hkn : ¬ 0 < (k : Int) := by omega
      have HN2 := HN1
      have HWK := HWN
      clear hdec hk0 hsb hr2 hkI HKZ
      go_upto_region 8 with (fail)
      clear k0 hs2
      have HCK := Lib.hid (fun w' (h : Past w5 w') => pcheckPrivate_any a A5 _ c5 kx w' (HS5.out.past h) HL5.out (HG.out.past (HP5.out.trans' h)).1)
      have HRK := Lib.hid (fun w' (h : Past w5 w') => rcheck18_any a A5 _ c5 kx w' (HS5.out.past h) HL5.out)
      have HTK := Lib.hid (fun w' (h : Past w5 w') => told_any _ w' (errOk_D a kx (by rw [HKX.out]; exact HL5.out)) (HG.out.past (HP5.out.trans' h)).2)
      have HCQ := Lib.hid (fun w' (h : Past w5 w') => pcheckPublic_any a (some ⟨g6, 0, none⟩) n1 n1 HN2.out w' (HG.out.past (HP5.out.trans' h)).1)
      have HRQ := Lib.hid (fun w' => rpublic18_any a (some ⟨g6, 0, none⟩) n1 n1 HN2.out w')
      have HTQ := Lib.hid (fun w' (h : Past w5 w') => told_any _ w' (errOk_Q a ((n1 : Nat) : Int)) (HG.out.past (HP5.out.trans' h)).2)
      generalize errV (chkD a kx) = e1 at *
      generalize errV (chkQ a ((n1 : Nat) : Int)) = e2 at *
      generalize resC (chkD a kx) = r1 at *
      generalize resC (chkQ a ((n1 : Nat) : Int)) = r2 at *
      have k0 : w7.cell? ⟨b, 0, none⟩ = some (.int .i64 (k : Int)) := by rw [HRB.out.cell]; rfl
      have k1 : w7.cell? ⟨b, 1, none⟩ = some (.int .i64 (l : Int)) := by rw [HRB.out.cell]; rfl
      have k2 : w7.cell? ⟨b, 2, none⟩ = some (.int .i64 (e0 : Int)) := by rw [HRB.out.cell]; rfl
      go_wp2_with fail
      refine (HVC.out _).mono ?_
      rintro e9 w9 ⟨rfl, hw9⟩
      rw [hw9]
      clear hw9
      go_wp2_with fail
      refine (HCK.out _ HQ7.out).mono ?_
      rintro e10 w10 ⟨rfl, hp10⟩
      have HQ10 := Lib.hid (HQ7.out.trans' hp10)
      clear hp10 k0 k1 k2
      go_wp2_with fail
      refine (HRK.out _ HQ10.out).mono ?_
      rintro e11 w11 ⟨rfl, hp11⟩
      have HQ11 := Lib.hid (HQ10.out.trans' hp11)
      clear hp11
      go_wp2_with fail
      refine (HTK.out _ HQ11.out).mono ?_
      rintro e12 w12 ⟨rfl, hp12⟩
      have HQ12 := Lib.hid (HQ11.out.trans' hp12)
      clear hp12
      go_wp2_with fail
      refine (HCQ.out _ HQ12.out).mono ?_
      rintro e13 w13 ⟨rfl, hp13⟩
      have HQ13 := Lib.hid (HQ12.out.trans' hp13)
      clear hp13
      go_wp2_with fail
      refine (HRQ.out _).mono ?_
      rintro e14 w14 ⟨rfl, hp14⟩
      have HQ14 := Lib.hid (HQ13.out.trans' hp14)
      clear hp14
      go_wp2_with fail
      refine (HTQ.out _ HQ14.out).mono ?_
      rintro e15 w15 ⟨rfl, hp15⟩
      have HQ15 := Lib.hid (HQ14.out.trans' hp15)
      clear hp15
      go_wp2_with fail
      go_ret
      exact ⟨rfl, HP5.out.trans' HQ15.out⟩

    · have hdec : decide (4 ≤ a ∧ a ≤ 6) = true := decide_eq_true (by have := mt HKZ.out.2 hk0; omega)
      rw [hdec] at HVC
      have hkp : 0 < (k : Int) := by omega
      by_cases hr0 : r2_ = 0
      · rw [hr0] at hs2 hr2
        obtain ⟨t, ht⟩ : ∃ t, 320 * k = t := ⟨_, rfl⟩
        obtain ⟨n2, hn2⟩ : ∃ n2, 32 + t = n2 := ⟨_, rfl⟩
        have hkd := HKD.out
        have HN2 : Hid (n2 ≤ 10000) := Lib.hid (by omega)
        have hq1 : IntKind.i64.wrap (320 * (k : Int)) = (t : Int) := by rw [IntKind.wrap_i64]; omega
        have hq2 : IntKind.i64.wrap (32 + (t : Int)) = (n2 : Int) := by rw [IntKind.wrap_i64]; omega
        have hq3 : wrap64 (t : Int) = (t : Int) := IntWalk.wrap64_in _ (by omega)
        have hq4 : wrap64 (n2 : Int) = (n2 : Int) := IntWalk.wrap64_in _ (by omega)
        have hmk := fun w => make8 n2 (by omega) w
        clear hdec hk0 hsb ht hn2 hkd HKZ
        go_upto_region 8 with (fail)
        obtain ⟨w8, hw8⟩ : ∃ W, w7.alloc (.cells (arr .u8 n2 fun _ => 0) 5) = W := ⟨_, rfl⟩
        have hp8 : Past w7 w8 := by rw [← hw8]; exact (Below.refl _ _).alloc (Nat.le_refl _) _
        have HQ8 : Hid (Past w5 w8) := Lib.hid (HQ7.out.trans' hp8)
        have HRB8 := Lib.hid (HRB.out.past hp8)
        obtain ⟨g8, hg8⟩ : ∃ g, w7.heap.size = g := ⟨_, rfl⟩
        rw [hw8]
        try rw [hg8]
        clear hw8 hg8 hmk hp8 k0 hs2 hq1 hq2 hq3 hq4 hr2 hr0 HRB
        have HRB := HRB8
        have HCK := Lib.hid (fun w' (h : Past w5 w') => pcheckPrivate_any a A5 _ c5 kx w' (HS5.out.past h) HL5.out (HG.out.past (HP5.out.trans' h)).1)
        have HRK := Lib.hid (fun w' (h : Past w5 w') => rcheck18_any a A5 _ c5 kx w' (HS5.out.past h) HL5.out)
        have HTK := Lib.hid (fun w' (h : Past w5 w') => told_any _ w' (errOk_D a kx (by rw [HKX.out]; exact HL5.out)) (HG.out.past (HP5.out.trans' h)).2)
        have HCQ := Lib.hid (fun w' (h : Past w5 w') => pcheckPublic_any a (some ⟨g8, 0, none⟩) n2 n2 HN2.out w' (HG.out.past (HP5.out.trans' h)).1)
        have HRQ := Lib.hid (fun w' => rpublic18_any a (some ⟨g8, 0, none⟩) n2 n2 HN2.out w')
        have HTQ := Lib.hid (fun w' (h : Past w5 w') => told_any _ w' (errOk_Q a ((n2 : Nat) : Int)) (HG.out.past (HP5.out.trans' h)).2)
        generalize errV (chkD a kx) = e1 at *
        generalize errV (chkQ a ((n2 : Nat) : Int)) = e2 at *
        generalize resC (chkD a kx) = r1 at *
        generalize resC (chkQ a ((n2 : Nat) : Int)) = r2 at *
        have k0 : w8.cell? ⟨b, 0, none⟩ = some (.int .i64 (k : Int)) := by rw [HRB.out.cell]; rfl
        have k1 : w8.cell? ⟨b, 1, none⟩ = some (.int .i64 (l : Int)) := by rw [HRB.out.cell]; rfl
        have k2 : w8.cell? ⟨b, 2, none⟩ = some (.int .i64 (e0 : Int)) := by rw [HRB.out.cell]; rfl
        go_wp2_with fail
        refine (HVC.out _).mono ?_
        rintro e9 w9 ⟨rfl, hw9⟩
        rw [hw9]
        clear hw9
        go_wp2_with fail
        refine (HCK.out _ HQ8.out).mono ?_
        rintro e10 w10 ⟨rfl, hp10⟩
        have HQ10 := Lib.hid (HQ8.out.trans' hp10)
        clear hp10 k0 k1 k2
        go_wp2_with fail
        refine (HRK.out _ HQ10.out).mono ?_
        rintro e11 w11 ⟨rfl, hp11⟩
        have HQ11 := Lib.hid (HQ10.out.trans' hp11)
        clear hp11
        go_wp2_with fail
        refine (HTK.out _ HQ11.out).mono ?_
        rintro e12 w12 ⟨rfl, hp12⟩
        have HQ12 := Lib.hid (HQ11.out.trans' hp12)
        clear hp12
        go_wp2_with fail
        refine (HCQ.out _ HQ12.out).mono ?_
        rintro e13 w13 ⟨rfl, hp13⟩
        have HQ13 := Lib.hid (HQ12.out.trans' hp13)
        clear hp13
        go_wp2_with fail
        refine (HRQ.out _).mono ?_
        rintro e14 w14 ⟨rfl, hp14⟩
        have HQ14 := Lib.hid (HQ13.out.trans' hp14)
        clear hp14
        go_wp2_with fail
        refine (HTQ.out _ HQ14.out).mono ?_
        rintro e15 w15 ⟨rfl, hp15⟩
        have HQ15 := Lib.hid (HQ14.out.trans' hp15)
        clear hp15
        go_wp2_with fail
        go_ret
        exact ⟨rfl, HP5.out.trans' HQ15.out⟩

      · have hrb2 : (r2_ == 0) = false := by simpa using hr0
        have HN2 := HN1
        clear hdec hk0 hsb hr2 HKZ
        go_upto_region 8 with (fail)
        clear k0 hs2 hrb2
        have HCK := Lib.hid (fun w' (h : Past w5 w') => pcheckPrivate_any a A5 _ c5 kx w' (HS5.out.past h) HL5.out (HG.out.past (HP5.out.trans' h)).1)
        have HRK := Lib.hid (fun w' (h : Past w5 w') => rcheck18_any a A5 _ c5 kx w' (HS5.out.past h) HL5.out)
        have HTK := Lib.hid (fun w' (h : Past w5 w') => told_any _ w' (errOk_D a kx (by rw [HKX.out]; exact HL5.out)) (HG.out.past (HP5.out.trans' h)).2)
        have HCQ := Lib.hid (fun w' (h : Past w5 w') => pcheckPublic_any a (some ⟨g6, 0, none⟩) n1 n1 HN2.out w' (HG.out.past (HP5.out.trans' h)).1)
        have HRQ := Lib.hid (fun w' => rpublic18_any a (some ⟨g6, 0, none⟩) n1 n1 HN2.out w')
        have HTQ := Lib.hid (fun w' (h : Past w5 w') => told_any _ w' (errOk_Q a ((n1 : Nat) : Int)) (HG.out.past (HP5.out.trans' h)).2)
        generalize errV (chkD a kx) = e1 at *
        generalize errV (chkQ a ((n1 : Nat) : Int)) = e2 at *
        generalize resC (chkD a kx) = r1 at *
        generalize resC (chkQ a ((n1 : Nat) : Int)) = r2 at *
        have k0 : w7.cell? ⟨b, 0, none⟩ = some (.int .i64 (k : Int)) := by rw [HRB.out.cell]; rfl
        have k1 : w7.cell? ⟨b, 1, none⟩ = some (.int .i64 (l : Int)) := by rw [HRB.out.cell]; rfl
        have k2 : w7.cell? ⟨b, 2, none⟩ = some (.int .i64 (e0 : Int)) := by rw [HRB.out.cell]; rfl
        go_wp2_with fail
        refine (HVC.out _).mono ?_
        rintro e9 w9 ⟨rfl, hw9⟩
        rw [hw9]
        clear hw9
        go_wp2_with fail
        refine (HCK.out _ HQ7.out).mono ?_
        rintro e10 w10 ⟨rfl, hp10⟩
        have HQ10 := Lib.hid (HQ7.out.trans' hp10)
        clear hp10 k0 k1 k2
        go_wp2_with fail
        refine (HRK.out _ HQ10.out).mono ?_
        rintro e11 w11 ⟨rfl, hp11⟩
        have HQ11 := Lib.hid (HQ10.out.trans' hp11)
        clear hp11
        go_wp2_with fail
        refine (HTK.out _ HQ11.out).mono ?_
        rintro e12 w12 ⟨rfl, hp12⟩
        have HQ12 := Lib.hid (HQ11.out.trans' hp12)
        clear hp12
        go_wp2_with fail
        refine (HCQ.out _ HQ12.out).mono ?_
        rintro e13 w13 ⟨rfl, hp13⟩
        have HQ13 := Lib.hid (HQ12.out.trans' hp13)
        clear hp13
        go_wp2_with fail
        refine (HRQ.out _).mono ?_
        rintro e14 w14 ⟨rfl, hp14⟩
        have HQ14 := Lib.hid (HQ13.out.trans' hp14)
        clear hp14
        go_wp2_with fail
        refine (HTQ.out _ HQ14.out).mono ?_
        rintro e15 w15 ⟨rfl, hp15⟩
        have HQ15 := Lib.hid (HQ14.out.trans' hp15)
        clear hp15
        go_wp2_with fail
        go_ret
        exact ⟨rfl, HP5.out.trans' HQ15.out⟩

  · have hmI : ¬ (m : Int) ≤ 20 := by omega
    have hmI2 : 20 < (m : Int) := by omega
    clear ha hd hs hG hC hdb hsb hml hm
    go_enter Tryz.func3, Tryz.ntmps3
    go_wp2_with fail
    refine (HAW.out w (Below.refl _ _)).mono ?_
    rintro e w1 ⟨rfl, hp1⟩
    have HP1 := Lib.hid hp1
    clear hp1
    go_wp2_with fail
    refine (HAW.out w1 HP1.out).mono ?_
    rintro e w2 ⟨rfl, hp2⟩
    have HP2 := Lib.hid (HP1.out.trans' hp2)
    clear hp2
    go_wp2_with fail
    go_ret
    exact ⟨rfl, HP2.out⟩
def args0 : Array Value := #[.int .i64 0, .int .u8 0, .int .u32 0, .slice none 0 0]
theorem laid_met (os : Os) : laidMetH Tryz.prog Rows.dcodeMatchesReferenceRow.laid ((laidWorld os).forCall (fun _ _ => 0) ⟨#[], args0, []⟩).memory :=
  laid_world os args0
theorem witness_row (os : Os) {H : Type} (enc : TypeId × Value → H) :
    (OpenSpec.ofChange Rows.dcodeMatchesReferenceSpec).preRow enc Tryz.prog Tryz.f3 Rows.dcodeMatchesReferenceRow.domain false Rows.dcodeMatchesReferenceRow.laid ((laidWorld os).forCall (fun _ _ => 0) ⟨#[], args0, []⟩).memory args0 := by
  have hw : (DataW.whole enc Tryz.prog ((laidWorld os).forCall (fun _ _ => 0) ⟨#[], args0, []⟩).memory Tryz.f3.params.toList (OpenSpec.ofChange Rows.dcodeMatchesReferenceSpec).vars false args0.toList 8).map (fun x => (x.1, x.2.1)) =
      some ([.lit (.int .i64 0), .lit (.int .u8 0), .lit (.int .u32 0), .nil], []) := by kernel_rfl
  obtain ⟨⟨x1, x2, x3⟩, hx, hx1⟩ := Option.map_eq_some_iff.1 hw
  simp only [Prod.mk.injEq] at hx1
  obtain ⟨rfl, rfl⟩ := hx1
  exact OpenSpec.preRow_of_cond 8 hx (by kernel_rfl) (fun k hk => by cases hk) (by kernel_rfl) (laid_met os)

set_option maxRecDepth 100000 in
set_option maxHeartbeats 2000000 in
theorem lifted (os : Os) (started : os.Started) (H : Type) (enc : TypeId × Value → H) (F : Stop.Interp) :
    ReturnsInHanded {} Tryz.checked os 3 .any ((OpenSpec.ofChange Rows.dcodeMatchesReferenceSpec).preRow enc Tryz.prog Tryz.f3 Rows.dcodeMatchesReferenceRow.domain false Rows.dcodeMatchesReferenceRow.laid) (((OpenSpec.ofChange Rows.dcodeMatchesReferenceSpec).at F).post enc Tryz.prog Tryz.f3 false true false false) := by
  refine returnsInHanded_of_row (C := Tryz.checked) (s := OpenSpec.ofChange Rows.dcodeMatchesReferenceSpec) own started (by kernel_rfl) Tryz.func3
    (witness_row_atRef (enc := enc) (C := Tryz.checked) false (laidWorld os) args0 rfl (by kernel_rfl) (by kernel_rfl) (by kernel_rfl) (witness_row os enc)) ?_
  intro W base args ds gs before hval0 hW _ hcnd _ hL hsh _
  have hval : ∀ (j : Nat) t v, Tryz.f3.params[j]? = some t → args[j]? = some v → Value.okWide Tryz.prog W .any base t v := hval0
  have hW' := hW
  obtain ⟨p, q, hA0, hV, rfl, hfz, hnd⟩ := hW
  have hA : DataW.TrodAll enc Tryz.prog W 0 (fun _ => true) true Tryz.f3.params.toList args.toList ds p := hA0
  rw [Tryz.params3] at hA hval
  obtain ⟨v0, vs0, d0, ds0, p0, q0, hargs, rfl, rfl, h0, r0⟩ := trodAll_cons hA
  obtain ⟨v1, vs1, d1, ds1, p1, q1, rfl, rfl, rfl, h1, r1⟩ := trodAll_cons r0
  obtain ⟨v2, vs2, d2, ds2, p2, q2, rfl, rfl, rfl, h2, r2⟩ := trodAll_cons r1
  obtain ⟨v3, vs3, d3, ds3, p3, q3, rfl, rfl, rfl, h3, r3⟩ := trodAll_cons r2
  obtain ⟨rfl, rfl, rfl⟩ := trodAll_nil r3
  obtain rfl : args = #[v0, v1, v2, v3] := by cases args; simp_all
  obtain ⟨rfl, rfl⟩ := trodVars_none hV
  obtain ⟨a0, rfl, rfl, rfl, w0⟩ := open_int Tryz.underlying3 (hval 0 3 v0 rfl rfl) h0
  obtain ⟨a1, rfl, rfl, rfl, w1⟩ := open_int Tryz.underlying5 (hval 1 5 v1 rfl rfl) h1
  obtain ⟨a2, rfl, rfl, rfl, w2⟩ := open_int Tryz.underlying22 (hval 2 22 v2 rfl rfl) h2
  have k3 := h3
  have lt3 : ∀ x ∈ p3, x.block < W.heap.size := by obtain ⟨m, hm⟩ := k3; exact DataW.trod_lt m _ _ _ hm
  obtain ⟨fuel3, hf3⟩ := h3
  obtain ⟨a30, len30, cap30, e3⟩ := okWide_slice Tryz.underlying23 (hval 3 23 v3 rfl rfl)
  rw [e3] at hf3
  obtain ⟨a3, len3, cap3, l3, f3, bl3, w3⟩ := chs_of (by simpa [Value.cells] using hf3)
  obtain rfl : v3 = .slice a3 len3 cap3 := e3.trans f3
  have hG := glob_of_row hL hsh
  clear hA0 hval0
  refine (walk a0 a1 a2 a3 len3 cap3 l3 W w0 w1 w2 w3 bl3 hG).mono fun e W' ⟨he, bel⟩ => ?_
  subst he
  exact ⟨_, rfl, _, _, _, [], _, [], hW', trodAll_mk1 (shut_bool Tryz.underlying4 _), (trodAll_cons_mk (shut_int Tryz.underlying3 w0) (trodAll_cons_mk (shut_int Tryz.underlying5 w1) (trodAll_cons_mk (shut_int Tryz.underlying22 w2) (trodAll_cons_mk (Below.trod laidOut (by kernel_rfl) (of_decide_eq_true (by kernel_rfl)) k3 bel lt3) trodAll_mk0)))), rfl, bel.frame _, fun h => by cases h⟩

theorem row_holds : Rows.DcodeMatchesReferenceSaid :=
  OpenClaim.holds_of_cond 3 Tryz.f3 rfl rfl rfl rfl rfl rfl rfl ⟨rfl, rfl, rfl, rfl, rfl⟩ rfl rfl rfl rfl rfl (by kernel_rfl) Tryz.func3 (by kernel_rfl)
    (of_decide_eq_true (by kernel_rfl)) (by unfold Func.isWrapper; first | (rw [if_pos (by decide +kernel)]; kernel_rfl) | (rw [if_neg (by decide +kernel)]; exact ⟨rfl, rfl⟩))
    (fun os started H enc _ F0 => by rw [OpenClaim.pre_eq_preRow]; exact lifted os started H enc F0)

theorem card : Rows.DcodeMatchesReferenceCardSaid :=
  Claim7.holds_tied_plain_at .later [] [.data, .data, .data, .data, .handle, .sentinel, .sentinel, .data, .data, .data, .data, .pinned] true Rows.dcodeMatchesReferenceCard.stood.harness true
    row_holds (fun _ h => by cases h) (by kernel_rfl) (fun _ h => by cases h) dcodeMatchesReference_row_tie rfl ⟨rfl, rfl⟩ (by kernel_rfl) rfl
    (fun f fn hf hfn => by
      obtain rfl : f = 3 := Option.some.inj ((show Tryz.prog.funcNamed "pyx/pyxlaw18.DcodeMatchesReference" = some 3 by kernel_rfl).symm.trans hf) |>.symm
      obtain rfl : fn = Tryz.f3 := (Option.some.inj (Tryz.func3.symm.trans hfn)).symm
      exact ⟨by kernel_rfl, fun j t ht => by
        rw [Tryz.params3] at ht
        have h3 : t = 3 ∨ t = 5 ∨ t = 22 ∨ t = 23 := by
          rcases j with _ | _ | _ | _ | j
          · exact .inl (by simpa using ht.symm)
          · exact .inr (.inl (by simpa using ht.symm))
          · exact .inr (.inr (.inl (by simpa using ht.symm)))
          · exact .inr (.inr (.inr (by simpa using ht.symm)))
          · simp at ht
        rcases h3 with rfl | rfl | rfl | rfl
        · exact (show Tryz.prog.wantsStandIn 3 = false by kernel_rfl)
        · exact (show Tryz.prog.wantsStandIn 5 = false by kernel_rfl)
        · exact (show Tryz.prog.wantsStandIn 22 = false by kernel_rfl)
        · exact (show Tryz.prog.wantsStandIn 23 = false by kernel_rfl)⟩)
    (by kernel_rfl)


end Go.Proofs.YteflpbkdnebopaaGreatDoor.dcodeMatchesReference
