/- DcodeUnpacks: any bytes are the packing of the polynomial of the reference implementation, whose packing they are, or of none; for every input of the statement, with no condition beyond the card's. -/
import Derived.Test.YteflpbkdnebopaaGreatDoorOp18
import Derived.Test.YteflpbkdnebopaaGreatDoorAw18
namespace Go.Proofs.YteflpbkdnebopaaGreatDoor.dcodeUnpacks
open Go.RowKit Go.ChangeShapes Go.WideShapes Go.ChangeAt
set_option linter.unusedVariables false
set_option maxRecDepth 100000

theorem eg256 : Tryz.prog.eqGuardType Tryz.prog.depth 56 = false := by kernel_rfl
theorem eq256 (f g : Nat → Int) (h : ∀ i, i < 256 → f i = g i) (w : World) : (Op.equalIn 10000 56 (.agg (arr .u32 256 f)) (.agg (arr .u32 256 g))).run Tryz.prog w = .ok true w := by
  obtain ⟨i, hi, hz⟩ : ∃ i, Tryz.prog.info? 22 = some i ∧ i.size = 1 := by
    cases hq : Tryz.prog.info? 22 with
    | none =>
      have : (Tryz.prog.info? 22).isSome = true := by kernel_rfl
      rw [hq] at this
      cases this
    | some i =>
      have : (Tryz.prog.info? 22).map (·.size) = some 1 := by kernel_rfl
      rw [hq] at this
      exact ⟨i, rfl, by simpa using this⟩
  rw [run_eq_arr w Tryz.underlying56 Tryz.underlying22 hi hz, eqB_true h]
set_option maxHeartbeats 1000000 in
theorem walk (sd n top d : Int) (w : World) (hsd : (Lit.int .u32 sd).wf = true) (hn : (Lit.int .u16 n).wf = true) (ht : (Lit.int .u32 top).wf = true) (hd : (Lit.int .u8 d).wf = true) (hG : Glob15 w) :
    Calls Tryz.prog 5 #[.int .u32 sd, .int .u16 n, .int .u32 top, .int .u8 d] w fun e w' => e = .returned (.bool true) ∧ Past w w' := by
  have HAW := Lib.hid (fun w' (h : Past w w') => awake18 w' (hG.past h))
  have hsb := bounds_u32 hsd
  have htb' := bounds_u32 ht
  have hdb := bounds_u8 hd
  have hnb : 0 ≤ n ∧ n ≤ 65535 := by
    simp [Lit.wf] at hn
    first | exact hn | omega
  clear hG hsd hn ht hd
  by_cases htt : top ≤ 1048576
  · obtain ⟨k, hk⟩ : ∃ k : Nat, 1 + d % 20 = (k : Int) := ⟨(1 + d % 20).toNat, by omega⟩
    have hkb : 1 ≤ k ∧ k ≤ 20 := by omega
    have htb : 0 ≤ top ∧ top < 4294967296 := by omega
    have HWK : Hid (IntKind.i64.wrap d = d ∧ d.tmod 20 = d % 20 ∧ IntKind.i64.wrap (1 + d % 20) = (k : Int) ∧ wrap64 (k : Int) = (k : Int) ∧ 1 + d % 20 = (k : Int)) := Lib.hid ⟨by rw [IntKind.wrap_i64]; omega, Int.tmod_eq_emod_of_nonneg (by omega), by rw [hk, IntKind.wrap_i64]; omega, IntWalk.wrap64_in _ (by omega), hk⟩
    obtain ⟨m, hm⟩ : ∃ m : Nat, n % 700 = (m : Int) := ⟨(n % 700).toNat, by omega⟩
    have hmb : m < 700 := by omega
    have HWM : Hid (IntKind.i64.wrap n = n ∧ n.tmod 700 = (m : Int) ∧ n % 700 = (m : Int) ∧ wrap64 (m : Int) = (m : Int)) := Lib.hid ⟨by rw [IntKind.wrap_i64]; omega, by rw [Int.tmod_eq_emod_of_nonneg (by omega)]; exact hm, hm, IntWalk.wrap64_in _ (by omega)⟩
    have HSP1 := Lib.hid (fun w => rsp_any sd (m : Int) (m / 3) (m % 3) w (by omega) (by omega) (by omega) (by omega))
    have HX1 : Hid ((spB sd (m / 3) (m % 3)).length ≤ 700) := Lib.hid (by rw [spB_len]; omega)
    generalize spB sd (m / 3) (m % 3) = x1 at *
    obtain ⟨t, htk⟩ : ∃ t : Nat, 32 * k = t := ⟨_, rfl⟩
    have HWT2 : Hid (IntKind.i64.wrap (32 * (k : Int)) = (t : Int) ∧ wrap64 (t : Int) = (t : Int)) := Lib.hid ⟨by rw [IntKind.wrap_i64]; omega, IntWalk.wrap64_in _ (by omega)⟩
    have HSP2 := Lib.hid (fun w => rsp_any sd (t : Int) (t / 3) (t % 3) w (by omega) (by omega) (by omega) (by omega))
    have HX2 : Hid ((spB sd (t / 3) (t % 3)).length ≤ 700) := Lib.hid (by rw [spB_len]; omega)
    generalize spB sd (t / 3) (t % 3) = x2 at *
    have hn3 : n.tmod 3 = n % 3 := Int.tmod_eq_emod_of_nonneg (by omega)
    have htg : ¬ 1048576 < top := by omega
    have HN3 := Lib.hid hn3
    have HKB := Lib.hid hkb
    have HTB2 := Lib.hid htb
    have HNB2 := Lib.hid hnb
    clear hk hm hmb htk hsb htb' hdb
    go_enter Tryz.func5, Tryz.ntmps5
    go_wp2_with fail
    refine (HAW.out w (Below.refl _ _)).mono ?_
    rintro e1 w1 ⟨rfl, hp1⟩
    have HP1 := Lib.hid hp1
    obtain ⟨a1, a2, a3, a4, a5⟩ := HWK.out
    clear hp1 HAW hn3 hkb htb hnb
    go_upto_region 4 with (fail)
    (try rw [HWK.out.2.2.2.1])
    clear a1 a2 a3 a4 a5
    obtain ⟨b1, b2, b3, b4⟩ := HWM.out
    go_wp2_with fail
    refine (HSP1.out w1).mono ?_
    rintro e2 w2 ⟨v2, rfl, hown2, hrng2, hp2⟩
    clear b1 b2 b3 b4 HSP1
    have hn3 := HN3.out
    have hkb := HKB.out
    have htb := HTB2.out
    have hnb := HNB2.out
    obtain ⟨r3, hr3⟩ : ∃ r, n % 3 = r := ⟨_, rfl⟩
    rw [hr3] at hn3
    by_cases h3 : 0 < r3
    · have HP2 := Lib.hid (HP1.out.trans' hp2)
      obtain ⟨q1, q2⟩ := HWT2.out
      clear hown2 hrng2 hp2 hnb
      go_wp2_with fail
      refine (HSP2.out w2).mono ?_
      rintro e3 wb ⟨vb, rfl, hownb, hrngb, hpb⟩
      have HXL := HX2
      obtain ⟨xb, hxb⟩ : ∃ x, x2 = x := ⟨_, rfl⟩
      rw [hxb] at hownb hrngb HXL
      clear q1 q2 HSP2 hn3 h3 hr3 hxb
      obtain ⟨Ab, cb, rfl⟩ := own_slice hownb
      have HSB := Lib.hid (Sl.of_own hownb hrngb)
      have HPB := Lib.hid (HP2.out.trans' hpb)
      have HLB : Hid (xb.length ≤ 10000) := Lib.hid (by have := HXL.out; omega)
      have HRG := Lib.hid hrngb
      have HUN := Lib.hid (fun w' (h : Past wb w') => punpack18_any k hkb.1 (by omega) top htb.1 (by omega) _ _ cb xb w' (HSB.out.past h) HLB.out)
      have HRU := Lib.hid (fun w' (h : Past wb w') => runpack18_any k hkb.1 hkb.2 top htb.1 htt _ _ cb xb w' (HSB.out.past h) HLB.out)
      have HPK := Lib.hid (fun w => pack18_any (unpF k top xb) (R32.of_low fun j => unpF_rng k top xb j) top (k : Int) htb.1 (by omega) w)
      have HOKP : Hid (xb.length = 32 * k → rpack (k : Int) (blL top (unpF k top xb)) = some xb) := Lib.hid (fun hl => by
        have e : blL top (unpF k top xb) = nums k xb 256 := by
          rw [nums_is]
          unfold blL unpF
          rw [if_pos hl]
          exact List.map_congr_left fun i _ => plyD_back k hkb.2 top xb i
        rw [e]
        exact packs_numsW k hkb.1 (by omega) xb hl HRG.out)
      have HSA := Lib.hid (fun A2 c2 w' (h : Past wb w') (h2 : Sl w' A2 xb.length c2 xb) => rsame_self A2 Ab xb.length c2 cb xb w' h2 (HSB.out.past h))
      obtain ⟨O, hO⟩ : ∃ O, rpack (k : Int) (blL top (unpF k top xb)) = O := ⟨_, rfl⟩
      rw [hO] at HPK HOKP
      obtain ⟨ok, hok⟩ : ∃ ok, decide (xb.length = 32 * k) = ok := ⟨_, rfl⟩
      rw [hok] at HUN HRU
      have HOKB := Lib.hid hok
      have HEQ := Lib.hid (eq256 (unpF k top xb) (unpF k top xb) fun _ _ => rfl)
      have HEG := Lib.hid eg256
      have HIP := Lib.hid (infP (unpF k top xb))
      have HI2 := Lib.hid (inf256 (unpF k top xb))
      have HOO := Lib.hid (arr_one .u32 256 (unpF k top xb))
      have HSZ : Hid ((arr .u32 256 fun _ => (0 : Int)).size = (arr .u32 256 (unpF k top xb)).size) := Lib.hid (by rw [arr_size, arr_size])
      have HZP := Lib.hid zeroP
      have HZ2 := Lib.hid zero256
      generalize arr .u32 256 (unpF k top xb) = cU at *
      generalize arr .u32 256 (fun _ => (0 : Int)) = c0 at *
      have HWT : Hid (IntKind.i64.wrap top = top) := Lib.hid (by rw [IntKind.wrap_i64]; omega)
      clear hownb hrngb hpb hO hok hkb htb htt
      go_wp2_with fail
      refine (HUN.out wb (Below.refl _ _)).mono ?_
      rintro e4 w4 ⟨rfl, hp4⟩
      obtain ⟨u, hu⟩ : ∃ u, w4.heap.size = u := ⟨_, rfl⟩
      have hz := HZP.out
      have hrz : Row (w4.alloc (.cells c0 57)) u 57 c0 := by rw [← hu]; exact Row.new _ _ _
      obtain ⟨w5, hw5⟩ : ∃ W, (w4.alloc (.cells c0 57)).setRow u cU = W := ⟨_, rfl⟩
      have hp45 : Past w4 w5 := by rw [← hw5]; exact below_setRow ((Below.refl _ _).alloc (Nat.le_refl _) _) (by omega) _
      have HP5 := Lib.hid ((show Past wb w4 from hp4).trans' hp45)
      have HR5 : Hid (Row w5 u 57 cU) := Lib.hid (by rw [← hw5]; exact setRow_heap _ u _ _ _ _ hrz)
      have hi2 := HIP.out
      have ho2 := HOO.out
      have hs2 := HSZ.out
      have HWW := Lib.hid hw5
      have hwt := HWT.out
      clear hw5 hp45 hp4 HUN
      go_upto_region 8 with (first | (refine wpList_store_row rfl 57 _ _ rfl u _ rfl rfl _ _ hrz hi2 hs2 ho2 ?_) | fail)
      rw [HWW.out]
      try rw [hu]
      clear HWW hrz hu hz hs2 hi2
      go_wp2_with fail
      refine (HRU.out w5 HP5.out).mono ?_
      rintro e6 w6 ⟨rfl, hp6⟩
      obtain ⟨v, hv⟩ : ∃ u, w6.heap.size = u := ⟨_, rfl⟩
      have hz := HZ2.out
      have hrz : Row (w6.alloc (.cells c0 56)) v 56 c0 := by rw [← hv]; exact Row.new _ _ _
      obtain ⟨w7, hw7⟩ : ∃ W, (w6.alloc (.cells c0 56)).setRow v cU = W := ⟨_, rfl⟩
      have hp67 : Past w6 w7 := by rw [← hw7]; exact below_setRow ((Below.refl _ _).alloc (Nat.le_refl _) _) (by omega) _
      have HP7 := Lib.hid (HP5.out.trans' (hp6.trans' hp67))
      have HR7 := Lib.hid (HR5.out.past (hp6.trans' hp67))
      have HV7 : Hid (Row w7 v 56 cU) := Lib.hid (by rw [← hw7]; exact setRow_heap _ v _ _ _ _ hrz)
      have hi2 := HI2.out
      have hs2 := HSZ.out
      have HWW := Lib.hid hw7
      clear hw7 hp67 hp6 HRU hwt HR5
      go_upto_region 9 with (first | (refine wpList_store_row rfl 56 _ _ rfl v _ rfl rfl _ _ hrz hi2 hs2 ho2 ?_) | fail)
      rw [HWW.out]
      try rw [hv]
      clear HWW hrz hv hz hs2
      have hr7 := HR7.out
      have hv7 := HV7.out
      have hip := HIP.out
      have heq := HEQ.out
      have heg := HEG.out
      cases ok with
      | true =>
        have hO := HOKP.out (of_decide_eq_true HOKB.out)
        rw [hO] at HPK
        go_wp2_with (first | (refine wpList_load_row rfl 57 _ rfl u rfl _ _ (0, 0) _ hr7 Tryz.underlying57 rfl hip ?_) | (refine wpList_load_row rfl 56 _ rfl v rfl _ _ (0, 0) _ hv7 Tryz.underlying56 rfl hi2 ?_))
        refine (HPK.out w7).mono ?_
        rintro e8 w8 ⟨A8, n8, c8, rfl, hS8, hp8⟩
        have hn8 : xb.length = n8 := hS8.len
        subst hn8
        have HP8 := Lib.hid (HP7.out.trans' hp8)
        have HSC := Lib.hid (HSA.out A8 c8 w8 HP8.out hS8)
        clear hS8 hp8 heq heg hr7 hv7 hip hi2
        go_wp2_with fail
        refine HSC.out.mono ?_
        rintro e9 w9 ⟨rfl, m9, hw9⟩
        have HP9 : Hid (Past wb w9) := Lib.hid (by rw [hw9]; exact HP8.out.drewN m9)
        clear hw9
        go_wp2_with fail
        go_ret
        exact ⟨rfl, HPB.out.trans' HP9.out⟩
      | false =>
        go_wp2_with (first | (refine wpList_load_row rfl 57 _ rfl u rfl _ _ (0, 0) _ hr7 Tryz.underlying57 rfl hip ?_) | (refine wpList_load_row rfl 56 _ rfl v rfl _ _ (0, 0) _ hv7 Tryz.underlying56 rfl hi2 ?_))
        refine (HPK.out w7).mono ?_
        intro e8 w8 h8
        obtain ⟨A8, c8, rfl, h2, h3, h4⟩ := h8.any
        have HP8 := Lib.hid (HP7.out.trans' h3)
        clear h8 h2 h3 h4 heq heg hr7 hv7 hip hi2
        generalize O.getD [] = LO at *
        go_wp2_with fail
        go_ret
        exact ⟨rfl, HPB.out.trans' HP8.out⟩

    · have hownb := hown2
      have hrngb := hrng2
      have hpb := hp2
      have HXL := HX1
      obtain ⟨xb, hxb⟩ : ∃ x, x1 = x := ⟨_, rfl⟩
      rw [hxb] at hownb hrngb HXL hown2
      obtain ⟨wb, hwb⟩ : ∃ W, w2 = W := ⟨_, rfl⟩
      rw [hwb] at hownb hpb ⊢
      clear hown2 hrng2 hp2 hnb hxb hwb
      obtain ⟨Ab, cb, rfl⟩ := own_slice hownb
      have HSB := Lib.hid (Sl.of_own hownb hrngb)
      have HPB := Lib.hid (HP1.out.trans' hpb)
      have HLB : Hid (xb.length ≤ 10000) := Lib.hid (by have := HXL.out; omega)
      have HRG := Lib.hid hrngb
      have HUN := Lib.hid (fun w' (h : Past wb w') => punpack18_any k hkb.1 (by omega) top htb.1 (by omega) _ _ cb xb w' (HSB.out.past h) HLB.out)
      have HRU := Lib.hid (fun w' (h : Past wb w') => runpack18_any k hkb.1 hkb.2 top htb.1 htt _ _ cb xb w' (HSB.out.past h) HLB.out)
      have HPK := Lib.hid (fun w => pack18_any (unpF k top xb) (R32.of_low fun j => unpF_rng k top xb j) top (k : Int) htb.1 (by omega) w)
      have HOKP : Hid (xb.length = 32 * k → rpack (k : Int) (blL top (unpF k top xb)) = some xb) := Lib.hid (fun hl => by
        have e : blL top (unpF k top xb) = nums k xb 256 := by
          rw [nums_is]
          unfold blL unpF
          rw [if_pos hl]
          exact List.map_congr_left fun i _ => plyD_back k hkb.2 top xb i
        rw [e]
        exact packs_numsW k hkb.1 (by omega) xb hl HRG.out)
      have HSA := Lib.hid (fun A2 c2 w' (h : Past wb w') (h2 : Sl w' A2 xb.length c2 xb) => rsame_self A2 Ab xb.length c2 cb xb w' h2 (HSB.out.past h))
      obtain ⟨O, hO⟩ : ∃ O, rpack (k : Int) (blL top (unpF k top xb)) = O := ⟨_, rfl⟩
      rw [hO] at HPK HOKP
      obtain ⟨ok, hok⟩ : ∃ ok, decide (xb.length = 32 * k) = ok := ⟨_, rfl⟩
      rw [hok] at HUN HRU
      have HOKB := Lib.hid hok
      have HEQ := Lib.hid (eq256 (unpF k top xb) (unpF k top xb) fun _ _ => rfl)
      have HEG := Lib.hid eg256
      have HIP := Lib.hid (infP (unpF k top xb))
      have HI2 := Lib.hid (inf256 (unpF k top xb))
      have HOO := Lib.hid (arr_one .u32 256 (unpF k top xb))
      have HSZ : Hid ((arr .u32 256 fun _ => (0 : Int)).size = (arr .u32 256 (unpF k top xb)).size) := Lib.hid (by rw [arr_size, arr_size])
      have HZP := Lib.hid zeroP
      have HZ2 := Lib.hid zero256
      generalize arr .u32 256 (unpF k top xb) = cU at *
      generalize arr .u32 256 (fun _ => (0 : Int)) = c0 at *
      have HWT : Hid (IntKind.i64.wrap top = top) := Lib.hid (by rw [IntKind.wrap_i64]; omega)
      clear hownb hrngb hpb hO hok hkb htb htt
      go_wp2_with fail
      refine (HUN.out wb (Below.refl _ _)).mono ?_
      rintro e4 w4 ⟨rfl, hp4⟩
      obtain ⟨u, hu⟩ : ∃ u, w4.heap.size = u := ⟨_, rfl⟩
      have hz := HZP.out
      have hrz : Row (w4.alloc (.cells c0 57)) u 57 c0 := by rw [← hu]; exact Row.new _ _ _
      obtain ⟨w5, hw5⟩ : ∃ W, (w4.alloc (.cells c0 57)).setRow u cU = W := ⟨_, rfl⟩
      have hp45 : Past w4 w5 := by rw [← hw5]; exact below_setRow ((Below.refl _ _).alloc (Nat.le_refl _) _) (by omega) _
      have HP5 := Lib.hid ((show Past wb w4 from hp4).trans' hp45)
      have HR5 : Hid (Row w5 u 57 cU) := Lib.hid (by rw [← hw5]; exact setRow_heap _ u _ _ _ _ hrz)
      have hi2 := HIP.out
      have ho2 := HOO.out
      have hs2 := HSZ.out
      have HWW := Lib.hid hw5
      have hwt := HWT.out
      clear hw5 hp45 hp4 HUN
      go_upto_region 8 with (first | (refine wpList_store_row rfl 57 _ _ rfl u _ rfl rfl _ _ hrz hi2 hs2 ho2 ?_) | fail)
      rw [HWW.out]
      try rw [hu]
      clear HWW hrz hu hz hs2 hi2
      go_wp2_with fail
      refine (HRU.out w5 HP5.out).mono ?_
      rintro e6 w6 ⟨rfl, hp6⟩
      obtain ⟨v, hv⟩ : ∃ u, w6.heap.size = u := ⟨_, rfl⟩
      have hz := HZ2.out
      have hrz : Row (w6.alloc (.cells c0 56)) v 56 c0 := by rw [← hv]; exact Row.new _ _ _
      obtain ⟨w7, hw7⟩ : ∃ W, (w6.alloc (.cells c0 56)).setRow v cU = W := ⟨_, rfl⟩
      have hp67 : Past w6 w7 := by rw [← hw7]; exact below_setRow ((Below.refl _ _).alloc (Nat.le_refl _) _) (by omega) _
      have HP7 := Lib.hid (HP5.out.trans' (hp6.trans' hp67))
      have HR7 := Lib.hid (HR5.out.past (hp6.trans' hp67))
      have HV7 : Hid (Row w7 v 56 cU) := Lib.hid (by rw [← hw7]; exact setRow_heap _ v _ _ _ _ hrz)
      have hi2 := HI2.out
      have hs2 := HSZ.out
      have HWW := Lib.hid hw7
      clear hw7 hp67 hp6 HRU hwt HR5
      go_upto_region 9 with (first | (refine wpList_store_row rfl 56 _ _ rfl v _ rfl rfl _ _ hrz hi2 hs2 ho2 ?_) | fail)
      rw [HWW.out]
      try rw [hv]
      clear HWW hrz hv hz hs2
      have hr7 := HR7.out
      have hv7 := HV7.out
      have hip := HIP.out
      have heq := HEQ.out
      have heg := HEG.out
      cases ok with
      | true =>
        have hO := HOKP.out (of_decide_eq_true HOKB.out)
        rw [hO] at HPK
        go_wp2_with (first | (refine wpList_load_row rfl 57 _ rfl u rfl _ _ (0, 0) _ hr7 Tryz.underlying57 rfl hip ?_) | (refine wpList_load_row rfl 56 _ rfl v rfl _ _ (0, 0) _ hv7 Tryz.underlying56 rfl hi2 ?_))
        refine (HPK.out w7).mono ?_
        rintro e8 w8 ⟨A8, n8, c8, rfl, hS8, hp8⟩
        have hn8 : xb.length = n8 := hS8.len
        subst hn8
        have HP8 := Lib.hid (HP7.out.trans' hp8)
        have HSC := Lib.hid (HSA.out A8 c8 w8 HP8.out hS8)
        clear hS8 hp8 heq heg hr7 hv7 hip hi2
        go_wp2_with fail
        refine HSC.out.mono ?_
        rintro e9 w9 ⟨rfl, m9, hw9⟩
        have HP9 : Hid (Past wb w9) := Lib.hid (by rw [hw9]; exact HP8.out.drewN m9)
        clear hw9
        go_wp2_with fail
        go_ret
        exact ⟨rfl, HPB.out.trans' HP9.out⟩
      | false =>
        go_wp2_with (first | (refine wpList_load_row rfl 57 _ rfl u rfl _ _ (0, 0) _ hr7 Tryz.underlying57 rfl hip ?_) | (refine wpList_load_row rfl 56 _ rfl v rfl _ _ (0, 0) _ hv7 Tryz.underlying56 rfl hi2 ?_))
        refine (HPK.out w7).mono ?_
        intro e8 w8 h8
        obtain ⟨A8, c8, rfl, h2, h3, h4⟩ := h8.any
        have HP8 := Lib.hid (HP7.out.trans' h3)
        clear h8 h2 h3 h4 heq heg hr7 hv7 hip hi2
        generalize O.getD [] = LO at *
        go_wp2_with fail
        go_ret
        exact ⟨rfl, HPB.out.trans' HP8.out⟩

  · have htg : 1048576 < top := by omega
    clear hsb htb' hdb hnb htt
    go_enter Tryz.func5, Tryz.ntmps5
    go_wp2_with fail
    refine (HAW.out w (Below.refl _ _)).mono ?_
    rintro e w1 ⟨rfl, hp1⟩
    have HP1 := Lib.hid hp1
    clear hp1
    go_wp2_with fail
    refine (HAW.out w1 HP1.out).mono ?_
    rintro e w2 ⟨rfl, hp2⟩
    have HP2 := Lib.hid (HP1.out.trans' hp2)
    clear hp2
    go_wp2_with fail
    go_ret
    exact ⟨rfl, HP2.out⟩
def args0 : Array Value := #[.int .u32 0, .int .u16 0, .int .u32 0, .int .u8 0]
theorem laid_met (os : Os) : laidMetH Tryz.prog Rows.dcodeUnpacksRow.laid ((laidWorld os).forCall (fun _ _ => 0) ⟨#[], args0, []⟩).memory :=
  laid_world os args0
theorem witness_row (os : Os) {H : Type} (enc : TypeId × Value → H) :
    (OpenSpec.ofChange Rows.dcodeUnpacksSpec).preRow enc Tryz.prog Tryz.f5 Rows.dcodeUnpacksRow.domain false Rows.dcodeUnpacksRow.laid ((laidWorld os).forCall (fun _ _ => 0) ⟨#[], args0, []⟩).memory args0 := by
  have hw : (DataW.whole enc Tryz.prog ((laidWorld os).forCall (fun _ _ => 0) ⟨#[], args0, []⟩).memory Tryz.f5.params.toList (OpenSpec.ofChange Rows.dcodeUnpacksSpec).vars false args0.toList 8).map (fun x => (x.1, x.2.1)) =
      some ([.lit (.int .u32 0), .lit (.int .u16 0), .lit (.int .u32 0), .lit (.int .u8 0)], []) := by kernel_rfl
  obtain ⟨⟨x1, x2, x3⟩, hx, hx1⟩ := Option.map_eq_some_iff.1 hw
  simp only [Prod.mk.injEq] at hx1
  obtain ⟨rfl, rfl⟩ := hx1
  exact OpenSpec.preRow_of_cond 8 hx (by kernel_rfl) (fun k hk => by cases hk) (by kernel_rfl) (laid_met os)

set_option maxRecDepth 100000 in
set_option maxHeartbeats 2000000 in
theorem lifted (os : Os) (started : os.Started) (H : Type) (enc : TypeId × Value → H) (F : Stop.Interp) :
    ReturnsInHanded {} Tryz.checked os 5 .any ((OpenSpec.ofChange Rows.dcodeUnpacksSpec).preRow enc Tryz.prog Tryz.f5 Rows.dcodeUnpacksRow.domain false Rows.dcodeUnpacksRow.laid) (((OpenSpec.ofChange Rows.dcodeUnpacksSpec).at F).post enc Tryz.prog Tryz.f5 false true false false) := by
  refine returnsInHanded_of_row (C := Tryz.checked) (s := OpenSpec.ofChange Rows.dcodeUnpacksSpec) own started (by kernel_rfl) Tryz.func5
    (witness_row_atRef (enc := enc) (C := Tryz.checked) false (laidWorld os) args0 rfl (by kernel_rfl) (by kernel_rfl) (by kernel_rfl) (witness_row os enc)) ?_
  intro W base args ds gs before hval0 hW _ hcnd _ hL hsh _
  have hval : ∀ (j : Nat) t v, Tryz.f5.params[j]? = some t → args[j]? = some v → Value.okWide Tryz.prog W .any base t v := hval0
  have hW' := hW
  obtain ⟨p, q, hA0, hV, rfl, hfz, hnd⟩ := hW
  have hA : DataW.TrodAll enc Tryz.prog W 0 (fun _ => true) true Tryz.f5.params.toList args.toList ds p := hA0
  rw [Tryz.params5] at hA hval
  obtain ⟨v0, vs0, d0, ds0, p0, q0, hargs, rfl, rfl, h0, r0⟩ := trodAll_cons hA
  obtain ⟨v1, vs1, d1, ds1, p1, q1, rfl, rfl, rfl, h1, r1⟩ := trodAll_cons r0
  obtain ⟨v2, vs2, d2, ds2, p2, q2, rfl, rfl, rfl, h2, r2⟩ := trodAll_cons r1
  obtain ⟨v3, vs3, d3, ds3, p3, q3, rfl, rfl, rfl, h3, r3⟩ := trodAll_cons r2
  obtain ⟨rfl, rfl, rfl⟩ := trodAll_nil r3
  obtain rfl : args = #[v0, v1, v2, v3] := by cases args; simp_all
  obtain ⟨rfl, rfl⟩ := trodVars_none hV
  obtain ⟨a0, rfl, rfl, rfl, w0⟩ := open_int Tryz.underlying22 (hval 0 22 v0 rfl rfl) h0
  obtain ⟨a1, rfl, rfl, rfl, w1⟩ := open_int Tryz.underlying54 (hval 1 54 v1 rfl rfl) h1
  obtain ⟨a2, rfl, rfl, rfl, w2⟩ := open_int Tryz.underlying22 (hval 2 22 v2 rfl rfl) h2
  obtain ⟨a3, rfl, rfl, rfl, w3⟩ := open_int Tryz.underlying5 (hval 3 5 v3 rfl rfl) h3
  have hG := glob_of_row hL hsh
  clear hA0 hval0
  refine (walk a0 a1 a2 a3 W w0 w1 w2 w3 hG).mono fun e W' ⟨he, bel⟩ => ?_
  subst he
  exact ⟨_, rfl, _, _, _, [], _, [], hW', trodAll_mk1 (shut_bool Tryz.underlying4 _), (trodAll_cons_mk (shut_int Tryz.underlying22 w0) (trodAll_cons_mk (shut_int Tryz.underlying54 w1) (trodAll_cons_mk (shut_int Tryz.underlying22 w2) (trodAll_cons_mk (shut_int Tryz.underlying5 w3) trodAll_mk0)))), rfl, bel.frame _, fun h => by cases h⟩

theorem row_holds : Rows.DcodeUnpacksSaid :=
  OpenClaim.holds_of_cond 5 Tryz.f5 rfl rfl rfl rfl rfl rfl rfl ⟨rfl, rfl, rfl, rfl, rfl⟩ rfl rfl rfl rfl rfl (by kernel_rfl) Tryz.func5 (by kernel_rfl)
    (of_decide_eq_true (by kernel_rfl)) (by unfold Func.isWrapper; first | (rw [if_pos (by decide +kernel)]; kernel_rfl) | (rw [if_neg (by decide +kernel)]; exact ⟨rfl, rfl⟩))
    (fun os started H enc _ F0 => by rw [OpenClaim.pre_eq_preRow]; exact lifted os started H enc F0)

theorem card : Rows.DcodeUnpacksCardSaid :=
  Claim7.holds_tied_plain_at .later [] [.data, .data, .data, .data, .handle, .sentinel, .sentinel, .data, .data, .data, .data, .pinned] true Rows.dcodeUnpacksCard.stood.harness true
    row_holds (fun _ h => by cases h) (by kernel_rfl) (fun _ h => by cases h) dcodeUnpacks_row_tie rfl ⟨rfl, rfl⟩ (by kernel_rfl) rfl
    (fun f fn hf hfn => by
      obtain rfl : f = 5 := Option.some.inj ((show Tryz.prog.funcNamed "pyx/pyxlaw18.DcodeUnpacks" = some 5 by kernel_rfl).symm.trans hf) |>.symm
      obtain rfl : fn = Tryz.f5 := (Option.some.inj (Tryz.func5.symm.trans hfn)).symm
      exact ⟨by kernel_rfl, fun j t ht => by
        rw [Tryz.params5] at ht
        have h3 : t = 22 ∨ t = 54 ∨ t = 5 := by
          rcases j with _ | _ | _ | _ | j
          · exact .inl (by simpa using ht.symm)
          · exact .inr (.inl (by simpa using ht.symm))
          · exact .inl (by simpa using ht.symm)
          · exact .inr (.inr (by simpa using ht.symm))
          · simp at ht
        rcases h3 with rfl | rfl | rfl
        · exact (show Tryz.prog.wantsStandIn 22 = false by kernel_rfl)
        · exact (show Tryz.prog.wantsStandIn 54 = false by kernel_rfl)
        · exact (show Tryz.prog.wantsStandIn 5 = false by kernel_rfl)⟩)
    (by kernel_rfl)


end Go.Proofs.YteflpbkdnebopaaGreatDoor.dcodeUnpacks
