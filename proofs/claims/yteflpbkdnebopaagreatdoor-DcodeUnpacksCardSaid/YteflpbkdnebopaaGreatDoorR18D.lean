/- The reference's Key. -/
import Derived.Test.YteflpbkdnebopaaGreatDoorR18C
namespace Go.Proofs.YteflpbkdnebopaaGreatDoor
open Go.RowKit
set_option linter.unusedVariables false
set_option maxRecDepth 100000

set_option maxHeartbeats 4000000 in
theorem rkey_any (a s : Int) (ha : a = 4 ∨ a = 5 ∨ a = 6) (hs : 0 ≤ s ∧ s < 4294967296) (w : World) :
    Calls Tryz.prog 8 #[.int .i64 a, .int .u32 s] w (OwnB (keyB a s) w) := by
  obtain ⟨i32, hi3, hz30, hz31, hz32⟩ := info_parts info32
  obtain ⟨i8, hi8, hz80, hz81, hz82⟩ := info_parts info8
  have HV := Lib.hid (rvec_any a w)
  have HWI := Lib.hid (fun w => rwidth_any (eD a) (eD_in a) w)
  rw [wD_of a] at HWI
  have hkd := kD_le a
  have hld := lD_le a
  have hwd := wD_le a
  have he2 := eD_two ha
  unfold VecP at HV
  have HKB : Hid (keyB a s = hdK (wD a) (2 * (eD a : Int) + 1) s (kD a + lD a) ++ spB (w32 (s + 1)) (416 * kD a / 3) (416 * kD a % 3)) := Lib.hid rfl
  have hzD : 2 * (eD a : Int) + 1 ≤ 2 ^ wD a := by
    rcases ha with rfl | rfl | rfl <;> decide
  have HKR := Lib.hid (keyB_rng a s)
  obtain ⟨B, hB⟩ : ∃ B, keyB a s = B := ⟨_, rfl⟩
  rw [hB] at HKB HKR
  rw [hB]
  obtain ⟨k, hk⟩ : ∃ k, kD a = k := ⟨_, rfl⟩
  obtain ⟨l, hl⟩ : ∃ l, lD a = l := ⟨_, rfl⟩
  obtain ⟨D, hD⟩ : ∃ D, wD a = D := ⟨_, rfl⟩
  obtain ⟨e0, he0⟩ : ∃ e0 : Nat, eD a = e0 := ⟨_, rfl⟩
  rw [hk, hl, he0] at HV
  rw [hD] at HWI HKB hwd hzD
  rw [hk, hl, he0] at HKB
  rw [hk] at hkd
  rw [hl] at hld
  rw [he0] at he2 HWI hzD
  obtain ⟨z, hz⟩ : ∃ z : Int, 2 * (e0 : Int) + 1 = z := ⟨_, rfl⟩
  rw [hz] at HKB hzD
  have hzb : 0 < z ∧ z ≤ 9 := by omega
  have HSP1 := Lib.hid (fun w => rspread18_any s 42 0 w hs (by decide) (by decide))
  have HSP2 := Lib.hid (fun w => rspread18_any (w32 (s + 1)) (416 * k / 3) (416 * k % 3) w (w32_rng _) (by omega) (by omega))
  have hn2 : 3 * (416 * k / 3) + 416 * k % 3 = 416 * k := by omega
  rw [hn2] at HSP2
  obtain ⟨K, hK⟩ : ∃ K, k + l = K := ⟨_, rfl⟩
  rw [hK] at HKB
  obtain ⟨t, ht⟩ : ∃ t, 416 * k = t := ⟨_, rfl⟩
  have HPK := Lib.hid (fun i A c w (h : SlK .u32 w A 256 c (nsK z s i 256)) => rpack_own (D : Int) A 256 c (nsK z s i 256) w h (fun m => by have := nsK_rng hzb.1 hzb.2 s i 256 m; omega) (by decide))
  have HPS : Hid (∀ i, rpack (D : Int) (nsK z s i 256) = some (pkK D z s i)) := Lib.hid (fun i => packK (by omega) (by omega) hzb.1 hzb.2 hzD s i)
  have HW1 : Hid (IntKind.i64.wrap ((k : Int) + (l : Int)) = (K : Int) ∧ wrap64 (K : Int) = (K : Int)) := Lib.hid ⟨by rw [IntKind.wrap_i64]; omega, IntWalk.wrap64_in _ (by omega)⟩
  have HW2 : Hid (IntKind.i64.wrap (416 * (k : Int)) = (t : Int) ∧ wrap64 (t : Int) = (t : Int) ∧ IntKind.u32.wrap (s + 1) = w32 (s + 1)) := Lib.hid ⟨by rw [IntKind.wrap_i64]; omega, IntWalk.wrap64_in _ (by omega), w32_wrap _⟩
  have HW3 : Hid (IntKind.i64.wrap (2 * (e0 : Int)) = 2 * (e0 : Int) ∧ IntKind.i64.wrap (2 * (e0 : Int) + 1) = z ∧ IntKind.u32.wrap z = z ∧ wrap64 z = z ∧ ¬ z = 0) := Lib.hid ⟨by rw [IntKind.wrap_i64]; omega, by rw [IntKind.wrap_i64]; omega, by rw [IntKind.wrap_u32]; omega, IntWalk.wrap64_in _ (by omega), by omega⟩
  rw [ht] at HSP2 HKB
  have HT : Hid (t ≤ 3400) := Lib.hid (by omega)
  have HNB : Hid (K ≤ 15 ∧ D ≤ 4 ∧ 1 ≤ D ∧ 0 < z ∧ z ≤ 9) := Lib.hid ⟨by omega, by omega, by omega, hzb.1, hzb.2⟩
  have HS := Lib.hid hs
  have hws : IntKind.u64.wrap s = s := by rw [IntKind.wrap_u64]; omega
  have HWS := Lib.hid hws
  clear ha hs hkd hld hwd he2 hzD hB hk hl hD he0 hz hzb hn2 hK ht
  change Hid (∀ w, Calls _ _ #[.int .u32 s, .int .i64 126] w _) at HSP1
  go_enter Tryz.func8, Tryz.ntmps8
  go_wp2_with fail
  refine HV.out.mono ?_
  rintro e w1 ⟨b, rfl, hrb, hp1⟩
  have HRB := Lib.hid hrb
  have HP1 := Lib.hid hp1
  clear hrb hp1 HV hws
  go_wp2_with fail
  refine (HSP1.out w1).mono ?_
  rintro e w2 ⟨v2, rfl, hown2, _, hp2⟩
  rw [spB_len] at hown2
  have HO2 : Hid (w2.ownsRow w1.heap.size 5 1 v2 126 ((spB s 42 0).map (Value.int .u8)) ∧ Past w1 w2) := Lib.hid ⟨hown2, hp2⟩
  obtain ⟨A2, c2, rfl⟩ := own_slice hown2
  clear hown2 hp2 HSP1
  go_wp2_with (at_builtin; refine wpList_append_own _ rfl _ _ 25 rfl w1.heap.size 5 i8 (.int .u8 0) 1 1 Tryz.underlying25 hi8 hz80 hz81 hz82 rfl (by decide) _ 126 _ rfl (own_past15 HO2.out.1 (show Past w2 (w2.alloc _) from (Below.refl _ _).alloc (Nat.le_refl _) _)) ⟨w2.heap.size, 0, none⟩ 2 2 [.int .u8 1, .int .u8 2] rfl rfl ?d1 ?d2 ?d3 ?d4 ?d5 ?_)
  case d1 =>
    have h := Row.new w2 5 #[.int .u8 1, .int .u8 2]
    intro j v hj
    rw [add_none, Nat.zero_add, h.cell]
    simpa using hj
  case d2 => simp [Value.oneCell']
  case d3 => unfold maxLen; omega
  case d4 => decide
  case d5 => exact Nat.le_trans HO2.out.2.size (by simp)
  intro v3 w3 hown3 hgrow3 _
  have HQ0 : Hid (w3.ownsRow w1.heap.size 5 1 v3 (128 + 0 * (32 * D)) ((hdK D z s 0).map (Value.int .u8)) ∧ Past w1 w3) := Lib.hid (by
    have e : hdK D z s 0 = spB s 42 0 ++ [1, 2] := by unfold hdK; rw [bdK, List.append_nil]
    rw [e, List.map_append, Nat.zero_mul]
    have h1 : Past w2 (w2.alloc (.cells #[.int .u8 1, .int .u8 2] 5)) := (Below.refl _ _).alloc (Nat.le_refl _) _
    exact ⟨hown3, (HO2.out.2.trans' h1).grown hgrow3 (Nat.le_trans HO2.out.2.size h1.size) (own_block_ge HO2.out.1)⟩)
  clear hown3 hgrow3 HO2
  have hws := HWS.out
  go_wp2_with fail
  clear hws
  go_loopg [6, 7, 8] K (fun q s6 s7 s8 wx => ∃ (i : Nat) (x : Int), i ≤ K ∧ q = K - i ∧ s7 = .int .u64 x ∧ s8 = .int .i64 (i : Int) ∧ 0 ≤ x ∧ x < 18446744073709551616 ∧ Hid (x = sx15 s (256 * i)) ∧ Hid (wx.ownsRow w1.heap.size 5 1 s6 (128 + i * (32 * D)) ((hdK D z s i).map (Value.int .u8)) ∧ Past w1 wx))
  case atStart => exact ⟨0, s, Nat.zero_le _, rfl, rfl, rfl, HS.out.1, by have := HS.out.2; omega, Lib.hid rfl, HQ0⟩
  case round =>
    clear HQ0
    obtain ⟨i, x, hi, hq, rfl, rfl, x0, x1, HX, HQ⟩ := hrel
    have HGQ := Lib.hid hq
    clear hq
    have hi0 : (0 : Int) ≤ (i : Int) := by omega
    have hrb := HRB.out.past HQ.out.2
    have k0 : wr.cell? ⟨b, 0, none⟩ = some (.int .i64 (k : Int)) := by rw [hrb.cell]; rfl
    have k1 : wr.cell? ⟨b, 1, none⟩ = some (.int .i64 (l : Int)) := by rw [hrb.cell]; rfl
    clear hrb
    obtain ⟨q1, q2⟩ := HW1.out
    obtain ⟨A6, c6, rfl⟩ := own_slice HQ.out.1
    obtain ⟨L, hL⟩ : ∃ L, 128 + i * (32 * D) = L := ⟨_, rfl⟩
    have HLL := Lib.hid hL
    rw [hL] at HQ ⊢
    have HXB : Hid (0 ≤ x ∧ x < 18446744073709551616) := Lib.hid ⟨x0, x1⟩
    clear hL
    by_cases hlt : i < K
    · have hii : (i : Int) < (K : Int) := by omega
      have HLT := Lib.hid hlt
      clear hlt hi
      go_upto_region 6 with (fail)
      go_quiet (fail)
      obtain ⟨wd, hwd⟩ : ∃ W, wr.drewN nq = W := ⟨_, rfl⟩
      have hpd : Past wr wd := by rw [← hwd]; exact Past.drewN (Below.refl _ wr) nq
      have HQd : Hid (wd.ownsRow w1.heap.size 5 1 (.slice A6 L c6) L ((hdK D z s i).map (Value.int .u8)) ∧ Past w1 wd) := Lib.hid ⟨own_past15 HQ.out.1 hpd, HQ.out.2.trans' hpd⟩
      rw [hwd]
      clear hwd hpd HQ k0 k1 q1 q2
      go_wp2_with fail
      go_loopg [7, 9, 10] 256 (fun q s7 s9 s10 wx => ∃ (m : Nat) (y : Int), m ≤ 256 ∧ q = 256 - m ∧ s7 = .int .u64 y ∧ s10 = .int .i64 (m : Int) ∧ 0 ≤ y ∧ y < 18446744073709551616 ∧ Hid (y = sx15 s (256 * i + m)) ∧ Hid (wx.ownsRow w1.heap.size 22 1 s9 m ((nsK z s i m).map (Value.int .u32)) ∧ wx.ownsRow w1.heap.size 5 1 (.slice A6 L c6) L ((hdK D z s i).map (Value.int .u8)) ∧ Past w1 wx))
      case atStart => exact ⟨0, x, Nat.zero_le _, rfl, rfl, rfl, HXB.out.1, HXB.out.2, HX, Lib.hid ⟨⟨rfl, .inl ⟨rfl, rfl⟩⟩, HQd.out.1, HQd.out.2⟩⟩
      case round =>
        rename_i wo
        clear HQd HX
        obtain ⟨m, y, hm, hq2, rfl, rfl, y0, y1, HY, HQ2⟩ := hrel
        have HGQ2 := Lib.hid hq2
        clear hq2
        have hm0 : (0 : Int) ≤ (m : Int) := by omega
        have hrb := HRB.out.past HQ2.out.2.2
        have k2 : wr.cell? ⟨b, 2, none⟩ = some (.int .i64 (e0 : Int)) := by rw [hrb.cell]; rfl
        clear hrb
        by_cases hmt : m < 256
        · have hmm : (m : Int) < 256 := by omega
          have HMT := Lib.hid hmt
          obtain ⟨p, hp⟩ : ∃ p, y * 6364136223846793005 % 18446744073709551616 = p := ⟨_, rfl⟩
          obtain ⟨x2, hx2⟩ : ∃ x2, (p + 1442695040888963407) % 18446744073709551616 = x2 := ⟨_, rfl⟩
          have HX2 : Hid (x2 = sx15 s (256 * i + (m + 1))) := Lib.hid (by rw [← hx2, ← hp, HY.out]; rfl)
          have z0 : 0 ≤ x2 := by omega
          have z1 : x2 < 18446744073709551616 := by omega
          have HX2B : Hid (0 ≤ x2 ∧ x2 < 18446744073709551616) := Lib.hid ⟨z0, z1⟩
          have p0 : 0 ≤ p := by omega
          obtain ⟨v, hv⟩ : ∃ v, x2 / 8589934592 % 4294967296 = v := ⟨_, rfl⟩
          have v0 : 0 ≤ v := by omega
          have v1 : v < 4294967296 := by omega
          obtain ⟨r, hr⟩ : ∃ r, v % z = r := ⟨_, rfl⟩
          have hzz := HNB.out.2.2.2
          have hr0 : 0 ≤ r := by rw [← hr]; exact Int.emod_nonneg _ (by omega)
          have hr1 : r < z := by rw [← hr]; exact Int.emod_lt_of_pos _ hzz.1
          have hwp : IntKind.u64.wrap (y * 6364136223846793005) = p := by rw [IntKind.wrap_u64]; exact hp
          have hwy : IntKind.u64.wrap (p + 1442695040888963407) = x2 := by rw [IntKind.wrap_u64]; exact hx2
          have hwv : IntKind.u32.wrap (x2 / 8589934592) = v := by rw [IntKind.wrap_u32]; exact hv
          have hmd : v.tmod z = r := by rw [Int.tmod_eq_emod_of_nonneg v0]; exact hr
          have hwr : IntKind.u32.wrap r = r := by rw [IntKind.wrap_u32]; omega
          have HSU : Hid (nsK z s i (m + 1) = nsK z s i m ++ [r]) := Lib.hid (by
            rw [nsK_succ, Nat.add_assoc, ← HX2.out]
            unfold nuK
            rw [hv, hr])
          have hb1 : m + 1 ≤ maxLen := by unfold maxLen; omega
          have hb2 : (m + 1) * 4 ≤ 140737488355328 := by omega
          clear hmt hm hp hx2 hv HY hzz hr0 hr1 y0 y1
          obtain ⟨g1, g2, g3, g4, g5⟩ := HW3.out
          go_wp2_with (at_builtin; refine wpList_append_own _ rfl _ _ 67 rfl w1.heap.size 22 i32 (.int .u32 0) 1 4 Tryz.underlying67 hi3 hz30 hz31 hz32 rfl (by decide) _ m _ rfl (HQ2.out.1.alloc _) ⟨wr.heap.size, 0, none⟩ 1 1 [.int .u32 r] rfl rfl ?f1 ?f2 ?f3 ?f4 ?f5 ?_)
          case f1 => exact one_cell wr _ _
          case f2 => simp [Value.oneCell']
          case f3 => exact hb1
          case f4 => exact hb2
          case f5 => exact Nat.le_trans HQ2.out.2.2.size (by simp)
          intro v' w4 hown4 hgrow4 _
          clear g1 g2 g3 g4 g5 hwp hwy hwv hmd hwr hr k2
          have HQ3 : Hid (w4.ownsRow w1.heap.size 22 1 v' (m + 1) ((nsK z s i (m + 1)).map (Value.int .u32)) ∧ w4.ownsRow w1.heap.size 5 1 (.slice A6 L c6) L ((hdK D z s i).map (Value.int .u8)) ∧ Past w1 w4) := Lib.hid (by
            have h1 : Past wr (wr.alloc (.cells #[.int .u32 r] 22)) := (Below.refl _ _).alloc (Nat.le_refl _) _
            rw [HSU.out, List.map_append]
            exact ⟨hown4, own_apart18 (own_past15 HQ2.out.2.1 h1) (own_past15 HQ2.out.1 h1) (by decide) hgrow4, (HQ2.out.2.2.trans' h1).grown hgrow4 (Nat.le_trans HQ2.out.2.2.size h1.size) (own_block_ge HQ2.out.1)⟩)
          clear hown4 hgrow4 HQ2
          go_wp2_with fail
          go_roundg (256 - (m + 1))
          case rel => exact ⟨m + 1, x2, HMT.out, rfl, rfl, by go_num, HX2B.out.1, HX2B.out.2, HX2, HQ3⟩
          case measure => have := HGQ2.out; have := HMT.out; omega
        · obtain rfl : m = 256 := by omega
          have hmm : ¬ (256 : Int) < 256 := by omega
          obtain ⟨A9, c9, rfl⟩ := own_slice HQ2.out.1
          have HPC := Lib.hid (HPK.out i A9 c9 wr (SlK.of_own HQ2.out.1))
          rw [HPS.out i] at HPC
          have HYB : Hid (0 ≤ y ∧ y < 18446744073709551616) := Lib.hid ⟨y0, y1⟩
          clear hmt hm y0 y1
          go_wp2_with fail
          refine (HWI.out _).mono ?_
          rintro e w5 ⟨rfl, hw5⟩
          rw [hw5]
          clear hw5
          go_wp2_with fail
          refine HPC.out.mono ?_
          rintro e w5 ⟨v5, rfl, hown5, hrng5, hp5⟩
          obtain ⟨A11, c11, rfl⟩ := own_slice hown5
          have HS11 := Lib.hid (Sl.of_own hown5 hrng5)
          have HO5 : Hid (w5.ownsRow w1.heap.size 5 1 (.slice A6 L c6) L ((hdK D z s i).map (Value.int .u8)) ∧ Past w1 w5) := Lib.hid ⟨own_past15 HQ2.out.2.1 hp5, HQ2.out.2.2.trans' hp5⟩
          have HLB : Hid (L ≤ 10000) := Lib.hid (by
            have h1 := HLL.out
            have h2 := HNB.out
            have h3 := HLT.out
            have h4 : i * (32 * D) ≤ 15 * (32 * D) := Nat.mul_le_mul_right _ (by omega)
            omega)
          have HPL5 := Lib.hid (pkK_len D z s i)
          have HWN : Hid (wrap64 ((i : Int) + 1) = ((i + 1 : Nat) : Int)) := Lib.hid (by have h1 := HNB.out; have h2 := HLT.out; rw [IntWalk.wrap64_in _ (by omega)]; omega)
          clear hown5 hrng5 hp5 HQ2 HPC k2
          go_wp2_with (at_builtin; refine wpList_append_sl rfl _ _ 25 5 rfl Tryz.underlying25 info8 w1.heap.size _ L _ rfl HO5.out.1 A11 _ c11 _ rfl HS11.out ?h1 ?h2 ?_)
          case h1 => have := HLB.out; rw [HPL5.out]; have := HNB.out; omega
          case h2 => exact HO5.out.2.size
          intro v6 w6 hown6 hgrow6
          have HQ6 : Hid (w6.ownsRow w1.heap.size 5 1 v6 (128 + (i + 1) * (32 * D)) ((hdK D z s (i + 1)).map (Value.int .u8)) ∧ Past w1 w6) := Lib.hid (by
            rw [hdK_succ, List.map_append, show 128 + (i + 1) * (32 * D) = L + (pkK D z s i).length by rw [HPL5.out, Nat.succ_mul, ← HLL.out]; omega]
            exact ⟨hown6, HO5.out.2.grown hgrow6 HO5.out.2.size (own_block_ge HO5.out.1)⟩)
          clear hown6 hgrow6 HO5 HS11
          go_wp2_with fail
          go_roundg (K - (i + 1))
          case rel => exact ⟨i + 1, y, HLT.out, rfl, rfl, by first | exact congrArg (Value.int .i64) HWN.out | go_num, HYB.out.1, HYB.out.2, HY, HQ6⟩
          case measure =>
            rw [HGQ.out]
            have := HLT.out
            omega
    · obtain rfl : i = K := by omega
      have hii : ¬ (i : Int) < (i : Int) := by omega
      clear hlt hi
      go_upto_region 6 with (fail)
      go_quiet (fail)
      obtain ⟨wd, hwd⟩ : ∃ W, wr.drewN nq = W := ⟨_, rfl⟩
      have hpd : Past wr wd := by rw [← hwd]; exact Past.drewN (Below.refl _ wr) nq
      have HQd : Hid (wd.ownsRow w1.heap.size 5 1 (.slice A6 L c6) L ((hdK D z s i).map (Value.int .u8)) ∧ Past w1 wd) := Lib.hid ⟨own_past15 HQ.out.1 hpd, HQ.out.2.trans' hpd⟩
      have hrb := HRB.out.past HQd.out.2
      rw [hwd]
      have k0 : wd.cell? ⟨b, 0, none⟩ = some (.int .i64 (k : Int)) := by rw [hrb.cell]; rfl
      clear hwd hpd HQ k1 q1 q2 hrb
      obtain ⟨u1, u2, u3⟩ := HW2.out
      have HC2 := Lib.hid (HSP2.out wd)
      generalize hts : spB (w32 (s + 1)) (t / 3) (t % 3) = T2 at *
      have HTS : Hid (T2.length ≤ 4000) := Lib.hid (by rw [← hts, spB_len]; have := HKB.out; have := HT.out; omega)
      clear hts
      go_wp2_with fail
      refine HC2.out.mono ?_
      rintro e w7 ⟨v7, rfl, hown7, hrng7, hp7⟩
      obtain ⟨A7, c7, rfl⟩ := own_slice hown7
      have HS7 := Lib.hid (Sl.of_own hown7 hrng7)
      have HO7 : Hid (w7.ownsRow w1.heap.size 5 1 (.slice A6 L c6) L ((hdK D z s i).map (Value.int .u8)) ∧ Past w1 w7) := Lib.hid ⟨own_past15 HQd.out.1 hp7, HQd.out.2.trans' hp7⟩
      have HLB : Hid (L ≤ 10000) := Lib.hid (by
        have h1 := HLL.out
        have h2 := HNB.out
        have h4 : i * (32 * D) ≤ 15 * (32 * D) := Nat.mul_le_mul_right _ (by omega)
        omega)
      clear hown7 hrng7 hp7 HQd HC2 k0 u1 u2 u3
      go_wp2_with (at_builtin; refine wpList_append_sl rfl _ _ 25 5 rfl Tryz.underlying25 info8 w1.heap.size _ L _ rfl HO7.out.1 A7 _ c7 _ rfl HS7.out ?h1 ?h2 ?_)
      case h1 => have := HLB.out; have := HTS.out; omega
      case h2 => exact HO7.out.2.size
      intro v8 w8 hown8 hgrow8
      have HE : Hid (w8.ownsRow w.heap.size 5 1 v8 B.length (B.map (Value.int .u8)) ∧ Past w w8) := Lib.hid (by
        rw [HKB.out, List.length_append, hdK_len, HLL.out, List.map_append]
        exact ⟨owns_lower hown8 HP1.out.size, HP1.out.trans' (HO7.out.2.grown hgrow8 HO7.out.2.size (own_block_ge HO7.out.1))⟩)
      clear hown8 hgrow8 HO7 HS7
      go_wp2_with fail
      go_ret
      exact ⟨_, rfl, HE.out.1, HKR.out, HE.out.2⟩
end Go.Proofs.YteflpbkdnebopaaGreatDoor
