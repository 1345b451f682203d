/- The reference's Check. -/
import Derived.Test.YteflpbkdnebopaaGreatDoorR18D
namespace Go.Proofs.YteflpbkdnebopaaGreatDoor
open Go.RowKit
set_option linter.unusedVariables false
set_option maxRecDepth 100000

theorem chkD_first {a : Int} {xs : List Int} {i : Nat} (hk : ¬ kD a = 0) (hl : xs.length = sD a) (hi : i < kD a + lD a) (hb : badD a xs i = true) (hlow : ∀ j, j < i → badD a xs j = false) : chkD a xs = (9, ((128 + zD a * i : Nat) : Int)) := by
  have h3 : fbD a xs = (i : Int) := fstI_at _ _ i (by omega) (by unfold bad4; rw [if_pos hb]; decide) (fun j hj => bad4_le.2 (hlow j hj))
  unfold chkD
  rw [if_neg (fun h => hk (kD_zero.2 h)), if_neg (by rw [hl]; simp), h3, if_pos (by omega)]
  congr 1
theorem chkD_none {a : Int} {xs : List Int} (hk : ¬ kD a = 0) (hl : xs.length = sD a) (h : ∀ j, j < kD a + lD a → badD a xs j = false) : chkD a xs = (0, 0) := by
  have h3 : fbD a xs = -1 := fstI_low _ _ fun j hj => bad4_le.2 (h j hj)
  unfold chkD
  rw [if_neg (fun h => hk (kD_zero.2 h)), if_neg (by rw [hl]; simp), h3, if_neg (by decide)]
theorem badD_true {a : Int} {xs : List Int} {i m : Nat} (hm : m < 256) (h : 2 * (eD a : Int) < nW (wD a) (seg xs (128 + zD a * i) (zD a)) m) : badD a xs i = true := by
  cases hb : badD a xs i with
  | true => rfl
  | false =>
    have := badD_false.1 hb m hm
    omega
set_option maxHeartbeats 4000000 in
theorem rcheck18_any (a : Int) (A : Option Addr) (n c : Nat) (xs : List Int) (w : World) (hS : Sl w A n c xs) (hn : n ≤ 10000) :
    Calls Tryz.prog 13 #[.int .i64 a, .slice A n c] w fun e w' => e = .returned (.agg (resC (chkD a xs))) ∧ Past w w' := by
  obtain ⟨g, hg⟩ : ∃ g, w.heap.size = g := ⟨_, rfl⟩
  have HV := Lib.hid (rvec_any a (w.alloc (.cells (resC (0, 0)) 37)))
  have HVA := Lib.hid (fun e w1 => @vec_after a w w1 e 37 (resC (0, 0)))
  have HSI := Lib.hid (fun w => rsize18_any a w)
  have HWI := Lib.hid (fun w => rwidth_any (eD a) (eD_in a) w)
  rw [wD_of a] at HWI
  have HGS : Hid (w.heap.size ≤ g) := Lib.hid (by omega)
  rw [hg] at HVA
  obtain ⟨w0, hw0⟩ : ∃ W, w.alloc (.cells #[.int .i64 0, .int .i64 0] 37) = W := ⟨_, rfl⟩
  change Hid (Calls _ _ _ (w.alloc (.cells #[.int .i64 0, .int .i64 0] 37)) (VecP a (w.alloc (.cells #[.int .i64 0, .int .i64 0] 37)))) at HV
  change Hid (∀ e w1, VecP a (w.alloc (.cells #[.int .i64 0, .int .i64 0] 37)) e w1 → _) at HVA
  rw [hw0] at HV HVA
  have HW0 := Lib.hid hw0
  have HSS := Lib.hid (fun w' (h : Past w w') => hS.past h)
  have hl := hS.len
  have hcap := hS.cap
  have hwd := wD_le a
  have hkd := kD_le a
  have hld := lD_le a
  have HE2 := Lib.hid (eD_in a)
  have HLN := Lib.hid (And.intro hl (And.intro hcap (And.intro hn (And.intro hwd (And.intro hkd hld)))))
  have HSD : Hid (sD a = 128 + zD a * (kD a + lD a) + 416 * kD a ∧ zD a = 32 * wD a) := Lib.hid ⟨rfl, rfl⟩
  have HX8 : Hid (kD a = 0 → chkD a xs = (8, 0)) := Lib.hid (fun h => by unfold chkD; rw [if_pos (kD_zero.1 h)])
  have HX6 : Hid (¬ kD a = 0 → ¬ (n : Int) = (sD a : Int) → chkD a xs = (6, 0)) := Lib.hid (fun h h2 => by unfold chkD; rw [if_neg (fun h3 => h (kD_zero.2 h3)), hl, if_pos h2])
  have HX9 : Hid (∀ i m, ¬ kD a = 0 → n = sD a → i < kD a + lD a → m < 256 → 2 * (eD a : Int) < nW (wD a) (seg xs (128 + zD a * i) (zD a)) m → (∀ j, j < i → badD a xs j = false) → chkD a xs = (9, ((128 + zD a * i : Nat) : Int))) := Lib.hid (fun i m h1 h2 h3 h4 h5 h6 => chkD_first h1 (hl.trans h2) h3 (badD_true h4 h5) h6)
  have HX0 : Hid (¬ kD a = 0 → n = sD a → (∀ j, j < kD a + lD a → badD a xs j = false) → chkD a xs = (0, 0)) := Lib.hid (fun h1 h2 h3 => chkD_none h1 (hl.trans h2) h3)
  have HBF : Hid (∀ i, (∀ m, m < 256 → nW (wD a) (seg xs (128 + zD a * i) (zD a)) m ≤ 2 * (eD a : Int)) → badD a xs i = false) := Lib.hid (fun i h => badD_false.2 h)
  obtain ⟨R, hR⟩ : ∃ R, chkD a xs = R := ⟨_, rfl⟩
  rw [hR] at HX8 HX6 HX9 HX0
  rw [hR]
  obtain ⟨bd, hbd⟩ : ∃ bd, badD a xs = bd := ⟨_, rfl⟩
  rw [hbd] at HX9 HX0 HBF
  obtain ⟨S, hSD⟩ : ∃ S, sD a = S := ⟨_, rfl⟩
  obtain ⟨z, hzD⟩ : ∃ z, zD a = z := ⟨_, rfl⟩
  obtain ⟨k, hk⟩ : ∃ k, kD a = k := ⟨_, rfl⟩
  obtain ⟨l, hlD⟩ : ∃ l, lD a = l := ⟨_, rfl⟩
  obtain ⟨D, hD⟩ : ∃ D, wD a = D := ⟨_, rfl⟩
  obtain ⟨e0, he0⟩ : ∃ e0 : Nat, eD a = e0 := ⟨_, rfl⟩
  rw [hSD] at HSI HSD HX6 HX9 HX0
  rw [hzD] at HSD HX9 HBF
  rw [hk] at HVA HLN HSD HX8 HX6 HX9 HX0
  rw [hlD] at HVA HLN HSD HX9 HX0
  rw [hD] at HWI HLN HSD HX9 HBF
  rw [he0] at HVA HWI HX9 HBF HE2
  clear hS hn hl hcap hwd hkd hld hw0 hR hbd hSD hzD hk hlD hD he0
  go_enter Tryz.func13, Tryz.ntmps13
  go_upto_region 1 with (fail)
  rw [HW0.out]
  try rw [hg]
  clear HW0 hg
  go_wp2_with fail
  refine HV.out.mono ?_
  intro e w1 h
  obtain ⟨b, rfl, hrb, hp1, hrg⟩ := HVA.out e w1 h
  have HP1 := Lib.hid hp1
  have HRB := Lib.hid hrb
  have HRG := Lib.hid hrg
  have k0 : w1.cell? ⟨b, 0, none⟩ = some (.int .i64 (k : Int)) := by rw [hrb.cell]; rfl
  clear h hp1 hrg hrb HV HVA
  by_cases hk0 : k = 0
  · have HE := Lib.hid (HX8.out hk0)
    have hkI : (k : Int) = 0 := by omega
    rw [hkI] at k0
    have HR1 := HRG
    clear hk0 hkI HX8 HX6 HX9 HX0
    have hr1 := HR1.out
    have hi2 := inf15 (8, 0)
    have ho2 : (resC (8, 0)).all (·.oneCell') = true := by simp [resC, Value.oneCell']
    go_wp2_with (refine wpList_store_row rfl 37 _ _ rfl g _ rfl rfl _ _ hr1 hi2 (by rfl) ho2 ?_)
    refine bodyPost_ret (results_cell_row rfl _ _ g _ (resC (8, 0)) (0, 0) _ rfl (setRow_heap _ g _ (resC (8, 0)) _ _ hr1) Tryz.underlying37 rfl hi2) (by rfl) ?_
    exact ⟨by rw [HE.out], below_setRow HP1.out HGS.out _⟩
  · have hkI : ¬ (k : Int) = 0 := by omega
    have HK0 := Lib.hid hk0
    clear HX8
    go_wp2_with fail
    refine (HSI.out _).mono ?_
    rintro e w2 ⟨rfl, hp2⟩
    have HP2 := Lib.hid (HP1.out.trans' hp2)
    have HRB2 := Lib.hid (HRB.out.past hp2)
    have HR2 := Lib.hid (HRG.out.past hp2)
    clear hp2 HRB HRG k0 hkI HSI
    by_cases hnS : n = S
    · have HNS := Lib.hid hnS
      have hnI : (n : Int) = (S : Int) := by omega
      clear HX6 hk0
      have k2 : w2.cell? ⟨b, 2, none⟩ = some (.int .i64 (e0 : Int)) := by rw [HRB2.out.cell]; rfl
      obtain ⟨hl, hcap, hn, hwd, hkd, hld⟩ := HLN.out
      obtain ⟨hs1, hs2⟩ := HSD.out
      obtain ⟨K, hK⟩ : ∃ K, k + l = K := ⟨_, rfl⟩
      rw [hK] at HX9 HX0 hs1
      have HWK : Hid (IntKind.i64.wrap ((k : Int) + (l : Int)) = (K : Int) ∧ wrap64 (K : Int) = (K : Int)) := Lib.hid ⟨by rw [IntKind.wrap_i64]; omega, IntWalk.wrap64_in _ (by omega)⟩
      have HWZ : Hid (IntKind.i64.wrap (32 * (D : Int)) = (z : Int) ∧ wrap64 (z : Int) = (z : Int)) := Lib.hid ⟨by rw [IntKind.wrap_i64]; omega, IntWalk.wrap64_in _ (by omega)⟩
      have HKB : Hid (K ≤ 15 ∧ z ≤ 128 ∧ 3 ≤ D ∧ D ≤ 4 ∧ z = 32 * D ∧ S = 128 + z * K + 416 * k) := Lib.hid ⟨by omega, by omega, by omega, by omega, hs2, hs1⟩
      have hSp : 0 < n := by omega
      obtain ⟨b0, o0, rfl, _⟩ := (HSS.out w (Below.refl _ _)).bytes hSp
      have HUN := Lib.hid (fun L H W (hp : Past w W) (h1 : L + z = H) (h2 : H ≤ n) => by
        have h3 := runpack_any (D : Int) 256 (some ⟨b0, o0 + L, none⟩) (H - L) (c - L) (seg xs L z) W ((HSS.out W hp).at2 h1 h2 (by omega)) (by omega)
        rw [unpackW D (by omega) (by omega), if_pos (by rw [seg_len (by omega)]; exact hs2)] at h3
        exact h3)
      obtain ⟨hz1, hz2⟩ := HWZ.out
      clear hnS hl hcap hn hwd hkd hld hs1 hs2 hK hSp
      go_wp2_with fail
      refine (HWI.out _).mono ?_
      rintro e w2' ⟨rfl, hw2'⟩
      rw [hw2']
      clear hw2' hnI k2
      go_wp2_with fail
      clear hz1 hz2
      go_loopg [7] K (fun q s7 wx => ∃ i : Nat, i ≤ K ∧ q = K - i ∧ s7 = .int .i64 (i : Int) ∧ Hid (∀ j, j < i → bd j = false) ∧ Hid (Past w2 wx))
      case atStart => exact ⟨0, Nat.zero_le _, rfl, rfl, Lib.hid (fun j hj => absurd hj (Nat.not_lt_zero _)), Lib.hid (Below.refl _ _)⟩
      case round =>
        obtain ⟨i, hi, hq, rfl, HB, HQ⟩ := hrel
        have HGQ := Lib.hid hq
        clear hq
        have hi0 : (0 : Int) ≤ (i : Int) := by omega
        have hrb := HRB2.out.past HQ.out
        have k0 : wr.cell? ⟨b, 0, none⟩ = some (.int .i64 (k : Int)) := by rw [hrb.cell]; rfl
        have k1 : wr.cell? ⟨b, 1, none⟩ = some (.int .i64 (l : Int)) := by rw [hrb.cell]; rfl
        clear hrb
        obtain ⟨q1, q2⟩ := HWK.out
        by_cases hlt : i < K
        · have hii : (i : Int) < (K : Int) := by omega
          have HLT := Lib.hid hlt
          clear hlt hi
          go_upto_region 8 with (fail)
          go_quiet (fail)
          obtain ⟨wd, hwd⟩ : ∃ W, wr.drewN nq = W := ⟨_, rfl⟩
          have HQd : Hid (Past w2 wd) := Lib.hid (by rw [← hwd]; exact HQ.out.drewN nq)
          rw [hwd]
          clear hwd HQ k0 k1 q1 q2
          obtain ⟨x, hx⟩ : ∃ x, z * i = x := ⟨_, rfl⟩
          obtain ⟨L, hL⟩ : ∃ L, 128 + x = L := ⟨_, rfl⟩
          obtain ⟨H, hH⟩ : ∃ H, L + z = H := ⟨_, rfl⟩
          have hLb : H ≤ n := by
            have h1 := HKB.out.2.2.2.2.2
            have h2 := HNS.out
            have h3 : z * i + z ≤ z * K := by
              have := Nat.mul_le_mul_left z (show i + 1 ≤ K by have := HLT.out; omega)
              rwa [Nat.mul_succ] at this
            omega
          have hnn := HLN.out.2.2.1
          have hcc := HLN.out.2.1
          have HPOS : Hid (128 + z * i = L) := Lib.hid (by rw [hx]; exact hL)
          have HWL : Hid (IntKind.i64.wrap ((z : Int) * (i : Int)) = (x : Int) ∧ wrap64 (x : Int) = (x : Int) ∧ IntKind.i64.wrap (128 + (x : Int)) = (L : Int) ∧ wrap64 (L : Int) = (L : Int)) := Lib.hid
            ⟨by rw [show (z : Int) * (i : Int) = (x : Int) by rw [← hx]; exact (Int.natCast_mul _ _).symm, IntKind.wrap_i64]; omega, IntWalk.wrap64_in _ (by omega), by rw [IntKind.wrap_i64]; omega, IntWalk.wrap64_in _ (by omega)⟩
          have HWH : Hid (IntKind.i64.wrap ((L : Int) + (z : Int)) = (H : Int) ∧ wrap64 (H : Int) = (H : Int) ∧ (L : Int) ≤ (H : Int) ∧ (H : Int) ≤ (c : Int) ∧ ¬ c = L ∧ (0 : Int) ≤ (L : Int)) := Lib.hid
            ⟨by rw [IntKind.wrap_i64]; omega, IntWalk.wrap64_in _ (by omega), by omega, by omega, by have := HKB.out.2.2.1; have := HKB.out.2.2.2.2.1; omega, by omega⟩
          have HUC := Lib.hid (fun W (hp : Past w W) => HUN.out L H W hp hH hLb)
          have HWP : Hid (∀ W, Past wd W → Past w W) := Lib.hid (fun W h => (HP2.out.trans' HQd.out).trans' h)
          have HSC : Hid (∀ W, Past wd W → True ∧ W.cell? ⟨b, 2, none⟩ = some (.int .i64 (e0 : Int))) := Lib.hid (fun W h => ⟨trivial, by rw [(HRB2.out.past (HQd.out.trans' h)).cell]; rfl⟩)
          obtain ⟨u1, u2, u3, u4⟩ := HWL.out
          clear hx hL hH hLb hnn hcc
          go_upto_region 11 with (fail)
          clear u1 u2 u3 u4
          obtain ⟨w3d, hw3d⟩ : ∃ W, W = wd.drew := ⟨_, rfl⟩
          have HP0d : Hid (Past wd w3d) := Lib.hid (by rw [hw3d]; exact Past.drewN (Below.refl _ wd) 1)
          refine wp_region_held_drew (S := fun W => True ∧ W.cell? ⟨b, 2, none⟩ = some (.int .i64 (e0 : Int))) (by kernel_rfl) (by rw [← hw3d]; exact HSC.out _ HP0d.out) (fun hH => ?_)
          change wpAnyH _ _ _ _ _ _ _ _ (World.drew _)
          rw [← hw3d]
          clear hH hw3d
          have hH := HSC.out _ HP0d.out
          refine held_take 0 46 (v := .slice (some ⟨b, 0, none⟩) 3 3) rfl rfl (by kernel_rfl) (by kernel_rfl) (by kernel_rfl) (fun _ _ _ h => h) (Or.inl ⟨by kernel_rfl, fun w _ => by kernel_rfl⟩) hH ?_
          (try simp only [List.setIfInBounds_toArray, List.set_cons_zero, List.set_cons_succ])
          refine held_take 1 47 (v := .pointer (some ⟨b, 2, none⟩)) rfl rfl (by kernel_rfl) (by kernel_rfl) (by kernel_rfl) (fun _ _ _ h => h) (Or.inl ⟨by kernel_rfl, fun w _ => by go_simp⟩) hH ?_
          (try simp only [List.setIfInBounds_toArray, List.set_cons_zero, List.set_cons_succ])
          refine held_take 2 48 (v := .int .i64 (e0 : Int)) rfl rfl (by kernel_rfl) (by kernel_rfl) (by kernel_rfl) (fun _ _ _ h => h) (Or.inl ⟨by kernel_rfl, fun w hSw => by
            have hcell := hSw.2
            go_simp⟩) hH ?_
          (try simp only [List.setIfInBounds_toArray, List.set_cons_zero, List.set_cons_succ])
          refine held_take 4 50 (v := .slice (some ⟨b0, o0, none⟩) n c) rfl rfl (by kernel_rfl) (by kernel_rfl) (by kernel_rfl) (fun _ _ _ h => h) (Or.inl ⟨by kernel_rfl, fun w _ => by kernel_rfl⟩) hH ?_
          (try simp only [List.setIfInBounds_toArray, List.set_cons_zero, List.set_cons_succ])
          refine held_take 5 51 (v := .int .i64 (L : Int)) rfl rfl (by kernel_rfl) (by kernel_rfl) (by kernel_rfl) (fun _ _ _ h => h) (Or.inl ⟨by kernel_rfl, fun w _ => by kernel_rfl⟩) hH ?_
          (try simp only [List.setIfInBounds_toArray, List.set_cons_zero, List.set_cons_succ])
          refine held_take 6 52 (v := .int .i64 (L : Int)) rfl rfl (by kernel_rfl) (by kernel_rfl) (by kernel_rfl) (fun _ _ _ h => h) (Or.inl ⟨by kernel_rfl, fun w _ => by kernel_rfl⟩) hH ?_
          (try simp only [List.setIfInBounds_toArray, List.set_cons_zero, List.set_cons_succ])
          refine held_take 7 53 (v := .int .i64 (z : Int)) rfl rfl (by kernel_rfl) (by kernel_rfl) (by kernel_rfl) (fun _ _ _ h => h) (Or.inl ⟨by kernel_rfl, fun w _ => by kernel_rfl⟩) hH ?_
          (try simp only [List.setIfInBounds_toArray, List.set_cons_zero, List.set_cons_succ])
          refine held_take 8 54 (v := .int .i64 (H : Int)) rfl rfl (by kernel_rfl) (by kernel_rfl) (by kernel_rfl) (fun _ _ _ h => h) (Or.inl ⟨by kernel_rfl, fun w _ => by obtain ⟨v1, v2, _⟩ := HWH.out; go_simp⟩) hH ?_
          (try simp only [List.setIfInBounds_toArray, List.set_cons_zero, List.set_cons_succ])
          refine held_take 9 55 (v := .slice (some ⟨b0, o0 + L, none⟩) (H - L) (c - L)) rfl rfl (by kernel_rfl) (by kernel_rfl) (by kernel_rfl) (fun _ _ _ h => h) (Or.inl ⟨by kernel_rfl, fun w _ => by obtain ⟨_, _, v3, v4, v5, v6⟩ := HWH.out; go_simp⟩) hH ?_
          (try simp only [List.setIfInBounds_toArray, List.set_cons_zero, List.set_cons_succ])
          refine wpAnyH_ready (rs := [3]) (by kernel_rfl) (by simp) ?_
          refine AllReadyH.cons (by simp only [List.getElem?_toArray, List.getElem?_cons_succ, List.getElem?_cons_zero]; rfl) (fun K hK => ?_) AllReadyH.nil
          go_simp
          refine (HWI.out _).mono ?_
          rintro e1 wc1 ⟨rfl, hw⟩
          rw [hw]
          clear hw
          refine hK.out _ _ (HSC.out _ HP0d.out) (fun hH => ?_)
          clear hK K
          (try dsimp only [Act.put])
          (try simp only [List.setIfInBounds_toArray, List.set_cons_zero, List.set_cons_succ])
          refine wpAnyH_ready (rs := [10]) (by kernel_rfl) (by simp) ?_
          refine AllReadyH.cons (by simp only [List.getElem?_toArray, List.getElem?_cons_succ, List.getElem?_cons_zero]; rfl) (fun K hK => ?_) AllReadyH.nil
          go_simp
          refine (HUC.out _ (HWP.out _ HP0d.out)).mono ?_
          rintro e2 w4 ⟨A9, n9, c9, rfl, hS9, hp⟩
          have hn9 : 256 = n9 := by have := hS9.len; rw [nums_len] at this; exact this
          subst hn9
          have HS9 := Lib.hid hS9
          have HPc2 : Hid (Past wd w4) := Lib.hid (HP0d.out.trans' hp)
          clear hp hS9
          refine hK.out _ _ (HSC.out _ HPc2.out) (fun hH => ?_)
          clear hK K
          (try dsimp only [Act.put])
          (try simp only [List.setIfInBounds_toArray, List.set_cons_zero, List.set_cons_succ])
          refine held_take 11 45 (v := .tuple #[.slice A9 256 c9, .bool true]) rfl rfl (by kernel_rfl) (by kernel_rfl) (by kernel_rfl) (fun _ _ _ h => h) (Or.inl ⟨by kernel_rfl, fun w _ => by kernel_rfl⟩) hH ?_
          (try simp only [List.setIfInBounds_toArray, List.set_cons_zero, List.set_cons_succ])
          refine held_take 12 57 (v := .slice A9 256 c9) rfl rfl (by kernel_rfl) (by kernel_rfl) (by kernel_rfl) (fun _ _ _ h => h) (Or.inl ⟨by kernel_rfl, fun w _ => by kernel_rfl⟩) hH ?_
          (try simp only [List.setIfInBounds_toArray, List.set_cons_zero, List.set_cons_succ])
          refine held_take 14 9 (v := .slice A9 256 c9) rfl rfl (by kernel_rfl) (by kernel_rfl) (by kernel_rfl) (fun _ _ _ h => h) (Or.inl ⟨by kernel_rfl, fun w _ => by kernel_rfl⟩) hH ?_
          (try simp only [List.setIfInBounds_toArray, List.set_cons_zero, List.set_cons_succ])
          refine held_take 13 58 (v := .bool true) rfl rfl (by kernel_rfl) (by kernel_rfl) (by kernel_rfl) (fun _ _ _ h => h) (Or.inl ⟨by kernel_rfl, fun w _ => by kernel_rfl⟩) hH ?_
          (try simp only [List.setIfInBounds_toArray, List.set_cons_zero, List.set_cons_succ])
          refine held_take 15 10 (v := .bool true) rfl rfl (by kernel_rfl) (by kernel_rfl) (by kernel_rfl) (fun _ _ _ h => h) (Or.inl ⟨by kernel_rfl, fun w _ => by kernel_rfl⟩) hH ?_
          (try simp only [List.setIfInBounds_toArray, List.set_cons_zero, List.set_cons_succ])
          refine wpAnyH_done (by kernel_rfl) ?_ _
          go_simp
          have HNM : Hid (∀ m, m < 256 → (nums D (seg xs L z) 256).getD m 0 = nW D (seg xs L z) m) := Lib.hid (fun m hm => numsW D _ 256 m hm)
          have HNB : Hid (∀ m, 0 ≤ nW D (seg xs L z) m ∧ nW D (seg xs L z) m < 16) := Lib.hid (fun m => by
            have h1 := nW_rng D (seg xs L z) m
            have h2 := pow_le2 HKB.out.2.2.2.1
            omega)
          have HEB : Hid (e0 ≤ 4) := Lib.hid (by have := HE2.out; omega)
          clear hH HSC HUC HWL HWH HWP HUN
          go_wp2_with fail
          go_loopg [11] 256 (fun q s11 wx => ∃ m : Nat, m ≤ 256 ∧ q = 256 - m ∧ s11 = .int .i64 (m : Int) ∧ Hid (∀ t, t < m → nW D (seg xs L z) t ≤ 2 * (e0 : Int)) ∧ Hid (Past w4 wx))
          case atStart => exact ⟨0, Nat.zero_le _, rfl, rfl, Lib.hid (fun t ht => absurd ht (Nat.not_lt_zero _)), Lib.hid (Below.refl _ _)⟩
          case round =>
            rename_i wo
            obtain ⟨m, hm, hq2, rfl, HT, HQ2⟩ := hrel
            have HGQ2 := Lib.hid hq2
            clear hq2
            have hm0 : (0 : Int) ≤ (m : Int) := by omega
            have HPW : Hid (Past w wr ∧ Past w2 wr) := Lib.hid ⟨(HP2.out.trans' (HQd.out.trans' HPc2.out)).trans' HQ2.out, (HQd.out.trans' HPc2.out).trans' HQ2.out⟩
            by_cases hmt : m < 256
            · have hmm : (m : Int) < 256 := by omega
              have HMT := Lib.hid hmt
              have hrb := HRB2.out.past HPW.out.2
              have k2 : wr.cell? ⟨b, 2, none⟩ = some (.int .i64 (e0 : Int)) := by rw [hrb.cell]; rfl
              obtain ⟨b9, o9, rfl, hc9⟩ := (HS9.out.past HQ2.out).cells (by decide)
              have hx := hc9 m hmt
              rw [HNM.out m hmt] at hx
              have HXV := Lib.hid (HNB.out m)
              obtain ⟨x, hxx⟩ : ∃ x, nW D (seg xs L z) m = x := ⟨_, rfl⟩
              rw [hxx] at hx HXV
              obtain ⟨x0, x1⟩ := HXV.out
              have heb := HEB.out
              have hwx : IntKind.i64.wrap x = x := by rw [IntKind.wrap_i64]; omega
              have hwe : IntKind.i64.wrap (2 * (e0 : Int)) = 2 * (e0 : Int) := by rw [IntKind.wrap_i64]; omega
              have HXX := Lib.hid hxx
              clear hrb hc9 hmt hm hxx
              by_cases hb : 2 * (e0 : Int) < x
              · have HE : Hid (R = (9, (L : Int))) := Lib.hid (by
                  have h := HX9.out i m HK0.out HNS.out HLT.out HMT.out (by rw [HPOS.out, HXX.out]; exact hb) HB.out
                  rw [h, HPOS.out])
                go_upto_region 15 with (fail)
                go_quiet (fail)
                obtain ⟨we, hwe2⟩ : ∃ W, wr.drewN nq = W := ⟨_, rfl⟩
                have HPE : Hid (Past w we) := Lib.hid (by rw [← hwe2]; exact HPW.out.1.drewN nq)
                have HR1 : Hid (Row we g 37 (resC (0, 0))) := Lib.hid (by rw [← hwe2]; exact (HR2.out.past HPW.out.2).drewN nq)
                rw [hwe2]
                clear hwe2 hx k2 hwx hwe
                have hr1 := HR1.out
                have hi2 := inf15 (9, (L : Int))
                have ho2 : (resC (9, (L : Int))).all (·.oneCell') = true := by simp [resC, Value.oneCell']
                go_wp2_with (refine wpList_store_row rfl 37 _ _ rfl g _ rfl rfl _ _ hr1 hi2 (by rfl) ho2 ?_)
                refine bodyPost_ret (results_cell_row rfl _ _ g _ (resC (9, (L : Int))) (0, 0) _ rfl (setRow_heap _ g _ (resC (9, (L : Int))) _ _ hr1) Tryz.underlying37 rfl hi2) (by rfl) ?_
                exact ⟨by rw [HE.out], below_setRow HPE.out HGS.out _⟩
              · have HT2 : Hid (∀ t, t < m + 1 → nW D (seg xs L z) t ≤ 2 * (e0 : Int)) := Lib.hid (fun t ht => by
                  by_cases e : t = m
                  · subst e; rw [HXX.out]; omega
                  · exact HT.out t (by omega))
                go_upto_region 15 with (fail)
                go_quiet (fail)
                obtain ⟨we, hwe2⟩ : ∃ W, wr.drewN nq = W := ⟨_, rfl⟩
                have HPE : Hid (Past w4 we) := Lib.hid (by rw [← hwe2]; exact HQ2.out.drewN nq)
                rw [hwe2]
                clear hwe2 hx k2 hwx hwe HT hb
                go_wp2_with fail
                go_roundg (256 - (m + 1))
                case rel => exact ⟨m + 1, HMT.out, rfl, by go_num, HT2, HPE⟩
                case measure => have := HGQ2.out; have := HMT.out; omega
            · obtain rfl : m = 256 := by omega
              have hmm : ¬ (256 : Int) < 256 := by omega
              have HB2 : Hid (∀ j, j < i + 1 → bd j = false) := Lib.hid (fun j hj => by
                by_cases e : j = i
                · subst e
                  exact HBF.out j (fun t ht => by rw [HPOS.out]; exact HT.out t ht)
                · exact HB.out j (by omega))
              have HWN : Hid (wrap64 ((i : Int) + 1) = ((i + 1 : Nat) : Int)) := Lib.hid (by have h1 := HKB.out.1; have h2 := HLT.out; rw [IntWalk.wrap64_in _ (by omega)]; omega)
              have HPE : Hid (Past w2 wr) := Lib.hid HPW.out.2
              clear hmt hm HT HB HPW
              go_wp2_with fail
              go_roundg (K - (i + 1))
              case rel => exact ⟨i + 1, HLT.out, rfl, by first | exact congrArg (Value.int .i64) HWN.out | go_num, HB2, HPE⟩
              case measure => rw [HGQ.out]; have := HLT.out; omega
        · obtain rfl : i = K := by omega
          have hii : ¬ (i : Int) < (i : Int) := by omega
          have HE : Hid (R = (0, 0)) := Lib.hid (HX0.out HK0.out HNS.out HB.out)
          clear hlt hi
          go_upto_region 8 with (fail)
          go_quiet (fail)
          obtain ⟨wd, hwd⟩ : ∃ W, wr.drewN nq = W := ⟨_, rfl⟩
          have HPE : Hid (Past w wd) := Lib.hid (by rw [← hwd]; exact (HP2.out.trans' HQ.out).drewN nq)
          have HR1 : Hid (Row wd g 37 (resC (0, 0))) := Lib.hid (by rw [← hwd]; exact (HR2.out.past HQ.out).drewN nq)
          rw [hwd]
          clear hwd HQ k0 k1 q1 q2
          have hr1 := HR1.out
          have hi2 := inf15 (0, 0)
          have ho2 : (resC (0, 0)).all (·.oneCell') = true := by simp [resC, Value.oneCell']
          go_wp2_with (refine wpList_store_row rfl 37 _ _ rfl g _ rfl rfl _ _ hr1 hi2 (by rfl) ho2 ?_)
          refine bodyPost_ret (results_cell_row rfl _ _ g _ (resC (0, 0)) (0, 0) _ rfl (setRow_heap _ g _ (resC (0, 0)) _ _ hr1) Tryz.underlying37 rfl hi2) (by rfl) ?_
          exact ⟨by rw [HE.out], below_setRow HPE.out HGS.out _⟩
    · have hnI : ¬ (n : Int) = (S : Int) := by omega
      have HE := Lib.hid (HX6.out hk0 hnI)
      have HR1 := HR2
      clear HX6 HX9 HX0 hk0
      have hr1 := HR1.out
      have hi2 := inf15 (6, 0)
      have ho2 : (resC (6, 0)).all (·.oneCell') = true := by simp [resC, Value.oneCell']
      go_wp2_with (refine wpList_store_row rfl 37 _ _ rfl g _ rfl rfl _ _ hr1 hi2 (by rfl) ho2 ?_)
      refine bodyPost_ret (results_cell_row rfl _ _ g _ (resC (6, 0)) (0, 0) _ rfl (setRow_heap _ g _ (resC (6, 0)) _ _ hr1) Tryz.underlying37 rfl hi2) (by rfl) ?_
      exact ⟨by rw [HE.out], below_setRow HP2.out HGS.out _⟩
end Go.Proofs.YteflpbkdnebopaaGreatDoor
