/- KcodeBytes: any bytes are those of a valid polynomial, which leads back to them, exactly if there are 384, and no number is too great; for every input of the statement, with no condition beyond the card's. -/
import Derived.Test.YthbnaoifiggdnaaGreatDoorOp15
import Derived.Test.YthbnaoifiggdnaaGreatDoorQ15I
import Derived.Deep.RegionHeld
namespace Go.Proofs.YthbnaoifiggdnaaGreatDoor.kcodeBytes
open Go.RowKit Go.ChangeShapes Go.WideShapes Go.ChangeAt
set_option linter.unusedVariables false
set_option maxRecDepth 100000

theorem bytesL_n12 {xs : List Int} (hl : xs.length = 384) (h : ∀ j, j < 256 → n12 xs j < 3329) (hr : ∀ x ∈ xs, 0 ≤ x ∧ x < 256) : bytesL (n12 xs) = xs := by
  have e : polL (n12 xs) = nums 12 xs (2 * 128) := by
    refine List.ext_getElem (by rw [polL_len, nums_len]) fun i h1 h2 => ?_
    rw [polL_len] at h1
    have a1 := polL_at (n12 xs) i h1
    have a2 := nums12 xs (2 * 128) i (by omega)
    simp only [List.getD, List.getElem?_eq_getElem (show i < (polL (n12 xs)).length by rw [polL_len]; exact h1), Option.getD_some] at a1
    simp only [List.getD, List.getElem?_eq_getElem h2, Option.getD_some] at a2
    rw [a1, a2]
    have := h i h1
    have := n12_rng xs i
    omega
  unfold bytesL
  rw [e]
  exact packs_nums12 xs 128 (by omega) (by decide) hr
theorem valid_low (f : Nat → Int) (h : ∀ j, j < 256 → f j < 3329) (hf : R16 f) (w : World) : Calls Tryz.prog 26 #[.agg (arr .u16 256 f)] w fun e w' => e = .returned (.bool true) ∧ Past w w' := by
  refine (pvalid_any f hf w).mono ?_
  rintro e w' ⟨v, rfl, hv, hp⟩
  rw [hv.2 h]
  exact ⟨rfl, hp⟩
set_option maxHeartbeats 4000000 in
theorem walk (s : Int) (P : Option Addr) (m pc : Nat) (V : Nat → Int × Int × Int) (A : Option Addr) (n c : Nat) (zs : List Int) (w : World) (hs : (Lit.int .u32 s).wf = true) (hC : Chs w P m V) (hml : m ≤ maxLen) (hR : IsRow .u8 w A n c zs) (hG : Glob15 w) :
    Calls Tryz.prog 6 #[.int .u32 s, .slice P m pc, .slice A n c] w fun e w' => e = .returned (.bool true) ∧ Past w w' := by
  have HAW := Lib.hid (fun w' (h : Past w w') => awake15 w' (hG.past h))
  have hsb := bounds_u32 hs
  have hS := Sl.of_row hR
  obtain ⟨xs, hxs⟩ : ∃ xs, zs.take n = xs := ⟨_, rfl⟩
  rw [hxs] at hS
  have hcap := hS.cap
  have hbig := hS.big
  have hn0 : (0 : Int) ≤ (n : Int) := by omega
  have hm0 : (0 : Int) ≤ (m : Int) := by omega
  by_cases hm : m ≤ 20
  · have hmI : (m : Int) ≤ 20 := by omega
    by_cases hb : n ≤ 300
    · have hbI : (n : Int) ≤ 300 := by omega
      have HS := Lib.hid hS
      have HSP := Lib.hid (fun w => rsp_any s 384 128 0 w rfl (by omega) (by decide) (by decide))
      have HPL : Hid (0 < (spB s 128 0).length ∧ (spB s 128 0).length ≤ 384) := Lib.hid (by rw [spB_len]; omega)
      have HCH := Lib.hid (fun A n c xs w' (h : Past w w') (h1 : Sl w' A n c xs) h2 h3 => changed_any A n c xs P m pc V w' h1 h2 h3 (hC.past h) hm)
      have HNB := Lib.hid hb
      generalize spB s 128 0 = xb at *
      clear hs hG hC hsb hml hm hxs hS hR hcap hbig hb
      go_enter Tryz.func6, Tryz.ntmps6
      go_wp2_with fail
      refine (HAW.out w (Below.refl _ _)).mono ?_
      rintro e1 w1 ⟨rfl, hp1⟩
      have HP1 := Lib.hid hp1
      clear hp1
      go_wp2_with fail
      refine (HSP.out w1).mono ?_
      rintro e2 w2 ⟨v2, rfl, hown, hrng, hp2⟩
      obtain ⟨A2, c2, rfl⟩ := own_slice hown
      have HP2 := Lib.hid (HP1.out.trans' hp2)
      have HH := Lib.hid (HCH.out A2 _ c2 xb w2 HP2.out (Sl.of_own hown hrng) HPL.out.1 (Nat.le_trans HPL.out.2 (by decide)))
      clear hown hrng hp2
      go_wp2_with fail
      refine HH.out.mono ?_
      rintro e3 w3 ⟨v3, rfl, hown, hrng, hp3⟩
      have hown0 := own_mono hown HP2.out.size
      have HP3 := Lib.hid (HP2.out.trans' hp3)
      have HL3 : Hid ((chg V xb m).length ≤ 384) := Lib.hid (Nat.le_trans (chg_len V xb m) HPL.out.2)
      have HO3 := Lib.hid hown0
      have HR3 := Lib.hid hrng
      have HOB := Lib.hid (own_block_ge hown0)
      clear hown hrng hp3 HH hown0
      generalize chg V xb m = cs at *
      obtain ⟨L, hL⟩ : ∃ L, cs.length = L := ⟨_, rfl⟩
      rw [hL] at HO3 HL3
      have HLC := Lib.hid hL
      clear hL
      go_wp2_with (at_builtin; refine wpList_append_sl rfl _ _ 25 5 rfl Tryz.underlying25 info8 w.heap.size _ L cs rfl HO3.out A n c xs rfl (HS.out.past HP3.out) (by have := HL3.out; have := HNB.out; omega) HP3.out.size ?_)
      intro v4 w4 hown4 hgrow4
      rw [← List.map_append] at hown4
      obtain ⟨A4, c4, rfl⟩ := own_slice hown4
      have hrng4 : ∀ x ∈ cs ++ xs, 0 ≤ x ∧ x < 256 := fun x hx => by
        rcases List.mem_append.1 hx with h | h
        · exact HR3.out x h
        · exact HS.out.rng x h
      have HS4 := Lib.hid (Sl.of_own hown4 hrng4)
      have HP4 : Hid (Past w w4) := Lib.hid (HP3.out.grown hgrow4 HP3.out.size HOB.out)
      have HRY := Lib.hid hrng4
      obtain ⟨N, hN⟩ : ∃ N, L + n = N := ⟨_, rfl⟩
      have HNL : Hid ((cs ++ xs).length = N) := Lib.hid (by rw [List.length_append, HLC.out, HS.out.len, hN])
      have hNb : N ≤ 684 := by have := HL3.out; have := HNB.out; omega
      clear hown4 hgrow4 hrng4
      generalize cs ++ xs = ys at *
      rw [hN] at HS4 ⊢
      clear hN HO3 HR3 HS HSP HCH HLC HOB HL3 HNB
      have hN0 : (0 : Int) ≤ (N : Int) := by omega
      have hNI : (N : Int) ≤ 684 := by omega
      have HKP := Lib.hid (kpoly_any A4 N c4 ys w4 HS4.out (by omega))
      have HRF := Lib.hid (fun w' (h : Past w4 w') => rfirst_any A4 N c4 ys w' (HS4.out.past h) (by omega))
      have HON2 := Lib.hid (arr_one .u16 256 (n12 ys))
      have HOZ := Lib.hid (arr_one .u16 256 fun _ => 0)
      have HLR := Lib.hid (lst_len (n12 ys)).2
      have HLZ := Lib.hid (lst_len fun _ => 0).2
      have HSN2 : Hid ((arr .u16 256 fun _ => 0).size = (arr .u16 256 (n12 ys)).size) := Lib.hid (by rw [arr_size, arr_size])
      have HSNZ : Hid ((arr .u16 256 fun _ => 0).size = (arr .u16 256 fun _ => 0).size) := Lib.hid rfl
      have HI3 := Lib.hid (infP (n12 ys))
      have HIZ := Lib.hid (infP fun _ => 0)
      have HRL2 := Lib.hid (fun (w : World) (g : Nat) (h : Row w g 45 (arr .u16 256 (n12 ys))) => row_lst h)
      have HRLZ := Lib.hid (fun (w : World) (g : Nat) (h : Row w g 45 (arr .u16 256 fun _ => 0)) => row_lst h)
      have HZ2 := Lib.hid zeroP
      have HEQ := Lib.hid (eqP (fun _ => 0) (fun _ => 0) fun _ _ => rfl)
      have HEG := Lib.hid egP
      have HKB := Lib.hid (fun w => kbytes_any (n12 ys) (fun j => by have := n12_rng ys j; omega) w)
      have HVL := Lib.hid (fun (h : ∀ j, j < 256 → n12 ys j < 3329) w => valid_low (n12 ys) h (fun j => by have := n12_rng ys j; omega) w)
      have HBN := Lib.hid (fun (h1 : ys.length = 384) (h : ∀ j, j < 256 → n12 ys j < 3329) => bytesL_n12 h1 h HRY.out)
      obtain ⟨r, hr⟩ : ∃ r, firstX ys = r := ⟨_, rfl⟩
      rw [hr] at HRF
      have hrr := firstX_rng ys
      rw [hr] at hrr
      by_cases h384 : N = 384
      · by_cases hf : r = -1
        · have hok : ∀ j, j < 256 → n12 ys j < 3329 := (firstX_iff (by rw [HNL.out, h384])).1 (by rw [hr, hf])
          have e0 : polyQ ys = (.agg (arr .u16 256 (n12 ys)), true) := by
            unfold polyQ
            rw [if_pos ⟨by rw [HNL.out, h384], by rw [hr, hf]⟩]
          have HBY : Hid (bytesL (n12 ys) = ys) := Lib.hid (HBN.out (by rw [HNL.out, h384]) hok)
          have HVT := Lib.hid (fun w => HVL.out hok w)
          rw [e0] at HKP
          rw [HBY.out] at HKB
          simp only [arr_lst] at HKP HKB HSN2 HI3 HON2 HRL2 HZ2 HVT
          clear hok e0 hr hrr HVL HBN HSNZ HIZ HRLZ HEQ HEG HLZ
          generalize lst (n12 ys) = lr at *
          generalize (lst fun _ => 0) = lz at *
          subst h384 hf
          go_wp2_with fail
          refine HKP.out.mono ?_
          rintro e5 w5 ⟨rfl, hp5⟩
          have HP5 := Lib.hid (HP4.out.trans' hp5)
          have HQ5 := Lib.hid hp5
          clear hp5 HKP
          obtain ⟨u, hu⟩ : ∃ u, w5.heap.size = u := ⟨_, rfl⟩
          have hfr := fresh_row w5 45 lz.toArray lr.toArray
          have hr0 := Row.new w5 45 lz.toArray
          have hsN := HSN2.out
          have hoN := HON2.out
          have hi2 := HI3.out
          have hz := HZ2.out
          rw [hu] at hfr hr0
          obtain ⟨w7, hw7⟩ : ∃ w', (w5.alloc (.cells lz.toArray 45)).setRow u lr.toArray = w' := ⟨_, rfl⟩
          rw [hw7] at hfr
          have HP7 : Hid (Past w w7) := Lib.hid (HP5.out.trans' hfr.2)
          have HQ7 : Hid (Past w4 w7) := Lib.hid (HQ5.out.trans' hfr.2)
          have HRW : Hid (∀ w', Past w7 w' → Row w' u 45 lr.toArray) := Lib.hid (fun w' h => Row.past hfr.1 h)
          have HW7 := Lib.hid hw7
          clear hw7 hfr
          go_upto_region 5 with (refine wpList_store_row rfl 45 _ _ rfl u _ rfl rfl _ _ hr0 hi2 hsN hoN ?_)
          rw [HW7.out]
          clear HW7 hr0 hsN hoN hu hz hi2
          go_wp2_with fail
          refine (HRF.out w7 HQ7.out).mono ?_
          rintro e8 w8 ⟨rfl, hp8⟩
          have HP8 := Lib.hid (HP7.out.trans' hp8)
          have HQ8 := Lib.hid (HQ7.out.trans' hp8)
          have HRW8 : Hid (∀ w', Past w8 w' → Row w' u 45 lr.toArray) := Lib.hid (fun w' h => HRW.out w' (hp8.trans' h))
          clear hp8 HRW
          go_upto_region 7 with (fail)
          have hi2 := HI3.out
          have hrow := HRW8.out w8 (Below.refl _ _)
          go_wp2_with (refine wpList_load_row_want (by rfl) 45 _ rfl u rfl _ _ _ _ hrow Tryz.underlying45 rfl hi2 ?_)
          refine (HVT.out w8).mono ?_
          rintro e9 w9 ⟨rfl, hp9⟩
          have HP9 := Lib.hid hp9
          clear hrow
          have hrow := HRW8.out w9 hp9
          clear hp9
          go_wp2_with (refine wpList_load_row_want (by rfl) 45 _ rfl u rfl _ _ _ _ hrow Tryz.underlying45 rfl hi2 ?_)
          refine (HKB.out w9).mono ?_
          rintro e10 w10 ⟨B, nB, cB, rfl, hSB, hp10⟩
          obtain rfl : nB = 384 := by rw [← hSB.len, HNL.out]
          have HP10 := Lib.hid (HP9.out.trans' hp10)
          have HSB := Lib.hid hSB
          clear hp10 hSB hrow
          go_wp2_with fail
          refine (rsame_self _ _ 384 cB c4 ys w10 HSB.out (HS4.out.past (HQ8.out.trans' HP10.out))).mono ?_
          rintro e11 w11 ⟨rfl, m11, hw11⟩
          have HP11 : Hid (Past w8 w11) := Lib.hid (by rw [hw11]; exact HP10.out.drewN m11)
          clear hw11
          go_wp2_with fail
          go_ret
          exact ⟨rfl, HP8.out.trans' HP11.out⟩
        · have hr0 : ¬ r < 0 := by omega
          have e0 : polyQ ys = (.agg (arr .u16 256 fun _ => 0), false) := by
            unfold polyQ
            rw [if_neg (fun h => hf (by rw [← hr]; exact h.2))]
          rw [e0] at HKP
          simp only [arr_lst] at HKP HSNZ HIZ HOZ HRLZ HZ2 HEQ
          clear hf e0 hr hrr HVL HBN HSN2 HI3 HRL2 HKB HLR HON2
          generalize (lst fun _ => 0) = lz at *
          subst h384
          go_wp2_with fail
          refine HKP.out.mono ?_
          rintro e5 w5 ⟨rfl, hp5⟩
          have HP5 := Lib.hid (HP4.out.trans' hp5)
          have HQ5 := Lib.hid hp5
          clear hp5 HKP
          obtain ⟨u, hu⟩ : ∃ u, w5.heap.size = u := ⟨_, rfl⟩
          have hfr := fresh_row w5 45 lz.toArray lz.toArray
          have hr0 := Row.new w5 45 lz.toArray
          have hsN := HPL
          have hoN := HOZ.out
          have hi2 := HIZ.out
          have hz := HZ2.out
          rw [hu] at hfr hr0
          obtain ⟨w7, hw7⟩ : ∃ w', (w5.alloc (.cells lz.toArray 45)).setRow u lz.toArray = w' := ⟨_, rfl⟩
          rw [hw7] at hfr
          have HP7 : Hid (Past w w7) := Lib.hid (HP5.out.trans' hfr.2)
          have HQ7 : Hid (Past w4 w7) := Lib.hid (HQ5.out.trans' hfr.2)
          have HRW : Hid (∀ w', Past w7 w' → Row w' u 45 lz.toArray) := Lib.hid (fun w' h => Row.past hfr.1 h)
          have HW7 := Lib.hid hw7
          clear hw7 hfr
          go_upto_region 5 with (refine wpList_store_row rfl 45 _ _ rfl u _ rfl rfl _ _ hr0 hi2 rfl hoN ?_)
          rw [HW7.out]
          clear HW7 hr0 hsN hoN hu hz hi2
          go_wp2_with fail
          refine (HRF.out w7 HQ7.out).mono ?_
          rintro e8 w8 ⟨rfl, hp8⟩
          have HP8 := Lib.hid (HP7.out.trans' hp8)
          have HQ8 := Lib.hid (HQ7.out.trans' hp8)
          have HRW8 : Hid (∀ w', Past w8 w' → Row w' u 45 lz.toArray) := Lib.hid (fun w' h => HRW.out w' (hp8.trans' h))
          clear hp8 HRW
          go_upto_region 7 with (fail)
          have hi2 := HIZ.out
          have hrow := HRW8.out w8 (Below.refl _ _)
          have hz := HZ2.out
          have heq := HEQ.out
          have heg := HEG.out
          go_wp2_with (refine wpList_load_row_want (by rfl) 45 _ rfl u rfl _ _ _ _ hrow Tryz.underlying45 rfl hi2 ?_)
          go_ret
          exact ⟨rfl, HP8.out⟩
      · have h384I : ¬ (N : Int) = 384 := by omega
        have e0 : polyQ ys = (.agg (arr .u16 256 fun _ => 0), false) := by
          unfold polyQ
          rw [if_neg (fun h => h384 (by rw [← HNL.out]; exact h.1))]
        rw [e0] at HKP
        simp only [arr_lst] at HKP HSNZ HIZ HOZ HRLZ HZ2 HEQ
        clear e0 hr hrr HVL HBN HSN2 HI3 HRL2 HKB HLR HON2 h384
        generalize (lst fun _ => 0) = lz at *
        go_wp2_with fail
        refine HKP.out.mono ?_
        rintro e5 w5 ⟨rfl, hp5⟩
        have HP5 := Lib.hid (HP4.out.trans' hp5)
        have HQ5 := Lib.hid hp5
        clear hp5 HKP
        obtain ⟨u, hu⟩ : ∃ u, w5.heap.size = u := ⟨_, rfl⟩
        have hfr := fresh_row w5 45 lz.toArray lz.toArray
        have hr0 := Row.new w5 45 lz.toArray
        have hsN := HPL
        have hoN := HOZ.out
        have hi2 := HIZ.out
        have hz := HZ2.out
        rw [hu] at hfr hr0
        obtain ⟨w7, hw7⟩ : ∃ w', (w5.alloc (.cells lz.toArray 45)).setRow u lz.toArray = w' := ⟨_, rfl⟩
        rw [hw7] at hfr
        have HP7 : Hid (Past w w7) := Lib.hid (HP5.out.trans' hfr.2)
        have HQ7 : Hid (Past w4 w7) := Lib.hid (HQ5.out.trans' hfr.2)
        have HRW : Hid (∀ w', Past w7 w' → Row w' u 45 lz.toArray) := Lib.hid (fun w' h => Row.past hfr.1 h)
        have HW7 := Lib.hid hw7
        clear hw7 hfr
        go_upto_region 5 with (refine wpList_store_row rfl 45 _ _ rfl u _ rfl rfl _ _ hr0 hi2 rfl hoN ?_)
        rw [HW7.out]
        clear HW7 hr0 hsN hoN hu hz hi2
        have HP8 := HP7
        have HQ8 := HQ7
        have HRW8 := HRW
        clear HRW
        go_upto_region 7 with (fail)
        have hi2 := HIZ.out
        have hrow := HRW8.out w7 (Below.refl _ _)
        have hz := HZ2.out
        have heq := HEQ.out
        have heg := HEG.out
        go_wp2_with (refine wpList_load_row_want (by rfl) 45 _ rfl u rfl _ _ _ _ hrow Tryz.underlying45 rfl hi2 ?_)
        go_ret
        exact ⟨rfl, HP8.out⟩
    · have hbI : ¬ (n : Int) ≤ 300 := by omega
      have hbI2 : 300 < (n : Int) := by omega
      clear hs hG hC hsb hml hm hxs hS hR hb
      go_enter Tryz.func6, Tryz.ntmps6
      go_wp2_with fail
      refine (HAW.out w (Below.refl _ _)).mono ?_
      rintro e w1 ⟨rfl, hp1⟩
      have HP1 := Lib.hid hp1
      clear hp1
      go_wp2_with fail
      refine (HAW.out w1 HP1.out).mono ?_
      rintro e w2 ⟨rfl, hp2⟩
      have HP2 := Lib.hid (HP1.out.trans' hp2)
      clear hp2
      go_wp2_with fail
      go_ret
      exact ⟨rfl, HP2.out⟩
  · have hmI : ¬ (m : Int) ≤ 20 := by omega
    have hmI2 : 20 < (m : Int) := by omega
    clear hs hG hC hsb hml hm hxs hS hR
    go_enter Tryz.func6, Tryz.ntmps6
    go_wp2_with fail
    refine (HAW.out w (Below.refl _ _)).mono ?_
    rintro e w1 ⟨rfl, hp1⟩
    have HP1 := Lib.hid hp1
    clear hp1
    go_wp2_with fail
    refine (HAW.out w1 HP1.out).mono ?_
    rintro e w2 ⟨rfl, hp2⟩
    have HP2 := Lib.hid (HP1.out.trans' hp2)
    clear hp2
    go_wp2_with fail
    go_ret
    exact ⟨rfl, HP2.out⟩
def args0 : Array Value := #[.int .u32 0, .slice none 0 0, .slice none 0 0]
theorem laid_met (os : Os) : laidMetH Tryz.prog Rows.kcodeBytesRow.laid ((laidWorld os).forCall (fun _ _ => 0) ⟨#[], args0, []⟩).memory :=
  laid_world os args0
theorem witness_row (os : Os) {H : Type} (enc : TypeId × Value → H) :
    (OpenSpec.ofChange Rows.kcodeBytesSpec).preRow enc Tryz.prog Tryz.f6 Rows.kcodeBytesRow.domain false Rows.kcodeBytesRow.laid ((laidWorld os).forCall (fun _ _ => 0) ⟨#[], args0, []⟩).memory args0 := by
  have hw : (DataW.whole enc Tryz.prog ((laidWorld os).forCall (fun _ _ => 0) ⟨#[], args0, []⟩).memory Tryz.f6.params.toList (OpenSpec.ofChange Rows.kcodeBytesSpec).vars false args0.toList 8).map (fun x => (x.1, x.2.1)) =
      some ([.lit (.int .u32 0), .nil, .nil], []) := by kernel_rfl
  obtain ⟨⟨x1, x2, x3⟩, hx, hx1⟩ := Option.map_eq_some_iff.1 hw
  simp only [Prod.mk.injEq] at hx1
  obtain ⟨rfl, rfl⟩ := hx1
  exact OpenSpec.preRow_of_cond 8 hx (by kernel_rfl) (fun k hk => by cases hk) (by kernel_rfl) (laid_met os)

set_option maxRecDepth 100000 in
set_option maxHeartbeats 2000000 in
theorem lifted (os : Os) (started : os.Started) (H : Type) (enc : TypeId × Value → H) (F : Stop.Interp) :
    ReturnsInHanded {} Tryz.checked os 6 .any ((OpenSpec.ofChange Rows.kcodeBytesSpec).preRow enc Tryz.prog Tryz.f6 Rows.kcodeBytesRow.domain false Rows.kcodeBytesRow.laid) (((OpenSpec.ofChange Rows.kcodeBytesSpec).at F).post enc Tryz.prog Tryz.f6 false true false false) := by
  refine returnsInHanded_of_row (C := Tryz.checked) (s := OpenSpec.ofChange Rows.kcodeBytesSpec) own started (by kernel_rfl) Tryz.func6
    (witness_row_atRef (enc := enc) (C := Tryz.checked) false (laidWorld os) args0 rfl (by kernel_rfl) (by kernel_rfl) (by kernel_rfl) (witness_row os enc)) ?_
  intro W base args ds gs before hval0 hW _ hcnd _ hL hsh _
  have hval : ∀ (j : Nat) t v, Tryz.f6.params[j]? = some t → args[j]? = some v → Value.okWide Tryz.prog W .any base t v := hval0
  have hW' := hW
  obtain ⟨p, q, hA0, hV, rfl, hfz, hnd⟩ := hW
  have hA : DataW.TrodAll enc Tryz.prog W 0 (fun _ => true) true Tryz.f6.params.toList args.toList ds p := hA0
  rw [Tryz.params6] at hA hval
  obtain ⟨v0, vs0, d0, ds0, p0, q0, hargs, rfl, rfl, h0, r0⟩ := trodAll_cons hA
  obtain ⟨v1, vs1, d1, ds1, p1, q1, rfl, rfl, rfl, h1, r1⟩ := trodAll_cons r0
  obtain ⟨v2, vs2, d2, ds2, p2, q2, rfl, rfl, rfl, h2, r2⟩ := trodAll_cons r1
  obtain ⟨rfl, rfl, rfl⟩ := trodAll_nil r2
  obtain rfl : args = #[v0, v1, v2] := by cases args; simp_all
  obtain ⟨rfl, rfl⟩ := trodVars_none hV
  obtain ⟨a0, rfl, rfl, rfl, w0⟩ := open_int Tryz.underlying22 (hval 0 22 v0 rfl rfl) h0
  have k1 := h1
  have lt1 : ∀ x ∈ p1, x.block < W.heap.size := by obtain ⟨m, hm⟩ := k1; exact DataW.trod_lt m _ _ _ hm
  obtain ⟨fuel1, hf1⟩ := h1
  obtain ⟨a10, len10, cap10, e1⟩ := okWide_slice Tryz.underlying23 (hval 1 23 v1 rfl rfl)
  rw [e1] at hf1
  obtain ⟨a1, len1, cap1, l1, f1, bl1, w1⟩ := chs_of (by simpa [Value.cells] using hf1)
  obtain rfl : v1 = .slice a1 len1 cap1 := e1.trans f1
  have k2 := h2
  have lt2 : ∀ x ∈ p2, x.block < W.heap.size := by obtain ⟨m, hm⟩ := k2; exact DataW.trod_lt m _ _ _ hm
  obtain ⟨a2, len2, cap2, rfl⟩ := okWide_slice Tryz.underlying25 (hval 2 25 v2 rfl rfl)
  obtain ⟨z2, w2⟩ := row_of h2
  have hG := glob_of_row hL hsh
  clear hA0 hval0
  refine (walk a0 a1 len1 cap1 l1 a2 len2 cap2 z2 W w0 w1 bl1 w2 hG).mono fun e W' ⟨he, bel⟩ => ?_
  subst he
  exact ⟨_, rfl, _, _, _, [], _, [], hW', trodAll_mk1 (shut_bool Tryz.underlying4 _), (trodAll_cons_mk (shut_int Tryz.underlying22 w0) (trodAll_cons_mk (Below.trod laidOut (by kernel_rfl) (of_decide_eq_true (by kernel_rfl)) k1 bel lt1) (trodAll_cons_mk (Below.trod laidOut (by kernel_rfl) (of_decide_eq_true (by kernel_rfl)) k2 bel lt2) trodAll_mk0))), rfl, bel.frame _, fun h => by cases h⟩

theorem row_holds : Rows.KcodeBytesSaid :=
  OpenClaim.holds_of_cond 6 Tryz.f6 rfl rfl rfl rfl rfl rfl rfl ⟨rfl, rfl, rfl, rfl, rfl⟩ rfl rfl rfl rfl rfl (by kernel_rfl) Tryz.func6 (by kernel_rfl)
    (of_decide_eq_true (by kernel_rfl)) (by unfold Func.isWrapper; first | (rw [if_pos (by decide +kernel)]; kernel_rfl) | (rw [if_neg (by decide +kernel)]; exact ⟨rfl, rfl⟩))
    (fun os started H enc _ F0 => by rw [OpenClaim.pre_eq_preRow]; exact lifted os started H enc F0)

theorem card : Rows.KcodeBytesCardSaid :=
  Claim7.holds_tied_plain_at .later [] [.data, .data, .data, .data, .handle, .sentinel, .sentinel, .data, .data, .data, .data, .pinned] true Rows.kcodeBytesCard.stood.harness true
    row_holds (fun _ h => by cases h) (by kernel_rfl) (fun _ h => by cases h) kcodeBytes_row_tie rfl ⟨rfl, rfl⟩ (by kernel_rfl) rfl
    (fun f fn hf hfn => by
      obtain rfl : f = 6 := Option.some.inj ((show Tryz.prog.funcNamed "pyx/pyxlaw15.KcodeBytes" = some 6 by kernel_rfl).symm.trans hf) |>.symm
      obtain rfl : fn = Tryz.f6 := (Option.some.inj (Tryz.func6.symm.trans hfn)).symm
      exact ⟨by kernel_rfl, fun j t ht => by
        rw [Tryz.params6] at ht
        have h3 : t = 22 ∨ t = 23 ∨ t = 25 := by
          rcases j with _ | _ | _ | j
          · exact .inl (by simpa using ht.symm)
          · exact .inr (.inl (by simpa using ht.symm))
          · exact .inr (.inr (by simpa using ht.symm))
          · simp at ht
        rcases h3 with rfl | rfl | rfl
        · exact (show Tryz.prog.wantsStandIn 22 = false by kernel_rfl)
        · exact (show Tryz.prog.wantsStandIn 23 = false by kernel_rfl)
        · exact (show Tryz.prog.wantsStandIn 25 = false by kernel_rfl)⟩)
    (by kernel_rfl)

