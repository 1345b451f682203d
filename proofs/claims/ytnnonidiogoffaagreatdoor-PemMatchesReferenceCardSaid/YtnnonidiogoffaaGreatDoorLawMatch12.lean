/- For every slice of bytes the law PemMatchesReference of package pyxlaw12 returns true, where the variables hold what the program's text lays. -/
import Derived.Test.YtnnonidiogoffaaGreatDoorFrame12
import Derived.Test.YtnnonidiogoffaaGreatDoorRf12H
import Derived.Test.YtnnonidiogoffaaGreatDoorSkip10
namespace Go.Proofs.YtnnonidiogoffaaGreatDoor.pemMatches
open Go.RowKit Go.ChangeShapes Go.WideShapes Go.ChangeAt
set_option linter.unusedVariables false

theorem par_code {xs : List Int} {c : Int} (h : parP xs = .err c) : c = 3 ∨ c = 5 ∨ c = 6 := by
  unfold parP midP at h
  repeat' split at h
  all_goals first
    | (cases h; done)
    | (injection h with h; omega)
theorem conv_codes (c : Int) : (Ch.code c).val = cdV c := rfl
theorem lab_small {xs lab ys : List Int} (h : parP xs = .ok lab ys) (hr : ∀ x ∈ xs, 0 ≤ x ∧ x < 256) (hn : xs.length ≤ 3000) : lab.length ≤ 3000 ∧ ys.length ≤ 3000 ∧ sizeN lab ys.length = xs.length ∧ 1 ≤ xs.length := by
  obtain ⟨h1, h2, h3, h4⟩ := par_ok h hr
  have e := arm_len h1 h2
  rw [← h4] at e
  have h5 := List.length_pos_iff.2 h2
  have e2 : sizeN lab ys.length = lab.length + 17 + rlen 1 ys.length + (rlen 1 ys.length + 63) / 64 + (lab.length + 15) := by unfold sizeN; exact if_pos ⟨h1, h5⟩
  rw [rlen_1] at e2
  refine ⟨by omega, by omega, e.symm, by omega⟩
set_option maxHeartbeats 8000000 in
set_option maxRecDepth 100000 in
theorem walk (A : Option Addr) (n c : Nat) (zs : List Int) (w : World) (hR : IsRow .u8 w A n c zs) (hG : Glob w) :
    Calls Tryz.prog 3 #[.slice A n c] w fun e w' => e = .returned (.bool true) ∧ Past w w' := by
  have HA := Lib.hid (fun w hG => awake12 w hG)
  have HG := Lib.hid hG
  have hS := Sl.of_row hR
  obtain ⟨xs, hxs⟩ : ∃ xs, zs.take n = xs := ⟨_, rfl⟩
  rw [hxs] at hS
  clear hG hR hxs
  by_cases h1 : n ≤ 3000
  · have h1i : ¬ (3000 : Int) < (n : Int) := by omega
    have HS := Lib.hid hS
    have HP := Lib.hid (fun w h => parse_any A n c xs w h (by omega))
    have HQ := Lib.hid (fun w h => rparse_any A n c xs w h (by omega))
    have HXR := Lib.hid hS.rng
    have HXL : Hid (xs.length ≤ 3000) := Lib.hid (by rw [hS.len]; exact h1)
    cases hr : parP xs with
    | err k =>
      rw [hr] at HP HQ
      have hk := par_code hr
      have hk0 : (k == 0) = false := by simp; omega
      have hk1 : ¬ k = 0 := by omega
      have HC := Lib.hid (fun w hG => lcode_code k w hG)
      simp only [valCode] at HC
      clear hr hk h1 hS
      go_enter Tryz.func3, Tryz.ntmps3
      go_wp2_with fail
      refine (HA.out _ HG.out).mono ?_
      rintro e w1 ⟨rfl, hp⟩
      have H1 := Lib.hid hp
      clear hp
      go_wp2_with fail
      refine (HP.out _ (HS.out.past H1.out)).mono ?_
      rintro e w2 ⟨he, hp⟩
      obtain rfl := he
      have H2 : Hid (Past w w2 ∧ True) := Lib.hid ⟨H1.out.trans' hp, trivial⟩
      clear hp H1
      unfold cdV
      go_wp2_with fail
      refine (HQ.out _ (HS.out.past H2.out.1)).mono ?_
      rintro e w3 ⟨he, hp⟩
      obtain rfl := he
      have H3 : Hid (Past w w3) := Lib.hid (H2.out.1.trans' hp)
      clear hp H2
      obtain ⟨g, hg⟩ : ∃ g, w3.heap.size = g := ⟨_, rfl⟩
      obtain ⟨w4, hw4⟩ : ∃ w4, w4 = w3.alloc (.cells #[.string ⟨#[]⟩, .slice none 0 0, .int .i64 k] 29) := ⟨_, rfl⟩
      have hpw : Past w3 w4 := by rw [hw4]; exact past_allocR _ _
      have hrow : Row w4 g 29 #[.string ⟨#[]⟩, .slice none 0 0, .int .i64 k] := by rw [hw4, ← hg]; exact Row.new _ _ _
      have HW4 := Lib.hid hw4
      have HGG := Lib.hid hg
      clear hw4 hg
      go_upto_region 5 with (fail)
      rw [← HW4.out]
      try rw [HGG.out]
      clear HW4 HGG
      have H4 : Hid (Past w w4 ∧ Row w4 g 29 #[.string ⟨#[]⟩, .slice none 0 0, .int .i64 k]) := Lib.hid ⟨H3.out.trans' hpw, hrow⟩
      have hc2 := hrow.cell 2
      obtain ⟨wd, hwd⟩ : ∃ wd, wd = w4.drew := ⟨_, rfl⟩
      have hpd : Past w4 wd := by rw [hwd]; exact Past.drewN (Below.refl _ w4) 1
      have HPD : Hid (Past w wd) := Lib.hid (H4.out.1.trans' hpd)
      have HRD : Hid (Row wd g 29 #[.string ⟨#[]⟩, .slice none 0 0, .int .i64 k]) := Lib.hid (H4.out.2.past hpd)
      have y0 : wd.cell? ⟨g, 2, none⟩ = some (.int .i64 k) := HRD.out.cell 2
      have HWD := Lib.hid hwd
      clear hrow hpw H3 hpd hwd
      go_upto_region 6 with (fail)
      refine wp_region_any (by kernel_rfl) ?_
      change wpAny _ _ _ _ _ _ _ (World.drew _)
      rw [← HWD.out]
      clear HWD
      refine wpAny_take (i := 0) (v := .iface 47 (.int .i64 k)) rfl (by kernel_rfl) (by kernel_rfl) (by kernel_rfl) (fun _ _ _ h => h) (Or.inl ⟨by kernel_rfl, fun w => by kernel_rfl⟩) ?_; (try dsimp only [Act.put])
      refine wpAny_take (i := 1) (v := .bool true) rfl (by kernel_rfl) (by kernel_rfl) (by kernel_rfl) (fun _ _ _ h => h) (Or.inl ⟨by kernel_rfl, fun w => by go_simp⟩) ?_; (try dsimp only [Act.put])
      refine wpAny_take (i := 2) (v := .bool true) rfl (by kernel_rfl) (by kernel_rfl) (by kernel_rfl) (fun _ _ _ h => h) (Or.inl ⟨by kernel_rfl, fun w => by kernel_rfl⟩) ?_; (try dsimp only [Act.put])
      refine wpAny_take (i := 3) (v := .iface 47 (.int .i64 k)) rfl (by kernel_rfl) (by kernel_rfl) (by kernel_rfl) (fun _ _ _ h => h) (Or.inl ⟨by kernel_rfl, fun w => by kernel_rfl⟩) ?_; (try dsimp only [Act.put])
      refine wpAny_take (i := 5) (v := .pointer (some ⟨g, 2, none⟩)) rfl (by kernel_rfl) (by kernel_rfl) (by kernel_rfl) (fun _ _ _ h => h) (Or.inl ⟨by kernel_rfl, fun w => by go_simp⟩) ?_; (try dsimp only [Act.put])
      refine wpAny_ready (rs := [4, 6]) (by kernel_rfl) (by simp) ?_
      refine AllReady.cons rfl (fun K hK => ?_) (AllReady.cons rfl (fun K hK => ?_) AllReady.nil)
      · go_simp
        refine (HC.out _ (HG.out.past HPD.out)).mono ?_
        rintro e wb ⟨rfl, hpb⟩
        have Hb : Hid (Past w wb) := Lib.hid (HPD.out.trans' hpb)
        have y1 : wb.cell? ⟨g, 2, none⟩ = some (.int .i64 k) := (HRD.out.past hpb).cell 2
        clear hpb
        refine hK _ _ ?_
        clear hK K
        try dsimp only [Act.put]
        refine wpAny_ready (rs := [6]) (by kernel_rfl) (by simp) ?_
        refine AllReady.cons rfl (fun K hK => ?_) AllReady.nil
        go_simp
        refine hK _ _ ?_
        clear hK K
        try dsimp only [Act.put]
        refine wpAny_take (i := 7) (v := .bool true) rfl (by kernel_rfl) (by kernel_rfl) (by kernel_rfl) (fun _ _ _ h => h) (Or.inl ⟨by kernel_rfl, fun w => by go_simp⟩) ?_; (try dsimp only [Act.put])
        refine wpAny_take (i := 8) (v := .bool true) rfl (by kernel_rfl) (by kernel_rfl) (by kernel_rfl) (fun _ _ _ h => h) (Or.inl ⟨by kernel_rfl, fun w => by kernel_rfl⟩) ?_; (try dsimp only [Act.put])
        refine wpAny_take (i := 9) (v := .bool true) rfl (by kernel_rfl) (by kernel_rfl) (by kernel_rfl) (fun _ _ _ h => h) (Or.inl ⟨by kernel_rfl, fun w => by kernel_rfl⟩) ?_; (try dsimp only [Act.put])
        refine wpAny_take (i := 10) (v := .string ⟨#[]⟩) rfl (by kernel_rfl) (by kernel_rfl) (by kernel_rfl) (fun _ _ _ h => h) (Or.inl ⟨by kernel_rfl, fun w => by kernel_rfl⟩) ?_; (try dsimp only [Act.put])
        refine wpAny_take (i := 11) (v := .bool true) rfl (by kernel_rfl) (by kernel_rfl) (by kernel_rfl) (fun _ _ _ h => h) (Or.inl ⟨by kernel_rfl, fun w => by go_simp⟩) ?_; (try dsimp only [Act.put])
        refine wpAny_take (i := 12) (v := .bool true) rfl (by kernel_rfl) (by kernel_rfl) (by kernel_rfl) (fun _ _ _ h => h) (Or.inl ⟨by kernel_rfl, fun w => by kernel_rfl⟩) ?_; (try dsimp only [Act.put])
        refine wpAny_take (i := 13) (v := .bool true) rfl (by kernel_rfl) (by kernel_rfl) (by kernel_rfl) (fun _ _ _ h => h) (Or.inl ⟨by kernel_rfl, fun w => by kernel_rfl⟩) ?_; (try dsimp only [Act.put])
        refine wpAny_take (i := 14) (v := .slice none 0 0) rfl (by kernel_rfl) (by kernel_rfl) (by kernel_rfl) (fun _ _ _ h => h) (Or.inl ⟨by kernel_rfl, fun w => by kernel_rfl⟩) ?_; (try dsimp only [Act.put])
        refine wpAny_take (i := 15) (v := .int .i64 0) rfl (by kernel_rfl) (by kernel_rfl) (by kernel_rfl) (fun _ _ _ h => h) (Or.inl ⟨by kernel_rfl, fun w => by go_simp⟩) ?_; (try dsimp only [Act.put])
        refine wpAny_take (i := 16) (v := .bool true) rfl (by kernel_rfl) (by kernel_rfl) (by kernel_rfl) (fun _ _ _ h => h) (Or.inl ⟨by kernel_rfl, fun w => by go_simp⟩) ?_; (try dsimp only [Act.put])
        refine wpAny_take (i := 17) (v := .bool true) rfl (by kernel_rfl) (by kernel_rfl) (by kernel_rfl) (fun _ _ _ h => h) (Or.inl ⟨by kernel_rfl, fun w => by kernel_rfl⟩) ?_; (try dsimp only [Act.put])
        refine wpAny_take (i := 18) (v := .bool true) rfl (by kernel_rfl) (by kernel_rfl) (by kernel_rfl) (fun _ _ _ h => h) (Or.inl ⟨by kernel_rfl, fun w => by kernel_rfl⟩) ?_; (try dsimp only [Act.put])
        refine wpAny_done (by kernel_rfl) ?_ _
        go_simp
        go_wp2_with fail
        go_ret
        exact ⟨rfl, Hb.out⟩
      · go_simp
        refine hK _ _ ?_
        clear hK K
        try dsimp only [Act.put]
        refine wpAny_ready (rs := [4]) (by kernel_rfl) (by simp) ?_
        refine AllReady.cons rfl (fun K hK => ?_) AllReady.nil
        go_simp
        refine (HC.out _ (HG.out.past HPD.out)).mono ?_
        rintro e wb ⟨rfl, hpb⟩
        have Hb : Hid (Past w wb) := Lib.hid (HPD.out.trans' hpb)
        have y1 : wb.cell? ⟨g, 2, none⟩ = some (.int .i64 k) := (HRD.out.past hpb).cell 2
        clear hpb
        refine hK _ _ ?_
        clear hK K
        try dsimp only [Act.put]
        refine wpAny_take (i := 7) (v := .bool true) rfl (by kernel_rfl) (by kernel_rfl) (by kernel_rfl) (fun _ _ _ h => h) (Or.inl ⟨by kernel_rfl, fun w => by go_simp⟩) ?_; (try dsimp only [Act.put])
        refine wpAny_take (i := 8) (v := .bool true) rfl (by kernel_rfl) (by kernel_rfl) (by kernel_rfl) (fun _ _ _ h => h) (Or.inl ⟨by kernel_rfl, fun w => by kernel_rfl⟩) ?_; (try dsimp only [Act.put])
        refine wpAny_take (i := 9) (v := .bool true) rfl (by kernel_rfl) (by kernel_rfl) (by kernel_rfl) (fun _ _ _ h => h) (Or.inl ⟨by kernel_rfl, fun w => by kernel_rfl⟩) ?_; (try dsimp only [Act.put])
        refine wpAny_take (i := 10) (v := .string ⟨#[]⟩) rfl (by kernel_rfl) (by kernel_rfl) (by kernel_rfl) (fun _ _ _ h => h) (Or.inl ⟨by kernel_rfl, fun w => by kernel_rfl⟩) ?_; (try dsimp only [Act.put])
        refine wpAny_take (i := 11) (v := .bool true) rfl (by kernel_rfl) (by kernel_rfl) (by kernel_rfl) (fun _ _ _ h => h) (Or.inl ⟨by kernel_rfl, fun w => by go_simp⟩) ?_; (try dsimp only [Act.put])
        refine wpAny_take (i := 12) (v := .bool true) rfl (by kernel_rfl) (by kernel_rfl) (by kernel_rfl) (fun _ _ _ h => h) (Or.inl ⟨by kernel_rfl, fun w => by kernel_rfl⟩) ?_; (try dsimp only [Act.put])
        refine wpAny_take (i := 13) (v := .bool true) rfl (by kernel_rfl) (by kernel_rfl) (by kernel_rfl) (fun _ _ _ h => h) (Or.inl ⟨by kernel_rfl, fun w => by kernel_rfl⟩) ?_; (try dsimp only [Act.put])
        refine wpAny_take (i := 14) (v := .slice none 0 0) rfl (by kernel_rfl) (by kernel_rfl) (by kernel_rfl) (fun _ _ _ h => h) (Or.inl ⟨by kernel_rfl, fun w => by kernel_rfl⟩) ?_; (try dsimp only [Act.put])
        refine wpAny_take (i := 15) (v := .int .i64 0) rfl (by kernel_rfl) (by kernel_rfl) (by kernel_rfl) (fun _ _ _ h => h) (Or.inl ⟨by kernel_rfl, fun w => by go_simp⟩) ?_; (try dsimp only [Act.put])
        refine wpAny_take (i := 16) (v := .bool true) rfl (by kernel_rfl) (by kernel_rfl) (by kernel_rfl) (fun _ _ _ h => h) (Or.inl ⟨by kernel_rfl, fun w => by go_simp⟩) ?_; (try dsimp only [Act.put])
        refine wpAny_take (i := 17) (v := .bool true) rfl (by kernel_rfl) (by kernel_rfl) (by kernel_rfl) (fun _ _ _ h => h) (Or.inl ⟨by kernel_rfl, fun w => by kernel_rfl⟩) ?_; (try dsimp only [Act.put])
        refine wpAny_take (i := 18) (v := .bool true) rfl (by kernel_rfl) (by kernel_rfl) (by kernel_rfl) (fun _ _ _ h => h) (Or.inl ⟨by kernel_rfl, fun w => by kernel_rfl⟩) ?_; (try dsimp only [Act.put])
        refine wpAny_done (by kernel_rfl) ?_ _
        go_simp
        go_wp2_with fail
        go_ret
        exact ⟨rfl, Hb.out⟩
    | ok lab ys =>
      rw [hr] at HP HQ
      obtain ⟨l1, l2, l3, l4⟩ := lab_small hr hS.rng HXL.out
      obtain ⟨p1, p2, p3, p4⟩ := par_ok hr hS.rng
      have hlr : ∀ x ∈ lab, 0 ≤ x ∧ x < 256 := fun x hx => by
        have := up_rng (labB_in p1 x hx)
        omega
      have HLI : Hid (ints (txt lab) = lab) := Lib.hid (ints_txt hlr)
      have HLZ : Hid ((txt lab).size ≤ 1000000) := Lib.hid (by rw [tsz]; omega)
      have HYL : Hid (ys.length ≤ 1000000) := Lib.hid (by omega)
      have HSZ : Hid (¬ (sizeN lab ys.length = 0 ∨ 1048576 < sizeN lab ys.length)) := Lib.hid (by have := HXL.out; omega)
      have HXE : Hid (armL lab ys = xs) := Lib.hid p4.symm
      obtain ⟨LT, hLT⟩ : ∃ LT, txt lab = LT := ⟨_, rfl⟩
      have HLTX := Lib.hid hLT
      rw [hLT] at HLI HLZ
      have heq : (LT.toList == LT.toList) = true := by simp
      clear hr h1 l1 l2 l3 l4 p1 p2 p3 p4 hlr hS hLT
      go_enter Tryz.func3, Tryz.ntmps3
      go_wp2_with fail
      refine (HA.out _ HG.out).mono ?_
      rintro e w1 ⟨rfl, hp⟩
      have H1 := Lib.hid hp
      clear hp
      go_wp2_with fail
      refine (HP.out _ (HS.out.past H1.out)).mono ?_
      rintro e w2 ⟨he, hp⟩
      obtain ⟨A5, m5, c5, rfl, hS5⟩ := he
      rw [HLTX.out]
      have hm5 : m5 = ys.length := hS5.len.symm
      have HM5 := Lib.hid hm5
      have H2 : Hid (Past w w2 ∧ Sl w2 A5 m5 c5 ys) := Lib.hid ⟨H1.out.trans' hp, hS5⟩
      clear hp H1 hS5 hm5
      go_wp2_with fail
      refine (HQ.out _ (HS.out.past H2.out.1)).mono ?_
      rintro e w3 ⟨he, hp⟩
      obtain ⟨A6, m6, c6, rfl, hS6⟩ := he
      rw [HLTX.out]
      have H3 : Hid (Past w w3 ∧ Sl w3 A5 m5 c5 ys ∧ Sl w3 A6 m6 c6 ys) := Lib.hid ⟨H2.out.1.trans' hp, H2.out.2.past hp, hS6⟩
      clear hp H2 hS6
      obtain ⟨g, hg⟩ : ∃ g, w3.heap.size = g := ⟨_, rfl⟩
      obtain ⟨w4, hw4⟩ : ∃ w4, w4 = w3.alloc (.cells #[.string LT, .slice A6 m6 c6, .int .i64 0] 29) := ⟨_, rfl⟩
      have hpw : Past w3 w4 := by rw [hw4]; exact past_allocR _ _
      have hrow : Row w4 g 29 #[.string LT, .slice A6 m6 c6, .int .i64 0] := by rw [hw4, ← hg]; exact Row.new _ _ _
      have HW4 := Lib.hid hw4
      have HGG := Lib.hid hg
      clear hw4 hg
      go_upto_region 5 with (fail)
      rw [← HW4.out]
      try rw [HGG.out]
      clear HW4 HGG
      have H4 : Hid (Past w w4 ∧ Sl w4 A5 m5 c5 ys ∧ Sl w4 A6 m6 c6 ys ∧ Row w4 g 29 #[.string LT, .slice A6 m6 c6, .int .i64 0]) := Lib.hid ⟨H3.out.1.trans' hpw, H3.out.2.1.past hpw, H3.out.2.2.past hpw, hrow⟩
      have hc2 := hrow.cell 2
      clear hrow hpw H3
      go_wp2_with fail
      refine (encode_any LT A5 m5 c5 ys w4 H4.out.2.1 HLZ.out (by rw [HM5.out]; exact HYL.out)).mono ?_
      rintro e w5 ⟨he, hp⟩
      rw [HLI.out, HM5.out, if_neg HSZ.out, HXE.out] at he
      obtain ⟨P, m, cc, rfl, hSP⟩ := he
      have H5 : Hid (Past w w5 ∧ Sl w5 A5 m5 c5 ys ∧ Sl w5 A6 m6 c6 ys ∧ Row w5 g 29 #[.string LT, .slice A6 m6 c6, .int .i64 0] ∧ Sl w5 P m cc xs) := Lib.hid ⟨H4.out.1.trans' hp, H4.out.2.1.past hp, H4.out.2.2.1.past hp, H4.out.2.2.2.past hp, hSP⟩
      clear hp hSP H4 hc2
      have hc0 := H5.out.2.2.2.1.cell 0
      have hc1 := H5.out.2.2.2.1.cell 1
      go_wp2_with fail
      refine (rsame_any A5 A6 m5 m6 c5 c6 ys ys w5 H5.out.2.1 H5.out.2.2.1).mono ?_
      rintro e w6 ⟨rfl, q6, hw6⟩
      rw [sameB_refl]
      have hp6 : Past w5 w6 := by rw [hw6]; exact Past.drewN (Below.refl _ _) q6
      have H6 : Hid (Past w w6 ∧ Sl w6 P m cc xs) := Lib.hid ⟨H5.out.1.trans' hp6, H5.out.2.2.2.2.past hp6⟩
      clear hw6 hp6 H5 hc0 hc1
      go_wp2_with fail
      refine (rsame_any P A m n cc c xs xs w6 H6.out.2 (HS.out.past H6.out.1)).mono ?_
      rintro e w7 ⟨rfl, q7, hw7⟩
      rw [sameB_refl]
      have hp7 : Past w6 w7 := by rw [hw7]; exact Past.drewN (Below.refl _ _) q7
      have H7 : Hid (Past w w7) := Lib.hid (H6.out.1.trans' hp7)
      clear hw7 hp7 H6
      go_wp2_with fail
      go_ret
      exact ⟨rfl, H7.out⟩
  · have h1i : (3000 : Int) < (n : Int) := by omega
    clear h1 hS
    go_enter Tryz.func3, Tryz.ntmps3
    go_wp2_with fail
    refine (HA.out _ HG.out).mono ?_
    rintro e w1 ⟨rfl, hp⟩
    have H1 := Lib.hid hp
    clear hp
    go_wp2_with fail
    refine (HA.out _ (HG.out.past H1.out)).mono ?_
    rintro e w2 ⟨rfl, hp⟩
    have H2 : Hid (Past w w2) := Lib.hid (H1.out.trans' hp)
    clear hp H1
    go_wp2_with fail
    go_ret
    exact ⟨rfl, H2.out⟩


def args0 : Array Value := #[.slice none 0 0]
theorem laid_met (os : Os) : laidMetH Tryz.prog Rows.pemMatchesReferenceRow.laid ((laidWorld os).forCall (fun _ _ => 0) ⟨#[], args0, []⟩).memory :=
  laid_world os args0
theorem witness_row (os : Os) {H : Type} (enc : TypeId × Value → H) :
    (OpenSpec.ofChange Rows.pemMatchesReferenceSpec).preRow enc Tryz.prog Tryz.f3 Rows.pemMatchesReferenceRow.domain false Rows.pemMatchesReferenceRow.laid ((laidWorld os).forCall (fun _ _ => 0) ⟨#[], args0, []⟩).memory args0 := by
  have hw : (DataW.whole enc Tryz.prog ((laidWorld os).forCall (fun _ _ => 0) ⟨#[], args0, []⟩).memory Tryz.f3.params.toList (OpenSpec.ofChange Rows.pemMatchesReferenceSpec).vars false args0.toList 8).map (fun x => (x.1, x.2.1)) =
      some ([.nil], []) := by kernel_rfl
  obtain ⟨⟨x1, x2, x3⟩, hx, hx1⟩ := Option.map_eq_some_iff.1 hw
  simp only [Prod.mk.injEq] at hx1
  obtain ⟨rfl, rfl⟩ := hx1
  exact OpenSpec.preRow_of_cond 8 hx (by kernel_rfl) (fun k hk => by cases hk) (by kernel_rfl) (laid_met os)

set_option maxRecDepth 100000 in
set_option maxHeartbeats 2000000 in
theorem lifted (os : Os) (started : os.Started) (H : Type) (enc : TypeId × Value → H) (F : Stop.Interp) :
    ReturnsInHanded {} Tryz.checked os 3 .any ((OpenSpec.ofChange Rows.pemMatchesReferenceSpec).preRow enc Tryz.prog Tryz.f3 Rows.pemMatchesReferenceRow.domain false Rows.pemMatchesReferenceRow.laid) (((OpenSpec.ofChange Rows.pemMatchesReferenceSpec).at F).post enc Tryz.prog Tryz.f3 false true false false) := by
  refine returnsInHanded_of_row (C := Tryz.checked) (s := OpenSpec.ofChange Rows.pemMatchesReferenceSpec) own started (by kernel_rfl) Tryz.func3
    (witness_row_atRef (enc := enc) (C := Tryz.checked) false (laidWorld os) args0 rfl (by kernel_rfl) (by kernel_rfl) (by kernel_rfl) (witness_row os enc)) ?_
  intro W base args ds gs before hval0 hW _ hcnd _ hL hsh _
  have hval : ∀ (j : Nat) t v, Tryz.f3.params[j]? = some t → args[j]? = some v → Value.okWide Tryz.prog W .any base t v := hval0
  have hW' := hW
  obtain ⟨p, q, hA0, hV, rfl, hfz, hnd⟩ := hW
  have hA : DataW.TrodAll enc Tryz.prog W 0 (fun _ => true) true Tryz.f3.params.toList args.toList ds p := hA0
  rw [Tryz.params3] at hA hval
  obtain ⟨v0, vs0, d0, ds0, p0, q0, hargs, rfl, rfl, h0, r0⟩ := trodAll_cons hA
  obtain ⟨rfl, rfl, rfl⟩ := trodAll_nil r0
  obtain rfl : args = #[v0] := by cases args; simp_all
  obtain ⟨rfl, rfl⟩ := trodVars_none hV
  have k0 := h0
  have lt0 : ∀ x ∈ p0, x.block < W.heap.size := by obtain ⟨m, hm⟩ := k0; exact DataW.trod_lt m _ _ _ hm
  obtain ⟨a0, len0, cap0, rfl⟩ := okWide_slice Tryz.underlying22 (hval 0 22 v0 rfl rfl)
  obtain ⟨z0, w0⟩ := row_of h0
  have hG := glob_of_row hL hsh
  clear hA0 hval0
  refine (walk a0 len0 cap0 z0 W w0 hG).mono fun e W' ⟨he, bel⟩ => ?_
  subst he
  exact ⟨_, rfl, _, _, _, [], _, [], hW', trodAll_mk1 (shut_bool Tryz.underlying4 _), (trodAll_cons_mk (Below.trod laidOut (by kernel_rfl) (of_decide_eq_true (by kernel_rfl)) k0 bel lt0) trodAll_mk0), rfl, bel.frame _, fun h => by cases h⟩

theorem row_holds : Rows.PemMatchesReferenceSaid :=
  OpenClaim.holds_of_cond 3 Tryz.f3 rfl rfl rfl rfl rfl rfl rfl ⟨rfl, rfl, rfl, rfl, rfl⟩ rfl rfl rfl rfl rfl (by kernel_rfl) Tryz.func3 (by kernel_rfl)
    (of_decide_eq_true (by kernel_rfl)) (by unfold Func.isWrapper; first | (rw [if_pos (by decide +kernel)]; kernel_rfl) | (rw [if_neg (by decide +kernel)]; exact ⟨rfl, rfl⟩))
    (fun os started H enc _ F0 => by rw [OpenClaim.pre_eq_preRow]; exact lifted os started H enc F0)

theorem card : Rows.PemMatchesReferenceCardSaid :=
  Claim7.holds_tied_plain_at .later [] [.data, .handle, .pinned] true Rows.pemMatchesReferenceCard.stood.harness true
    row_holds (fun _ h => by cases h) (by kernel_rfl) (fun _ h => by cases h) pemMatchesReference_row_tie rfl ⟨rfl, rfl⟩ (by kernel_rfl) rfl
    (fun f fn hf hfn => by
      obtain rfl : f = 3 := Option.some.inj ((show Tryz.prog.funcNamed "pyx/pyxlaw12.PemMatchesReference" = some 3 by kernel_rfl).symm.trans hf) |>.symm
      obtain rfl : fn = Tryz.f3 := (Option.some.inj (Tryz.func3.symm.trans hfn)).symm
      exact ⟨by kernel_rfl, fun j t ht => by
        rw [Tryz.params3] at ht
        obtain rfl : t = 22 := by
          rcases j with _ | j
          · simpa using ht.symm
          · simp at ht
        exact (show Tryz.prog.wantsStandIn 22 = false by kernel_rfl)⟩)
    (by kernel_rfl)


end Go.Proofs.YtnnonidiogoffaaGreatDoor.pemMatches
