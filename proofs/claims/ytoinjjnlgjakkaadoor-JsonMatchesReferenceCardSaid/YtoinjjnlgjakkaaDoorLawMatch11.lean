/- For every slice of bytes the law JsonMatchesReference of package pyxlaw11 returns true and leaves its argument alone, where the variables hold what the program's text lays. -/
import Derived.Test.YtoinjjnlgjakkaaDoorFrame11P
import Derived.Test.YtoinjjnlgjakkaaDoorSame11
import Derived.Deep.RegionLaw
import Derived.Deep.Cut
namespace Go.Proofs.YtoinjjnlgjakkaaDoor.jsonMatches
open Go.RowKit Go.ChangeShapes Go.WideShapes Go.ChangeAt
set_option linter.unusedVariables false

/-- What both readers answer to a string that is none: the same code and offset. -/
theorem badC_wrong {n k s : Nat} (h9 : s ≠ 9) (hk : k ≤ n) : wrongC n k = (badC n k s, k) := by
  unfold wrongC badC
  by_cases h : n ≤ k
  · rw [if_pos h, if_neg (by omega), show n = k by omega]
  · rw [if_neg h, if_pos (by omega), if_neg h9]
theorem read_le (xs : List Int) {k s : Nat} (h : readS xs 0 0 = (k, s)) : k ≤ xs.length := by
  have := (readS_ge xs 0 0).2
  rw [h] at this
  simp only at this
  omega
theorem badC_pos (n k s : Nat) : badC n k s ≠ 0 := by
  unfold badC
  repeat' split
  all_goals omega

/-- A string that both refuse. -/
def RefBad (A : Option Addr) (n c : Nat) (cc aa : Nat) (w : World) : Prop := ∀ W, Past w W → Calls Tryd.prog 7 #[.slice A n c] W fun e w' => e = .returned (bad11 cc aa) ∧ Past W w'
theorem ref_bad (A : Option Addr) (n c : Nat) (xs : List Int) (w : World) (hS : Sl w A n c xs) (hn : n ≤ 2000) (k s : Nat) (hr : readS xs 0 0 = (k, s)) (hb : k < n ∨ s ≠ 9) : RefBad A n c (badC n k s) k w := by
  intro W0 hp0
  by_cases h9 : s = 9
  · subst h9
    have hk : k < n := hb.resolve_right (fun h => h rfl)
    have e4 : badC n k 9 = 4 := by unfold badC; rw [if_pos hk, if_pos rfl]
    rw [e4]
    refine rparse_trail A n c xs W0 (by omega) k hk fun W hW => ?_
    refine (rread_any A n c xs W (hS.past (hp0.trans' hW)) (by omega)).mono fun e w' h => ?_
    rcases h with ⟨k', s', rfl, h2, h3, _⟩ | ⟨l, p, A1, n1, c1, A2, n2, c2, rfl, _, _, h2, _, _, _, h4⟩
    · rw [hr] at h2
      injection h2 with e1 e2
      exact absurd e2.symm h3
    · rw [hr] at h2
      injection h2 with e1 e2
      subst e1
      exact ⟨⟨_, _, _, _, _, _, rfl⟩, h4⟩
  · have hw := badC_wrong (n := n) h9 (by have := read_le xs hr; rw [hS.len] at this; exact this)
    refine rparse_bad A n c xs W0 (by omega) _ k (badC_pos n k s) fun W hW => ?_
    refine (rread_any A n c xs W (hS.past (hp0.trans' hW)) (by omega)).mono fun e w' h => ?_
    rcases h with ⟨k', s', rfl, h2, h3, h4⟩ | ⟨l, p, A1, n1, c1, A2, n2, c2, rfl, _, _, h2, _⟩
    · rw [hr] at h2
      injection h2 with e1 e2
      subst e1
      refine ⟨?_, h4⟩
      rw [hw]
    · rw [hr] at h2
      injection h2 with e1 e2
      exact absurd e2 h9
theorem ref_ok (A : Option Addr) (n c : Nat) (l : List P2) (w : World) (hS : Sl w A n c (textI l)) (hn : n ≤ 2000) (hl : Loose l) (hr : readS (textI l) 0 0 = (n, 9)) (hm : l.length ≤ 1000000) : Calls Tryd.prog 7 #[.slice A n c] w (RokP w l) := by
  refine rparse_ok A n c l w (by omega) hm fun W hW => ?_
  refine (rread_any A n c (textI l) W (hS.past hW) (by omega)).mono fun e w' h => ?_
  rcases h with ⟨k', s', rfl, h2, h3, h4⟩ | ⟨l', p, A1, n1, c1, A2, n2, c2, rfl, h1, ht, h2, h3, h4, h5, h6⟩
  · rw [hr] at h2
    injection h2 with e1 e2
    exact absurd e2.symm h3
  · rw [hr] at h2
    injection h2 with e1 e2
    subst e1
    rw [List.take_of_length_le (by rw [hS.len]; exact Nat.le_refl _)] at ht
    have e := text_inj hl h1 ht
    subst e
    have hl1 := h4.len
    subst hl1
    exact ⟨⟨A1, c1, A2, n2, c2, rfl, h4, h5⟩, h6⟩

set_option maxHeartbeats 8000000 in
set_option maxRecDepth 100000 in
/-- The law where both answer an error. -/
theorem walk_bad (A : Option Addr) (n c : Nat) (xs : List Int) (w : World) (hS : Sl w A n c xs) (hn : n ≤ 2000) (hG : Glob11 w) (cc aa : Nat) (h0 : cc ≠ 0) (ha : aa ≤ 1000000)
    (hP : ∀ W, Past w W → Calls Tryd.prog 6 #[.slice A n c] W fun e w' => e = .returned (.tuple #[.slice none 0 0, (Ch.flt (cc : Int) (aa : Int)).val]) ∧ Past W w') (hR : RefBad A n c cc aa w) :
    Calls Tryd.prog 3 #[.slice A n c] w fun e w' => e = .returned (.bool true) ∧ Past w w' := by
  have HA := Lib.hid (fun w hG => awake11 w hG)
  have HG := Lib.hid hG
  simp only [valFlt] at hP
  have HP := Lib.hid hP
  have HR := Lib.hid hR
  have HTo := Lib.hid (fun w hG => ltold_flt (cc : Int) (aa : Int) w hG (by omega))
  simp only [valFlt] at HTo
  have hni : ¬ (2000 : Int) < (n : Int) := by omega
  have hcb : ((cc : Int) != 0) = true := by simp; omega
  have hcc : ((cc : Int) == 0) = false := by simp; omega
  clear hS hG hP hR hn h0 ha
  go_enter Tryd.func3, Tryd.ntmps3
  go_wp2_with fail
  refine (HA.out _ HG.out).mono ?_
  rintro e w1 ⟨rfl, hp⟩
  have H1 := Lib.hid hp
  clear hp
  go_wp2_with fail
  refine (HP.out _ H1.out).mono ?_
  rintro e w2 ⟨rfl, hp⟩
  have H2 := Lib.hid (H1.out.trans' hp)
  clear hp H1
  go_wp2_with fail
  refine (HR.out _ H2.out).mono ?_
  rintro e w3 ⟨rfl, hp⟩
  have H3 := Lib.hid (H2.out.trans' hp)
  clear hp H2
  go_wp2_with fail
  refine (HTo.out _ (HG.out.err.past (H3.out.trans' (past_alloc8 _ _)))).mono ?_
  rintro e w4 ⟨rfl, hp⟩
  have H4 := Lib.hid ((H3.out.trans' (past_alloc8 _ _)).trans' hp)
  clear hp H3
  go_wp2_with fail
  go_ret
  exact ⟨rfl, H4.out⟩

set_option maxHeartbeats 8000000 in
set_option maxRecDepth 100000 in
/-- The law where the string is the text of pairs that are an object. -/
theorem walk_ok (A : Option Addr) (n c : Nat) (l : List P2) (w : World) (hS : Sl w A n c (textI l)) (hn : n ≤ 2000) (hG : Glob11 w) (hl : Loose l) (hr : readS (textI l) 0 0 = (n, 9)) (hk : chk l = none) :
    Calls Tryd.prog 3 #[.slice A n c] w fun e w' => e = .returned (.bool true) ∧ Past w w' := by
  have HA := Lib.hid (fun w hG => awake11 w hG)
  have HG := Lib.hid hG
  have hlen := hS.len
  have hL : lenL l = n := by rw [← text_len, hlen]
  have hm : l.length ≤ 2000 := by have := len_lenL l; omega
  have hv := chk_vld hl hk (by omega)
  have HP := Lib.hid (fun w h hG => parse_acc A n c l w h hG (by omega) hl hr)
  have HR := Lib.hid (fun w h => ref_ok A n c l w h hn hl hr (by omega))
  have HK := Lib.hid hk
  have HV := Lib.hid hv
  have HSL := Lib.hid hS
  have HEn := Lib.hid (fun A c w h => encode11_any A l.length c l w h (by omega))
  have HBk := Lib.hid (fun A c w h => back_any A l.length c l w h (by omega))
  have HSa := Lib.hid (fun A B c d w h h2 => rsame11_any A B l.length c l.length d l l w h h2)
  have hsm : sameP l l = true := decide_eq_true rfl
  rw [hsm] at HSa
  have HS1 := Lib.hid (fun A1 c1 w (h1 : Sl w A1 (textI l).length c1 (textI l)) h2 => rsame_any A1 A (textI l).length n c1 c (textI l) (textI l) w h1 h2)
  rw [sameB_refl] at HS1
  have hni : ¬ (2000 : Int) < (n : Int) := by omega
  obtain ⟨m, hm'⟩ : ∃ m, l.length = m := ⟨_, rfl⟩
  obtain ⟨M, hM⟩ : ∃ M, (textI l).length = M := ⟨_, rfl⟩
  have HM := Lib.hid hM
  have HMM := Lib.hid hm'
  rw [hm'] at HEn HBk HSa
  rw [hM] at HS1
  clear hS hG hl hr hk hn hlen hL hm hv hsm hm' hM
  go_enter Tryd.func3, Tryd.ntmps3
  go_wp2_with fail
  refine (HA.out _ HG.out).mono ?_
  rintro e w1 ⟨rfl, hp⟩
  have H1 := Lib.hid hp
  clear hp
  go_wp2_with fail
  refine (HP.out _ (HSL.out.past H1.out) (HG.out.past H1.out)).mono ?_
  rintro e w2 ⟨_, he, hp⟩
  obtain ⟨A2, c2, rfl, hps⟩ := he HK.out
  rw [HMM.out] at hps ⊢
  have H2 := Lib.hid (And.intro (H1.out.trans' hp) hps)
  clear hp he hps H1
  go_wp2_with fail
  refine (HR.out _ (HSL.out.past H2.out.1)).mono ?_
  rintro e w3 ⟨_, he, hp⟩
  obtain ⟨A3, n3, c3, A4, n4, c4, p4, rfl, hps⟩ := he HK.out
  have hn3 : n3 = m := by have := hps.len; rw [HMM.out] at this; exact this.symm
  subst hn3
  obtain ⟨h, hh⟩ : ∃ h, w3.heap.size = h := ⟨_, rfl⟩
  obtain ⟨W, hW⟩ : ∃ W, W = w3.alloc (.cells #[.slice A3 n3 c3, .slice A4 n4 c4, .int .i64 0, .int .i64 (p4 : Int)] 32) := ⟨_, rfl⟩
  have hpW : Past w3 W := by rw [hW]; exact past_alloc8 _ _
  have HRH : Hid (Row W h 32 #[.slice A3 n3 c3, .slice A4 n4 c4, .int .i64 0, .int .i64 (p4 : Int)]) := Lib.hid (by rw [hW, ← hh]; exact Row.new _ _ _)
  have H3 : Hid (Past w W ∧ Ps W A2 n3 c2 l ∧ Ps W A3 n3 c3 l) := Lib.hid ⟨(H2.out.1.trans' hp).trans' hpW, (H2.out.2.past hp).past hpW, hps.past hpW⟩
  have HWW := Lib.hid hW
  clear hp he hps H2 hpW hW
  go_wp2_with fail
  rw [← HWW.out]
  clear HWW
  refine (HEn.out _ _ _ H3.out.2.1).mono ?_
  rintro e w5 ⟨he, _, hp⟩
  obtain ⟨A5, c5, rfl, hsl⟩ := he HV.out
  rw [HM.out] at hsl ⊢
  have H5 : Hid (Past w w5 ∧ Ps w5 A2 n3 c2 l ∧ Ps w5 A3 n3 c3 l ∧ Sl w5 A5 M c5 (textI l) ∧ Row w5 h 32 #[.slice A3 n3 c3, .slice A4 n4 c4, .int .i64 0, .int .i64 (p4 : Int)]) := Lib.hid ⟨H3.out.1.trans' hp, H3.out.2.1.past hp, H3.out.2.2.past hp, hsl, HRH.out.past hp⟩
  clear hp he hsl H3 HRH
  obtain ⟨wd, hwd⟩ : ∃ wd, wd = w5.drew := ⟨_, rfl⟩
  have HD : Hid (Past w5 wd) := Lib.hid (by rw [hwd]; exact Past.drewN (Below.refl _ w5) 1)
  have HWD := Lib.hid hwd
  clear hwd
  have y0 : wd.cell? ⟨h, 0, none⟩ = some (.slice A3 n3 c3) := (H5.out.2.2.2.2.past HD.out).cell 0
  go_upto_region 8 with (fail)
  refine wp_region_any (by kernel_rfl) ?_
  change wpAny _ _ _ _ _ _ _ (World.drew _)
  rw [← HWD.out]
  clear HWD
  refine wpAny_take (i := 0) (v := .nilIface) rfl (by kernel_rfl) (by kernel_rfl) (by kernel_rfl) (fun _ _ _ h => h) (Or.inl ⟨by kernel_rfl, fun w => by kernel_rfl⟩) ?_; (try dsimp only [Act.put])
  refine wpAny_take (i := 1) (v := .bool true) rfl (by kernel_rfl) (by kernel_rfl) (by kernel_rfl) (fun _ _ _ h => h) (Or.inl ⟨by kernel_rfl, fun w => by go_simp⟩) ?_; (try dsimp only [Act.put])
  refine wpAny_take (i := 2) (v := .bool true) rfl (by kernel_rfl) (by kernel_rfl) (by kernel_rfl) (fun _ _ _ h => h) (Or.inl ⟨by kernel_rfl, fun w => by kernel_rfl⟩) ?_; (try dsimp only [Act.put])
  refine wpAny_take (i := 3) (v := .slice A2 n3 c2) rfl (by kernel_rfl) (by kernel_rfl) (by kernel_rfl) (fun _ _ _ h => h) (Or.inl ⟨by kernel_rfl, fun w => by kernel_rfl⟩) ?_; (try dsimp only [Act.put])
  refine wpAny_take (i := 5) (v := .pointer (some ⟨h, 0, none⟩)) rfl (by kernel_rfl) (by kernel_rfl) (by kernel_rfl) (fun _ _ _ h => h) (Or.inl ⟨by kernel_rfl, fun w => by go_simp⟩) ?_; (try dsimp only [Act.put])
  refine wpAny_ready (rs := [4, 6]) (by kernel_rfl) (by simp) ?_
  refine AllReady.cons rfl (fun K hK => ?_) (AllReady.cons rfl (fun K hK => ?_) AllReady.nil)
  · go_simp
    refine (HBk.out _ _ _ (H5.out.2.1.past HD.out)).mono ?_
    rintro e wb ⟨Ab, cb, rfl, hpsb, hpb⟩
    have Hb : Hid (Past w wb ∧ Ps wb Ab n3 cb l ∧ Ps wb A3 n3 c3 l ∧ Sl wb A5 M c5 (textI l)) := Lib.hid ⟨(H5.out.1.trans' HD.out).trans' hpb, hpsb, (H5.out.2.2.1.past HD.out).past hpb, (H5.out.2.2.2.1.past HD.out).past hpb⟩
    have y1 : wb.cell? ⟨h, 0, none⟩ = some (.slice A3 n3 c3) := ((H5.out.2.2.2.2.past HD.out).past hpb).cell 0
    clear hpsb hpb
    refine hK _ _ ?_
    clear hK K
    try dsimp only [Act.put]
    refine wpAny_ready (rs := [6]) (by kernel_rfl) (by simp) ?_
    refine AllReady.cons rfl (fun K hK => ?_) AllReady.nil
    go_simp
    refine hK _ _ ?_
    clear hK K
    try dsimp only [Act.put]
    refine wpAny_ready (rs := [7]) (by kernel_rfl) (by simp) ?_
    refine AllReady.cons rfl (fun K hK => ?_) AllReady.nil
    go_simp
    refine (HSa.out _ _ _ _ _ Hb.out.2.1 Hb.out.2.2.1).mono ?_
    rintro e wc ⟨rfl, q2, hwc⟩
    have Hc : Hid (Past w wc ∧ Sl wc A5 M c5 (textI l)) := Lib.hid ⟨by rw [hwc]; exact Hb.out.1.drewN q2, by rw [hwc]; exact Hb.out.2.2.2.drewN q2⟩
    clear hwc
    refine hK _ _ ?_
    clear hK K
    try dsimp only [Act.put]
    refine wpAny_take (i := 8) (v := .bool true) rfl (by kernel_rfl) (by kernel_rfl) (by kernel_rfl) (fun _ _ _ h => h) (Or.inl ⟨by kernel_rfl, fun w => by kernel_rfl⟩) ?_; (try dsimp only [Act.put])
    refine wpAny_take (i := 9) (v := .bool true) rfl (by kernel_rfl) (by kernel_rfl) (by kernel_rfl) (fun _ _ _ h => h) (Or.inl ⟨by kernel_rfl, fun w => by kernel_rfl⟩) ?_; (try dsimp only [Act.put])
    refine wpAny_take (i := 10) (v := .nilIface) rfl (by kernel_rfl) (by kernel_rfl) (by kernel_rfl) (fun _ _ _ h => h) (Or.inl ⟨by kernel_rfl, fun w => by kernel_rfl⟩) ?_; (try dsimp only [Act.put])
    refine wpAny_take (i := 11) (v := .bool true) rfl (by kernel_rfl) (by kernel_rfl) (by kernel_rfl) (fun _ _ _ h => h) (Or.inl ⟨by kernel_rfl, fun w => by go_simp⟩) ?_; (try dsimp only [Act.put])
    refine wpAny_take (i := 12) (v := .bool true) rfl (by kernel_rfl) (by kernel_rfl) (by kernel_rfl) (fun _ _ _ h => h) (Or.inl ⟨by kernel_rfl, fun w => by kernel_rfl⟩) ?_; (try dsimp only [Act.put])
    refine wpAny_take (i := 13) (v := .bool true) rfl (by kernel_rfl) (by kernel_rfl) (by kernel_rfl) (fun _ _ _ h => h) (Or.inl ⟨by kernel_rfl, fun w => by kernel_rfl⟩) ?_; (try dsimp only [Act.put])
    refine wpAny_take (i := 14) (v := .slice A5 M c5) rfl (by kernel_rfl) (by kernel_rfl) (by kernel_rfl) (fun _ _ _ h => h) (Or.inl ⟨by kernel_rfl, fun w => by kernel_rfl⟩) ?_; (try dsimp only [Act.put])
    refine wpAny_take (i := 15) (v := .slice A n c) rfl (by kernel_rfl) (by kernel_rfl) (by kernel_rfl) (fun _ _ _ h => h) (Or.inl ⟨by kernel_rfl, fun w => by kernel_rfl⟩) ?_; (try dsimp only [Act.put])
    refine wpAny_ready (rs := [16]) (by kernel_rfl) (by simp) ?_
    refine AllReady.cons rfl (fun K hK => ?_) AllReady.nil
    go_simp
    refine (HS1.out _ _ _ Hc.out.2 (HSL.out.past Hc.out.1)).mono ?_
    rintro e wf ⟨rfl, q3, hwf⟩
    have Hf : Hid (Past w wf) := Lib.hid (by rw [hwf]; exact Hc.out.1.drewN q3)
    clear hwf
    refine hK _ _ ?_
    clear hK K
    try dsimp only [Act.put]
    refine wpAny_take (i := 17) (v := .bool true) rfl (by kernel_rfl) (by kernel_rfl) (by kernel_rfl) (fun _ _ _ h => h) (Or.inl ⟨by kernel_rfl, fun w => by kernel_rfl⟩) ?_; (try dsimp only [Act.put])
    refine wpAny_take (i := 18) (v := .bool true) rfl (by kernel_rfl) (by kernel_rfl) (by kernel_rfl) (fun _ _ _ h => h) (Or.inl ⟨by kernel_rfl, fun w => by kernel_rfl⟩) ?_; (try dsimp only [Act.put])
    refine wpAny_done (by kernel_rfl) ?_ _
    go_simp
    go_wp2_with fail
    go_ret
    exact ⟨rfl, Hf.out⟩
  · go_simp
    refine hK _ _ ?_
    clear hK K
    try dsimp only [Act.put]
    refine wpAny_ready (rs := [4]) (by kernel_rfl) (by simp) ?_
    refine AllReady.cons rfl (fun K hK => ?_) AllReady.nil
    go_simp
    refine (HBk.out _ _ _ (H5.out.2.1.past HD.out)).mono ?_
    rintro e wb ⟨Ab, cb, rfl, hpsb, hpb⟩
    have Hb : Hid (Past w wb ∧ Ps wb Ab n3 cb l ∧ Ps wb A3 n3 c3 l ∧ Sl wb A5 M c5 (textI l)) := Lib.hid ⟨(H5.out.1.trans' HD.out).trans' hpb, hpsb, (H5.out.2.2.1.past HD.out).past hpb, (H5.out.2.2.2.1.past HD.out).past hpb⟩
    clear hpsb hpb
    refine hK _ _ ?_
    clear hK K
    try dsimp only [Act.put]
    refine wpAny_ready (rs := [7]) (by kernel_rfl) (by simp) ?_
    refine AllReady.cons rfl (fun K hK => ?_) AllReady.nil
    go_simp
    refine (HSa.out _ _ _ _ _ Hb.out.2.1 Hb.out.2.2.1).mono ?_
    rintro e wc ⟨rfl, q2, hwc⟩
    have Hc : Hid (Past w wc ∧ Sl wc A5 M c5 (textI l)) := Lib.hid ⟨by rw [hwc]; exact Hb.out.1.drewN q2, by rw [hwc]; exact Hb.out.2.2.2.drewN q2⟩
    clear hwc
    refine hK _ _ ?_
    clear hK K
    try dsimp only [Act.put]
    refine wpAny_take (i := 8) (v := .bool true) rfl (by kernel_rfl) (by kernel_rfl) (by kernel_rfl) (fun _ _ _ h => h) (Or.inl ⟨by kernel_rfl, fun w => by kernel_rfl⟩) ?_; (try dsimp only [Act.put])
    refine wpAny_take (i := 9) (v := .bool true) rfl (by kernel_rfl) (by kernel_rfl) (by kernel_rfl) (fun _ _ _ h => h) (Or.inl ⟨by kernel_rfl, fun w => by kernel_rfl⟩) ?_; (try dsimp only [Act.put])
    refine wpAny_take (i := 10) (v := .nilIface) rfl (by kernel_rfl) (by kernel_rfl) (by kernel_rfl) (fun _ _ _ h => h) (Or.inl ⟨by kernel_rfl, fun w => by kernel_rfl⟩) ?_; (try dsimp only [Act.put])
    refine wpAny_take (i := 11) (v := .bool true) rfl (by kernel_rfl) (by kernel_rfl) (by kernel_rfl) (fun _ _ _ h => h) (Or.inl ⟨by kernel_rfl, fun w => by go_simp⟩) ?_; (try dsimp only [Act.put])
    refine wpAny_take (i := 12) (v := .bool true) rfl (by kernel_rfl) (by kernel_rfl) (by kernel_rfl) (fun _ _ _ h => h) (Or.inl ⟨by kernel_rfl, fun w => by kernel_rfl⟩) ?_; (try dsimp only [Act.put])
    refine wpAny_take (i := 13) (v := .bool true) rfl (by kernel_rfl) (by kernel_rfl) (by kernel_rfl) (fun _ _ _ h => h) (Or.inl ⟨by kernel_rfl, fun w => by kernel_rfl⟩) ?_; (try dsimp only [Act.put])
    refine wpAny_take (i := 14) (v := .slice A5 M c5) rfl (by kernel_rfl) (by kernel_rfl) (by kernel_rfl) (fun _ _ _ h => h) (Or.inl ⟨by kernel_rfl, fun w => by kernel_rfl⟩) ?_; (try dsimp only [Act.put])
    refine wpAny_take (i := 15) (v := .slice A n c) rfl (by kernel_rfl) (by kernel_rfl) (by kernel_rfl) (fun _ _ _ h => h) (Or.inl ⟨by kernel_rfl, fun w => by kernel_rfl⟩) ?_; (try dsimp only [Act.put])
    refine wpAny_ready (rs := [16]) (by kernel_rfl) (by simp) ?_
    refine AllReady.cons rfl (fun K hK => ?_) AllReady.nil
    go_simp
    refine (HS1.out _ _ _ Hc.out.2 (HSL.out.past Hc.out.1)).mono ?_
    rintro e wf ⟨rfl, q3, hwf⟩
    have Hf : Hid (Past w wf) := Lib.hid (by rw [hwf]; exact Hc.out.1.drewN q3)
    clear hwf
    refine hK _ _ ?_
    clear hK K
    try dsimp only [Act.put]
    refine wpAny_take (i := 17) (v := .bool true) rfl (by kernel_rfl) (by kernel_rfl) (by kernel_rfl) (fun _ _ _ h => h) (Or.inl ⟨by kernel_rfl, fun w => by kernel_rfl⟩) ?_; (try dsimp only [Act.put])
    refine wpAny_take (i := 18) (v := .bool true) rfl (by kernel_rfl) (by kernel_rfl) (by kernel_rfl) (fun _ _ _ h => h) (Or.inl ⟨by kernel_rfl, fun w => by kernel_rfl⟩) ?_; (try dsimp only [Act.put])
    refine wpAny_done (by kernel_rfl) ?_ _
    go_simp
    go_wp2_with fail
    go_ret
    exact ⟨rfl, Hf.out⟩

set_option maxRecDepth 100000 in
theorem walk_long (A : Option Addr) (n c : Nat) (w : World) (hn : 2000 < n) (hG : Glob11 w) :
    Calls Tryd.prog 3 #[.slice A n c] w fun e w' => e = .returned (.bool true) ∧ Past w w' := by
  have HA := Lib.hid (fun w hG => awake11 w hG)
  have HG := Lib.hid hG
  have hni : (2000 : Int) < (n : Int) := by omega
  clear hG hn
  go_enter Tryd.func3, Tryd.ntmps3
  go_wp2_with fail
  refine (HA.out _ HG.out).mono ?_
  rintro e w1 ⟨rfl, hp⟩
  have H1 := Lib.hid hp
  clear hp
  go_wp2_with fail
  refine (HA.out _ (HG.out.past H1.out)).mono ?_
  rintro e w2 ⟨rfl, hp⟩
  have H2 := Lib.hid (H1.out.trans' hp)
  clear hp
  go_wp2_with fail
  go_ret
  exact ⟨rfl, H2.out⟩

theorem walk (A : Option Addr) (n c : Nat) (zs : List Int) (w : World) (hR : IsRow .u8 w A n c zs) (hG : Glob11 w) :
    Calls Tryd.prog 3 #[.slice A n c] w fun e w' => e = .returned (.bool true) ∧ Past w w' := by
  have hS := Sl.of_row hR
  obtain ⟨xs, hxs⟩ : ∃ xs, zs.take n = xs := ⟨_, rfl⟩
  rw [hxs] at hS
  clear hxs hR
  by_cases hn : 2000 < n
  · exact walk_long A n c w hn hG
  · obtain ⟨⟨k, s⟩, hr⟩ : ∃ p, readS xs 0 0 = p := ⟨_, rfl⟩
    have hk : k ≤ n := by have := read_le xs hr; rw [hS.len] at this; exact this
    by_cases hb : k < n ∨ s ≠ 9
    · exact walk_bad A n c xs w hS (by omega) hG (badC n k s) k (badC_pos n k s) (by omega) (fun W hW => parse_bad A n c xs W (hS.past hW) (hG.past hW) (by omega) k s hr hb) (ref_bad A n c xs w hS (by omega) k s hr hb)
    · have hk' : k = n := by omega
      have hs' : s = 9 := by
        by_cases h : s = 9
        · exact h
        · exact absurd (.inr h) hb
      subst hk' hs'
      have hrun : run 0 xs = some 9 := by
        have := readS_run xs 0 0 k 9 hr
        rwa [Nat.sub_zero, List.take_of_length_le (by rw [hS.len]; exact Nat.le_refl _)] at this
      obtain ⟨l, hl, rfl⟩ := accepted hrun
      have hL : lenL l = k := by rw [← text_len, hS.len]
      have hm : l.length ≤ 2000 := by have := len_lenL l; omega
      cases hc : chk l with
      | none => exact walk_ok A k c l w hS (by omega) hG hl hr hc
      | some ca =>
        obtain ⟨cc, aa⟩ := ca
        have hnm : ∀ i, i < l.length → nmP l i ≤ 1000000 := fun i hi => by
          have h1 := nmP_lenP l i
          have h2 := lenP_mono l i (l.length - i)
          rw [show i + (l.length - i) = l.length by omega] at h2
          have h3 : lenP l l.length = k := hL
          omega
        have h0 : cc ≠ 0 ∧ aa ≤ 1000000 := by
          cases h1 : fLong l with
          | some i =>
            rw [chk_long h1] at hc
            injection hc with hc
            injection hc with e1 e2
            subst e1 e2
            exact ⟨by decide, hnm i (firstF_lt h1).1⟩
          | none =>
            cases h2 : fDesc l with
            | some i =>
              rw [chk_desc h1 h2] at hc
              injection hc with hc
              injection hc with e1 e2
              subst e1 e2
              exact ⟨by decide, hnm i (firstF_lt h2).1⟩
            | none =>
              by_cases h3 : 20 < l.length
              · rw [chk_many h1 h2 h3] at hc
                injection hc with hc
                injection hc with e1 e2
                subst e1 e2
                exact ⟨by decide, hnm 20 h3⟩
              · rw [chk_ok h1 h2 h3] at hc
                cases hc
        exact walk_bad A k c (textI l) w hS (by omega) hG cc aa h0.1 h0.2 (fun W hW => (parse_acc A k c l W (hS.past hW) (hG.past hW) (by omega) hl hr).mono fun e w' h => ⟨h.1 cc aa hc, h.2.2⟩)
          (fun W hW => (ref_ok A k c l W (hS.past hW) (by omega) hl hr (by omega)).mono fun e w' h => ⟨h.1 cc aa hc, h.2.2⟩)

def args0 : Array Value := #[.slice none 0 0]
theorem laid_met (os : Os) : laidMetH Tryd.prog Rows.jsonMatchesReferenceRow.laid ((laidWorld os).forCall (fun _ _ => 0) ⟨#[], args0, []⟩).memory :=
  laid_world os args0
theorem witness_row (os : Os) {H : Type} (enc : TypeId × Value → H) :
    (OpenSpec.ofChange Rows.jsonMatchesReferenceSpec).preRow enc Tryd.prog Tryd.f3 Rows.jsonMatchesReferenceRow.domain false Rows.jsonMatchesReferenceRow.laid ((laidWorld os).forCall (fun _ _ => 0) ⟨#[], args0, []⟩).memory args0 := by
  have hw : (DataW.whole enc Tryd.prog ((laidWorld os).forCall (fun _ _ => 0) ⟨#[], args0, []⟩).memory Tryd.f3.params.toList (OpenSpec.ofChange Rows.jsonMatchesReferenceSpec).vars false args0.toList 8).map (fun x => (x.1, x.2.1)) =
      some ([.nil], []) := by kernel_rfl
  obtain ⟨⟨x1, x2, x3⟩, hx, hx1⟩ := Option.map_eq_some_iff.1 hw
  simp only [Prod.mk.injEq] at hx1
  obtain ⟨rfl, rfl⟩ := hx1
  exact OpenSpec.preRow_of_cond 8 hx (by kernel_rfl) (fun k hk => by cases hk) (by kernel_rfl) (laid_met os)

set_option maxRecDepth 100000 in
set_option maxHeartbeats 2000000 in
theorem lifted (os : Os) (started : os.Started) (H : Type) (enc : TypeId × Value → H) (F : Stop.Interp) :
    ReturnsInHanded {} Tryd.checked os 3 .any ((OpenSpec.ofChange Rows.jsonMatchesReferenceSpec).preRow enc Tryd.prog Tryd.f3 Rows.jsonMatchesReferenceRow.domain false Rows.jsonMatchesReferenceRow.laid) (((OpenSpec.ofChange Rows.jsonMatchesReferenceSpec).at F).post enc Tryd.prog Tryd.f3 false true false false) := by
  refine returnsInHanded_of_row (C := Tryd.checked) (s := OpenSpec.ofChange Rows.jsonMatchesReferenceSpec) own started (by kernel_rfl) Tryd.func3
    (witness_row_atRef (enc := enc) (C := Tryd.checked) false (laidWorld os) args0 rfl (by kernel_rfl) (by kernel_rfl) (by kernel_rfl) (witness_row os enc)) ?_
  intro W base args ds gs before hval0 hW _ hcnd _ hL hsh _
  have hval : ∀ (j : Nat) t v, Tryd.f3.params[j]? = some t → args[j]? = some v → Value.okWide Tryd.prog W .any base t v := hval0
  have hW' := hW
  obtain ⟨p, q, hA0, hV, rfl, hfz, hnd⟩ := hW
  have hA : DataW.TrodAll enc Tryd.prog W 0 (fun _ => true) true Tryd.f3.params.toList args.toList ds p := hA0
  rw [Tryd.params3] at hA hval
  obtain ⟨v0, vs0, d0, ds0, p0, q0, hargs, rfl, rfl, h0, r0⟩ := trodAll_cons hA
  obtain ⟨rfl, rfl, rfl⟩ := trodAll_nil r0
  obtain rfl : args = #[v0] := by cases args; simp_all
  obtain ⟨rfl, rfl⟩ := trodVars_none hV
  have k0 := h0
  have lt0 : ∀ x ∈ p0, x.block < W.heap.size := by obtain ⟨m, hm⟩ := k0; exact DataW.trod_lt m _ _ _ hm
  obtain ⟨a0, len0, cap0, rfl⟩ := okWide_slice Tryd.underlying22 (hval 0 22 v0 rfl rfl)
  obtain ⟨z0, w0⟩ := row_of h0
  have hG := glob_of_row hL hsh
  clear hA0 hval0
  refine (walk a0 len0 cap0 z0 W w0 hG).mono fun e W' ⟨he, bel⟩ => ?_
  subst he
  exact ⟨_, rfl, _, _, _, [], _, [], hW', trodAll_mk1 (shut_bool Tryd.underlying4 _), (trodAll_cons_mk (Below.trod laidOut (by kernel_rfl) (of_decide_eq_true (by kernel_rfl)) k0 bel lt0) trodAll_mk0), rfl, bel.frame _, fun h => by cases h⟩

theorem row_holds : Rows.JsonMatchesReferenceSaid :=
  OpenClaim.holds_of_cond 3 Tryd.f3 rfl rfl rfl rfl rfl rfl rfl ⟨rfl, rfl, rfl, rfl, rfl⟩ rfl rfl rfl rfl rfl (by kernel_rfl) Tryd.func3 (by kernel_rfl)
    (of_decide_eq_true (by kernel_rfl)) (by unfold Func.isWrapper; first | (rw [if_pos (by decide +kernel)]; kernel_rfl) | (rw [if_neg (by decide +kernel)]; exact ⟨rfl, rfl⟩))
    (fun os started H enc _ F0 => by rw [OpenClaim.pre_eq_preRow]; exact lifted os started H enc F0)

theorem card : Rows.JsonMatchesReferenceCardSaid :=
  Claim7.holds_tied_plain_at .later [] [.data, .handle, .data, .pinned] true Rows.jsonMatchesReferenceCard.stood.harness true
    row_holds (fun _ h => by cases h) (by kernel_rfl) (fun _ h => by cases h) jsonMatchesReference_row_tie rfl ⟨rfl, rfl⟩ (by kernel_rfl) rfl
    (fun f fn hf hfn => by
      obtain rfl : f = 3 := Option.some.inj ((show Tryd.prog.funcNamed "pyx/pyxlaw11.JsonMatchesReference" = some 3 by kernel_rfl).symm.trans hf) |>.symm
      obtain rfl : fn = Tryd.f3 := (Option.some.inj (Tryd.func3.symm.trans hfn)).symm
      exact ⟨by kernel_rfl, fun j t ht => by
        rw [Tryd.params3] at ht
        obtain rfl : t = 22 := by
          rcases j with _ | j
          · simpa using ht.symm
          · simp at ht
        exact (show Tryd.prog.wantsStandIn 22 = false by kernel_rfl)⟩)
    (by kernel_rfl)


end Go.Proofs.YtoinjjnlgjakkaaDoor.jsonMatches
