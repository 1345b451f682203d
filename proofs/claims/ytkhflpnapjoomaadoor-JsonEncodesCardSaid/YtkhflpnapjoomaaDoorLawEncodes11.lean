/- For every list of pairs the law JsonEncodes of package pyxlaw11 returns true and leaves its argument alone, where the variables hold what the program's text lays. -/
import Derived.Test.YtkhflpnapjoomaaDoorFrame11P
import Derived.Test.YtkhflpnapjoomaaDoorJs11D
import Derived.Test.YtkhflpnapjoomaaDoorRef11D
import Derived.Deep.RegionLaw
import Derived.Deep.Cut
namespace Go.Proofs.YtkhflpnapjoomaaDoor.jsonEncodes
open Go.RowKit Go.ChangeShapes Go.WideShapes Go.ChangeAt
set_option linter.unusedVariables false

set_option maxHeartbeats 8000000 in
set_option maxRecDepth 100000 in
theorem walk (A : Option Addr) (n c : Nat) (l : List P2) (w : World) (hP : Ps w A n c l) (hG : Glob11 w) :
    Calls Tryd.prog 4 #[.slice A n c] w fun e w' => e = .returned (.bool true) ∧ Past w w' := by
  have HA := Lib.hid (fun w hG => awake11 w hG)
  have HG := Lib.hid hG
  have HPS := Lib.hid hP
  have HF := Lib.hid (fun w h => rfew11_any A n c l w h)
  cases hf : fewP l with
  | false =>
    rw [hf] at HF
    clear hP hG hf
    go_enter Tryd.func4, Tryd.ntmps4
    go_wp2_with fail
    refine (HA.out _ HG.out).mono ?_
    rintro e w1 ⟨rfl, hp⟩
    have H1 := Lib.hid hp
    clear hp
    go_wp2_with fail
    refine (HF.out _ (HPS.out.past H1.out)).mono ?_
    rintro e w2 ⟨rfl, rfl⟩
    go_wp2_with fail
    refine (HA.out _ (HG.out.past H1.out)).mono ?_
    rintro e w3 ⟨rfl, hp⟩
    have H3 := Lib.hid (H1.out.trans' hp)
    clear hp H1
    go_wp2_with fail
    go_ret
    exact ⟨rfl, H3.out⟩
  | true =>
    rw [hf] at HF
    obtain ⟨hn40, hlen⟩ := few_len hf
    have hnn := hP.len
    have HGv := Lib.hid (fun w h => given_any A n c l w h (by omega))
    have HEn := Lib.hid (fun A c w h => encode11_any A n c l w h (by omega))
    have HVa := Lib.hid (fun A c w h => valid11_any A n c l w h (by omega))
    have HRV := Lib.hid (fun w h => rvalid11_any A n c l w h (by omega))
    cases hv : vldP l with
    | false =>
      rw [hv] at HVa HRV
      have HV := Lib.hid hv
      have HCo := Lib.hid (fun w hG => lcode_code 12 w hG)
      simp only [valCode] at HCo
      clear hP hG hf hn40 hlen hnn hv
      go_enter Tryd.func4, Tryd.ntmps4
      go_wp2_with fail
      refine (HA.out _ HG.out).mono ?_
      rintro e w1 ⟨rfl, hp⟩
      have H1 := Lib.hid hp
      clear hp
      go_wp2_with fail
      refine (HF.out _ (HPS.out.past H1.out)).mono ?_
      rintro e w2 ⟨rfl, rfl⟩
      go_wp2_with fail
      refine (HGv.out _ (HPS.out.past H1.out)).mono ?_
      rintro e w3 ⟨A3, c3, rfl, hps, hp⟩
      have H3 := Lib.hid (And.intro (H1.out.trans' hp) hps)
      clear hp hps H1
      go_wp2_with fail
      refine (HEn.out _ _ _ H3.out.2).mono ?_
      rintro e w4 ⟨_, he, hp⟩
      obtain rfl := he HV.out
      simp only [valCode]
      have H4 := Lib.hid (H3.out.1.trans' hp)
      clear hp he H3
      go_wp2_with fail
      refine (HGv.out _ (HPS.out.past H4.out)).mono ?_
      rintro e w5 ⟨A5, c5, rfl, hps, hp⟩
      have H5 := Lib.hid (And.intro (H4.out.trans' hp) hps)
      clear hp hps H4
      go_wp2_with fail
      refine (HVa.out _ _ _ H5.out.2).mono ?_
      rintro e w6 ⟨rfl, hp⟩
      have H6 := Lib.hid (H5.out.1.trans' hp)
      clear hp H5
      go_wp2_with fail
      refine (HRV.out _ (HPS.out.past H6.out)).mono ?_
      rintro e w7 ⟨rfl, hp⟩
      have H7 := Lib.hid (H6.out.trans' hp)
      clear hp H6
      go_wp2_with fail
      refine (HRV.out _ (HPS.out.past H7.out)).mono ?_
      rintro e w8 ⟨rfl, hp⟩
      have H8 := Lib.hid (H7.out.trans' hp)
      clear hp H7
      go_wp2_with fail
      refine (HCo.out _ (HG.out.err.past H8.out)).mono ?_
      rintro e w9 ⟨rfl, hp⟩
      have H9 := Lib.hid (H8.out.trans' hp)
      clear hp H8
      go_wp2_with fail
      go_ret
      exact ⟨rfl, H9.out⟩
    | true =>
      rw [hv] at HVa HRV
      have HV := Lib.hid hv
      have hlo := vld_loose hv
      have htl : (textI l).length ≤ 1000000 := by rw [text_len]; omega
      have HPa := Lib.hid (fun A c w (h : Sl w A (textI l).length c (textI l)) hG => parse_acc A (textI l).length c l w h hG (by omega) hlo (read_text hlo htl))
      have HTe := Lib.hid (fun w h => rtext11_any A n c l w h (by rw [textP_size]; omega))
      have HBk := Lib.hid (fun A c w h => back_any A n c l w h (by omega))
      have HSa := Lib.hid (fun B d w h h2 => rsame11_any B A n d n c l l w h h2)
      have hsm : sameP l l = true := decide_eq_true rfl
      rw [hsm] at HSa
      have HCo := fun A c w (h : Sl w A (textI l).length c (textI l)) => conv_sl (P := Tryd.prog) (src := 22) (dst := 9) (e := 5) Tryd.underlying22 Tryd.underlying5 Tryd.underlying9 h
      simp only [text_eq] at HCo
      have HCO := Lib.hid HCo
      have HNN := Lib.hid hnn
      have HCK := Lib.hid (vld_chk hv)
      obtain ⟨T, hT⟩ : ∃ T, textP l = T := ⟨_, rfl⟩
      rw [hT] at HTe HCO
      have heq : (T.toList == T.toList) = true := by simp
      clear hP hG hf hn40 hlen hnn hv hlo htl hsm HCo hT
      go_enter Tryd.func4, Tryd.ntmps4
      go_wp2_with fail
      refine (HA.out _ HG.out).mono ?_
      rintro e w1 ⟨rfl, hp⟩
      have H1 := Lib.hid hp
      clear hp
      go_wp2_with fail
      refine (HF.out _ (HPS.out.past H1.out)).mono ?_
      rintro e w2 ⟨rfl, rfl⟩
      go_wp2_with fail
      refine (HGv.out _ (HPS.out.past H1.out)).mono ?_
      rintro e w3 ⟨A3, c3, rfl, hps, hp⟩
      have H3 := Lib.hid (And.intro (H1.out.trans' hp) hps)
      clear hp hps H1
      go_wp2_with fail
      refine (HEn.out _ _ _ H3.out.2).mono ?_
      rintro e w4 ⟨he, _, hp⟩
      obtain ⟨A4, c4, rfl, hsl⟩ := he HV.out
      have H4 := Lib.hid (And.intro (H3.out.1.trans' hp) hsl)
      clear hp he hsl H3
      obtain ⟨m, hm⟩ : ∃ m, (textI l).length = m := ⟨_, rfl⟩
      rw [hm] at H4 HPa HCO ⊢
      clear hm
      go_wp2_with fail
      refine (HGv.out _ (HPS.out.past H4.out.1)).mono ?_
      rintro e w5 ⟨A5, c5, rfl, hps, hp⟩
      have H5 := Lib.hid (And.intro (H4.out.1.trans' hp) (And.intro hps (H4.out.2.past hp)))
      clear hp hps H4
      go_wp2_with fail
      refine (HVa.out _ _ _ H5.out.2.1).mono ?_
      rintro e w6 ⟨rfl, hp⟩
      have H6 := Lib.hid (And.intro (H5.out.1.trans' hp) (H5.out.2.2.past hp))
      clear hp H5
      go_wp2_with fail
      refine (HRV.out _ (HPS.out.past H6.out.1)).mono ?_
      rintro e w7 ⟨rfl, hp⟩
      have H7 := Lib.hid (And.intro (H6.out.1.trans' hp) (H6.out.2.past hp))
      clear hp H6
      go_wp2_with fail
      refine (HRV.out _ (HPS.out.past H7.out.1)).mono ?_
      rintro e w8 ⟨rfl, hp⟩
      have H8 := Lib.hid (And.intro (H7.out.1.trans' hp) (H7.out.2.past hp))
      clear hp H7
      go_wp2_with fail
      refine (HPa.out _ _ _ H8.out.2 (HG.out.past H8.out.1)).mono ?_
      rintro e w9 ⟨_, he, hp⟩
      obtain ⟨A9, c9, rfl, hps⟩ := he HCK.out
      rw [HNN.out] at hps ⊢
      have H9 := Lib.hid (And.intro (H8.out.1.trans' hp) (And.intro hps (H8.out.2.past hp)))
      clear hp he hps H8
      have HPD : Hid (Past w9 w9.drew) := Lib.hid (Past.drewN (Below.refl _ w9) 1)
      have hco1 := HCO.out _ _ w9.drew (H9.out.2.2.past HPD.out)
      have HTW : Hid (Calls Tryd.prog 20 #[.slice A n c] w9.drew fun e w' => e = .returned (.string T) ∧ ∃ q, w' = w9.drew.drewN q) := Lib.hid (HTe.out _ (HPS.out.past (H9.out.1.trans' HPD.out)))
      have HPQ : Hid (∀ q, Past w9 (w9.drew.drewN q)) := Lib.hid fun q => HPD.out.drewN q
      go_upto_region 9 with (fail)
      refine wp_region_any (by kernel_rfl) ?_
      change wpAny _ _ _ _ _ _ _ (World.drew _)
      refine wpAny_take (i := 0) (v := .nilIface) rfl (by kernel_rfl) (by kernel_rfl) (by kernel_rfl) (fun _ _ _ h => h) (Or.inl ⟨by kernel_rfl, fun w => by kernel_rfl⟩) ?_; (try dsimp only [Act.put])
      refine wpAny_take (i := 1) (v := .bool true) rfl (by kernel_rfl) (by kernel_rfl) (by kernel_rfl) (fun _ _ _ h => h) (Or.inl ⟨by kernel_rfl, fun w => by go_simp⟩) ?_; (try dsimp only [Act.put])
      refine wpAny_take (i := 2) (v := .bool true) rfl (by kernel_rfl) (by kernel_rfl) (by kernel_rfl) (fun _ _ _ h => h) (Or.inl ⟨by kernel_rfl, fun w => by kernel_rfl⟩) ?_; (try dsimp only [Act.put])
      refine wpAny_take (i := 3) (v := .slice A4 m c4) rfl (by kernel_rfl) (by kernel_rfl) (by kernel_rfl) (fun _ _ _ h => h) (Or.inl ⟨by kernel_rfl, fun w => by kernel_rfl⟩) ?_; (try dsimp only [Act.put])
      refine wpAny_take (i := 5) (v := .slice A n c) rfl (by kernel_rfl) (by kernel_rfl) (by kernel_rfl) (fun _ _ _ h => h) (Or.inl ⟨by kernel_rfl, fun w => by kernel_rfl⟩) ?_; (try dsimp only [Act.put])
      refine wpAny_ready (rs := [4, 6]) (by kernel_rfl) (by simp) ?_
      refine AllReady.cons rfl (fun K hK => ?_) (AllReady.cons rfl (fun K hK => ?_) AllReady.nil)
      · go_simp
        refine hK _ _ ?_
        clear hK K
        try dsimp only [Act.put]
        refine wpAny_ready (rs := [6]) (by kernel_rfl) (by simp) ?_
        refine AllReady.cons rfl (fun K hK => ?_) AllReady.nil
        go_simp
        refine HTW.out.mono ?_
        rintro e wa ⟨rfl, q, hwa⟩
        have HPa : Hid (Past w9 wa) := Lib.hid (by rw [hwa]; exact HPQ.out q)
        clear hwa
        refine hK _ _ ?_
        clear hK K
        try dsimp only [Act.put]
        refine wpAny_take (i := 7) (v := .bool true) rfl (by kernel_rfl) (by kernel_rfl) (by kernel_rfl) (fun _ _ _ h => h) (Or.inl ⟨by kernel_rfl, fun w => by go_simp⟩) ?_; (try dsimp only [Act.put])
        refine wpAny_take (i := 8) (v := .bool true) rfl (by kernel_rfl) (by kernel_rfl) (by kernel_rfl) (fun _ _ _ h => h) (Or.inl ⟨by kernel_rfl, fun w => by kernel_rfl⟩) ?_; (try dsimp only [Act.put])
        refine wpAny_take (i := 9) (v := .bool true) rfl (by kernel_rfl) (by kernel_rfl) (by kernel_rfl) (fun _ _ _ h => h) (Or.inl ⟨by kernel_rfl, fun w => by kernel_rfl⟩) ?_; (try dsimp only [Act.put])
        refine wpAny_take (i := 10) (v := .nilIface) rfl (by kernel_rfl) (by kernel_rfl) (by kernel_rfl) (fun _ _ _ h => h) (Or.inl ⟨by kernel_rfl, fun w => by kernel_rfl⟩) ?_; (try dsimp only [Act.put])
        refine wpAny_take (i := 11) (v := .bool true) rfl (by kernel_rfl) (by kernel_rfl) (by kernel_rfl) (fun _ _ _ h => h) (Or.inl ⟨by kernel_rfl, fun w => by go_simp⟩) ?_; (try dsimp only [Act.put])
        refine wpAny_take (i := 12) (v := .bool true) rfl (by kernel_rfl) (by kernel_rfl) (by kernel_rfl) (fun _ _ _ h => h) (Or.inl ⟨by kernel_rfl, fun w => by kernel_rfl⟩) ?_; (try dsimp only [Act.put])
        refine wpAny_take (i := 13) (v := .bool true) rfl (by kernel_rfl) (by kernel_rfl) (by kernel_rfl) (fun _ _ _ h => h) (Or.inl ⟨by kernel_rfl, fun w => by kernel_rfl⟩) ?_; (try dsimp only [Act.put])
        refine wpAny_take (i := 14) (v := .slice A9 n c9) rfl (by kernel_rfl) (by kernel_rfl) (by kernel_rfl) (fun _ _ _ h => h) (Or.inl ⟨by kernel_rfl, fun w => by kernel_rfl⟩) ?_; (try dsimp only [Act.put])
        refine wpAny_take (i := 16) (v := .slice A n c) rfl (by kernel_rfl) (by kernel_rfl) (by kernel_rfl) (fun _ _ _ h => h) (Or.inl ⟨by kernel_rfl, fun w => by kernel_rfl⟩) ?_; (try dsimp only [Act.put])
        refine wpAny_ready (rs := [15]) (by kernel_rfl) (by simp) ?_
        refine AllReady.cons rfl (fun K hK => ?_) AllReady.nil
        go_simp
        refine (HBk.out _ _ _ (H9.out.2.1.past HPa.out)).mono ?_
        rintro e wb ⟨Ab, cb, rfl, hpsb, hpb⟩
        have Hb : Hid (Past w wb ∧ Ps wb Ab n cb l) := Lib.hid ⟨(H9.out.1.trans' HPa.out).trans' hpb, hpsb⟩
        clear hpsb hpb
        refine hK _ _ ?_
        clear hK K
        try dsimp only [Act.put]
        refine wpAny_ready (rs := [17]) (by kernel_rfl) (by simp) ?_
        refine AllReady.cons rfl (fun K hK => ?_) AllReady.nil
        go_simp
        refine (HSa.out _ _ _ Hb.out.2 (HPS.out.past Hb.out.1)).mono ?_
        rintro e wc ⟨rfl, q2, rfl⟩
        refine hK _ _ ?_
        clear hK K
        try dsimp only [Act.put]
        refine wpAny_take (i := 18) (v := .bool true) rfl (by kernel_rfl) (by kernel_rfl) (by kernel_rfl) (fun _ _ _ h => h) (Or.inl ⟨by kernel_rfl, fun w => by kernel_rfl⟩) ?_; (try dsimp only [Act.put])
        refine wpAny_take (i := 19) (v := .bool true) rfl (by kernel_rfl) (by kernel_rfl) (by kernel_rfl) (fun _ _ _ h => h) (Or.inl ⟨by kernel_rfl, fun w => by kernel_rfl⟩) ?_; (try dsimp only [Act.put])
        refine wpAny_done (by kernel_rfl) ?_ _
        go_simp
        go_wp2_with fail
        go_ret
        exact ⟨rfl, Hb.out.1.drewN _⟩
      · go_simp
        refine HTW.out.mono ?_
        rintro e wa ⟨rfl, q, hwa⟩
        have HPa : Hid (Past w9 wa) := Lib.hid (by rw [hwa]; exact HPQ.out q)
        clear hwa
        have hco2 := HCO.out _ _ wa (H9.out.2.2.past HPa.out)
        refine hK _ _ ?_
        clear hK K
        try dsimp only [Act.put]
        refine wpAny_ready (rs := [4]) (by kernel_rfl) (by simp) ?_
        refine AllReady.cons rfl (fun K hK => ?_) AllReady.nil
        go_simp
        refine hK _ _ ?_
        clear hK K
        try dsimp only [Act.put]
        refine wpAny_take (i := 7) (v := .bool true) rfl (by kernel_rfl) (by kernel_rfl) (by kernel_rfl) (fun _ _ _ h => h) (Or.inl ⟨by kernel_rfl, fun w => by go_simp⟩) ?_; (try dsimp only [Act.put])
        refine wpAny_take (i := 8) (v := .bool true) rfl (by kernel_rfl) (by kernel_rfl) (by kernel_rfl) (fun _ _ _ h => h) (Or.inl ⟨by kernel_rfl, fun w => by kernel_rfl⟩) ?_; (try dsimp only [Act.put])
        refine wpAny_take (i := 9) (v := .bool true) rfl (by kernel_rfl) (by kernel_rfl) (by kernel_rfl) (fun _ _ _ h => h) (Or.inl ⟨by kernel_rfl, fun w => by kernel_rfl⟩) ?_; (try dsimp only [Act.put])
        refine wpAny_take (i := 10) (v := .nilIface) rfl (by kernel_rfl) (by kernel_rfl) (by kernel_rfl) (fun _ _ _ h => h) (Or.inl ⟨by kernel_rfl, fun w => by kernel_rfl⟩) ?_; (try dsimp only [Act.put])
        refine wpAny_take (i := 11) (v := .bool true) rfl (by kernel_rfl) (by kernel_rfl) (by kernel_rfl) (fun _ _ _ h => h) (Or.inl ⟨by kernel_rfl, fun w => by go_simp⟩) ?_; (try dsimp only [Act.put])
        refine wpAny_take (i := 12) (v := .bool true) rfl (by kernel_rfl) (by kernel_rfl) (by kernel_rfl) (fun _ _ _ h => h) (Or.inl ⟨by kernel_rfl, fun w => by kernel_rfl⟩) ?_; (try dsimp only [Act.put])
        refine wpAny_take (i := 13) (v := .bool true) rfl (by kernel_rfl) (by kernel_rfl) (by kernel_rfl) (fun _ _ _ h => h) (Or.inl ⟨by kernel_rfl, fun w => by kernel_rfl⟩) ?_; (try dsimp only [Act.put])
        refine wpAny_take (i := 14) (v := .slice A9 n c9) rfl (by kernel_rfl) (by kernel_rfl) (by kernel_rfl) (fun _ _ _ h => h) (Or.inl ⟨by kernel_rfl, fun w => by kernel_rfl⟩) ?_; (try dsimp only [Act.put])
        refine wpAny_take (i := 16) (v := .slice A n c) rfl (by kernel_rfl) (by kernel_rfl) (by kernel_rfl) (fun _ _ _ h => h) (Or.inl ⟨by kernel_rfl, fun w => by kernel_rfl⟩) ?_; (try dsimp only [Act.put])
        refine wpAny_ready (rs := [15]) (by kernel_rfl) (by simp) ?_
        refine AllReady.cons rfl (fun K hK => ?_) AllReady.nil
        go_simp
        refine (HBk.out _ _ _ (H9.out.2.1.past HPa.out)).mono ?_
        rintro e wb ⟨Ab, cb, rfl, hpsb, hpb⟩
        have Hb : Hid (Past w wb ∧ Ps wb Ab n cb l) := Lib.hid ⟨(H9.out.1.trans' HPa.out).trans' hpb, hpsb⟩
        clear hpsb hpb
        refine hK _ _ ?_
        clear hK K
        try dsimp only [Act.put]
        refine wpAny_ready (rs := [17]) (by kernel_rfl) (by simp) ?_
        refine AllReady.cons rfl (fun K hK => ?_) AllReady.nil
        go_simp
        refine (HSa.out _ _ _ Hb.out.2 (HPS.out.past Hb.out.1)).mono ?_
        rintro e wc ⟨rfl, q2, rfl⟩
        refine hK _ _ ?_
        clear hK K
        try dsimp only [Act.put]
        refine wpAny_take (i := 18) (v := .bool true) rfl (by kernel_rfl) (by kernel_rfl) (by kernel_rfl) (fun _ _ _ h => h) (Or.inl ⟨by kernel_rfl, fun w => by kernel_rfl⟩) ?_; (try dsimp only [Act.put])
        refine wpAny_take (i := 19) (v := .bool true) rfl (by kernel_rfl) (by kernel_rfl) (by kernel_rfl) (fun _ _ _ h => h) (Or.inl ⟨by kernel_rfl, fun w => by kernel_rfl⟩) ?_; (try dsimp only [Act.put])
        refine wpAny_done (by kernel_rfl) ?_ _
        go_simp
        go_wp2_with fail
        go_ret
        exact ⟨rfl, Hb.out.1.drewN _⟩

def args0 : Array Value := #[.slice none 0 0]
theorem laid_met (os : Os) : laidMetH Tryd.prog Rows.jsonEncodesRow.laid ((laidWorld os).forCall (fun _ _ => 0) ⟨#[], args0, []⟩).memory :=
  laid_world os args0
theorem witness_row (os : Os) {H : Type} (enc : TypeId × Value → H) :
    (OpenSpec.ofChange Rows.jsonEncodesSpec).preRow enc Tryd.prog Tryd.f4 Rows.jsonEncodesRow.domain false Rows.jsonEncodesRow.laid ((laidWorld os).forCall (fun _ _ => 0) ⟨#[], args0, []⟩).memory args0 := by
  have hw : (DataW.whole enc Tryd.prog ((laidWorld os).forCall (fun _ _ => 0) ⟨#[], args0, []⟩).memory Tryd.f4.params.toList (OpenSpec.ofChange Rows.jsonEncodesSpec).vars false args0.toList 8).map (fun x => (x.1, x.2.1)) =
      some ([.nil], []) := by kernel_rfl
  obtain ⟨⟨x1, x2, x3⟩, hx, hx1⟩ := Option.map_eq_some_iff.1 hw
  simp only [Prod.mk.injEq] at hx1
  obtain ⟨rfl, rfl⟩ := hx1
  exact OpenSpec.preRow_of_cond 8 hx (by kernel_rfl) (fun k hk => by cases hk) (by kernel_rfl) (laid_met os)

set_option maxRecDepth 100000 in
set_option maxHeartbeats 2000000 in
theorem lifted (os : Os) (started : os.Started) (H : Type) (enc : TypeId × Value → H) (F : Stop.Interp) :
    ReturnsInHanded {} Tryd.checked os 4 .any ((OpenSpec.ofChange Rows.jsonEncodesSpec).preRow enc Tryd.prog Tryd.f4 Rows.jsonEncodesRow.domain false Rows.jsonEncodesRow.laid) (((OpenSpec.ofChange Rows.jsonEncodesSpec).at F).post enc Tryd.prog Tryd.f4 false true false false) := by
  refine returnsInHanded_of_row (C := Tryd.checked) (s := OpenSpec.ofChange Rows.jsonEncodesSpec) own started (by kernel_rfl) Tryd.func4
    (witness_row_atRef (enc := enc) (C := Tryd.checked) false (laidWorld os) args0 rfl (by kernel_rfl) (by kernel_rfl) (by kernel_rfl) (witness_row os enc)) ?_
  intro W base args ds gs before hval0 hW _ hcnd _ hL hsh _
  have hval : ∀ (j : Nat) t v, Tryd.f4.params[j]? = some t → args[j]? = some v → Value.okWide Tryd.prog W .any base t v := hval0
  have hW' := hW
  obtain ⟨p, q, hA0, hV, rfl, hfz, hnd⟩ := hW
  have hA : DataW.TrodAll enc Tryd.prog W 0 (fun _ => true) true Tryd.f4.params.toList args.toList ds p := hA0
  rw [Tryd.params4] at hA hval
  obtain ⟨v0, vs0, d0, ds0, p0, q0, hargs, rfl, rfl, h0, r0⟩ := trodAll_cons hA
  obtain ⟨rfl, rfl, rfl⟩ := trodAll_nil r0
  obtain rfl : args = #[v0] := by cases args; simp_all
  obtain ⟨rfl, rfl⟩ := trodVars_none hV
  have k0 := h0
  have lt0 : ∀ x ∈ p0, x.block < W.heap.size := by obtain ⟨m, hm⟩ := k0; exact DataW.trod_lt m _ _ _ hm
  obtain ⟨a0, len0, cap0, l0, rfl, w0⟩ := pairs_of h0 (okWide_slice Tryd.underlying29 (hval 0 29 v0 rfl rfl))
  have hG := glob_of_row hL hsh
  clear hA0 hval0
  refine (walk a0 len0 cap0 l0 W w0 hG).mono fun e W' ⟨he, bel⟩ => ?_
  subst he
  exact ⟨_, rfl, _, _, _, [], _, [], hW', trodAll_mk1 (shut_bool Tryd.underlying4 _), (trodAll_cons_mk (Below.trod laidOut (by kernel_rfl) (of_decide_eq_true (by kernel_rfl)) k0 bel lt0) trodAll_mk0), rfl, bel.frame _, fun h => by cases h⟩

theorem row_holds : Rows.JsonEncodesSaid :=
  OpenClaim.holds_of_cond 4 Tryd.f4 rfl rfl rfl rfl rfl rfl rfl ⟨rfl, rfl, rfl, rfl, rfl⟩ rfl rfl rfl rfl rfl (by kernel_rfl) Tryd.func4 (by kernel_rfl)
    (of_decide_eq_true (by kernel_rfl)) (by unfold Func.isWrapper; first | (rw [if_pos (by decide +kernel)]; kernel_rfl) | (rw [if_neg (by decide +kernel)]; exact ⟨rfl, rfl⟩))
    (fun os started H enc _ F0 => by rw [OpenClaim.pre_eq_preRow]; exact lifted os started H enc F0)

theorem card : Rows.JsonEncodesCardSaid :=
  Claim7.holds_tied_plain_at .later [] [.data, .handle, .data, .pinned] true Rows.jsonEncodesCard.stood.harness true
    row_holds (fun _ h => by cases h) (by kernel_rfl) (fun _ h => by cases h) jsonEncodes_row_tie rfl ⟨rfl, rfl⟩ (by kernel_rfl) rfl
    (fun f fn hf hfn => by
      obtain rfl : f = 4 := Option.some.inj ((show Tryd.prog.funcNamed "pyx/pyxlaw11.JsonEncodes" = some 4 by kernel_rfl).symm.trans hf) |>.symm
      obtain rfl : fn = Tryd.f4 := (Option.some.inj (Tryd.func4.symm.trans hfn)).symm
      exact ⟨by kernel_rfl, fun j t ht => by
        rw [Tryd.params4] at ht
        obtain rfl : t = 29 := by
          rcases j with _ | j
          · simpa using ht.symm
          · simp at ht
        exact (show Tryd.prog.wantsStandIn 29 = false by kernel_rfl)⟩)
    (by kernel_rfl)


end Go.Proofs.YtkhflpnapjoomaaDoor.jsonEncodes
