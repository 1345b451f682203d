/- For every list of pairs, every number and every byte the law JsonParts of package pyxlaw11 returns true and leaves its arguments alone, where the variables hold what the program's text lays. -/
import Derived.Test.YtkhflpnapjoomaaDoorFrame11P
import Derived.Test.YtkhflpnapjoomaaDoorJs11E
import Derived.Test.YtkhflpnapjoomaaDoorRef11D
namespace Go.Proofs.YtkhflpnapjoomaaDoor.jsonParts
open Go.RowKit Go.ChangeShapes Go.WideShapes Go.ChangeAt
set_option linter.unusedVariables false

set_option maxHeartbeats 8000000 in
set_option maxRecDepth 100000 in
theorem walk (A : Option Addr) (n c : Nat) (l : List P2) (a0 x0 : Int) (w : World) (hP : Ps w A n c l) (ha : (Lit.int .u16 a0).wf = true) (hx : (Lit.int .u8 x0).wf = true) (hG : Glob11 w) :
    Calls Tryd.prog 6 #[.slice A n c, .int .u16 a0, .int .u8 x0] w fun e w' => e = .returned (.bool true) ∧ Past w w' := by
  have ha' := bounds_u16 ha
  have hx' := bounds_u8 hx
  have HA := Lib.hid (fun w hG => awake11 w hG)
  have HG := Lib.hid hG
  have HPS := Lib.hid hP
  have HF := Lib.hid (fun w h => rfew11_any A n c l w h)
  cases hf : fewP l with
  | false =>
    rw [hf] at HF
    clear hP hG hf
    go_enter Tryd.func6, Tryd.ntmps6
    go_wp2_with fail
    refine (HA.out _ HG.out).mono ?_
    rintro e w1 ⟨rfl, hp⟩
    have H1 := Lib.hid hp
    clear hp
    go_wp2_with fail
    refine (HF.out _ (HPS.out.past H1.out)).mono ?_
    rintro e w2 ⟨rfl, rfl⟩
    go_wp2_with fail
    refine (HA.out _ (HG.out.past H1.out)).mono ?_
    rintro e w3 ⟨rfl, hp⟩
    have H3 := Lib.hid (H1.out.trans' hp)
    clear hp H1
    go_wp2_with fail
    go_ret
    exact ⟨rfl, H3.out⟩
  | true =>
    rw [hf] at HF
    obtain ⟨hn40, hlen⟩ := few_len hf
    have hnn := hP.len
    have HRV := Lib.hid (fun w h => rvalid11_any A n c l w h (by omega))
    cases hv : vldP l with
    | false =>
      rw [hv] at HRV
      clear hP hG hf hn40 hlen hnn hv
      go_enter Tryd.func6, Tryd.ntmps6
      go_wp2_with fail
      refine (HA.out _ HG.out).mono ?_
      rintro e w1 ⟨rfl, hp⟩
      have H1 := Lib.hid hp
      clear hp
      go_wp2_with fail
      refine (HF.out _ (HPS.out.past H1.out)).mono ?_
      rintro e w2 ⟨rfl, rfl⟩
      go_wp2_with fail
      refine (HRV.out _ (HPS.out.past H1.out)).mono ?_
      rintro e w3 ⟨rfl, hp⟩
      have H3 := Lib.hid (H1.out.trans' hp)
      clear hp H1
      go_wp2_with fail
      refine (HA.out _ (HG.out.past H3.out)).mono ?_
      rintro e w4 ⟨rfl, hp⟩
      have H4 := Lib.hid (H3.out.trans' hp)
      clear hp H3
      go_wp2_with fail
      go_ret
      exact ⟨rfl, H4.out⟩
    | true =>
      rw [hv] at HRV
      have hlo := vld_loose hv
      have htl : (textI l).length ≤ 30000 := by rw [text_len]; omega
      have HTe := Lib.hid (fun w h => rtext11_any A n c l w h (by rw [textP_size]; omega))
      have hts : (textP l).size = (textI l).length := by rw [textP_size, text_len]
      have htp : 0 < (textI l).length := by
        rw [text_len]
        unfold lenL
        have := lenP_mono l 0 l.length
        rw [Nat.zero_add] at this
        have h0 : lenP l 0 = 2 + (l.length - 1) := rfl
        omega
      obtain ⟨a, rfl⟩ : ∃ a : Nat, a0 = (a : Int) := ⟨a0.toNat, by omega⟩
      obtain ⟨k, hk⟩ : ∃ k, a % (textP l).size = k := ⟨_, rfl⟩
      have hkl : k < (textI l).length := by rw [← hk, hts]; exact Nat.mod_lt _ htp
      obtain ⟨s, hr, hs9⟩ := read_begin hlo (by omega) k hkl
      have hmod : (a : Int).tmod ((textP l).size : Int) = (k : Int) := by rw [← hk, Int.tmod_eq_emod_of_nonneg (by omega), ← Int.natCast_emod]
      have hex : ints ((textP l).extract 0 k) = (textI l).take k := by rw [ints_extract, List.drop_zero, ints_textP]
      have hez : ((textP l).extract 0 k).size = k := by rw [← ints_len, hex, List.length_take]; omega
      have hsl := fun w => run_slice_string_h (P := Tryd.prog) (w := w) (t := 9) (s := textP l) Tryd.underlying9 .i64 (k : Int) (by omega) (by rw [hts]; omega)
      simp only [Int.toNat_natCast] at hsl
      have HB1 := Lib.hid (fun w hG => by
        have := parse_bad (some ⟨w.heap.size, 0, none⟩) ((textP l).extract 0 k).size (grownCap w ((textP l).extract 0 k).size 0 5) _ (Lib.bytesWorld w 5 ((textP l).extract 0 k)) (sl_bytes w _ (by unfold maxLen; omega)) hG (by omega) k s (by rw [hex]; exact hr) (.inr hs9)
        rw [show badC ((textP l).extract 0 k).size k s = 3 by unfold badC; rw [hez, if_neg (Nat.lt_irrefl _)]] at this
        exact this)
      have hcx : ints (txt [x0]) = [x0] := ints_txt fun y hy => by rw [List.mem_singleton.1 hy]; omega
      have hap : ints (textP l ++ txt [x0]) = textI l ++ [x0] := by rw [ints_append, ints_textP, hcx]
      have haz : (textP l ++ txt [x0]).size = (textP l).size + 1 := by rw [← ints_len, hap, List.length_append, hts]; rfl
      have HB2 := Lib.hid (fun (w : World) (g : Nat) (hg : w.heap.size = g) hG => by
        have := parse_bad (some ⟨w.heap.size, 0, none⟩) (textP l ++ txt [x0]).size (grownCap w (textP l ++ txt [x0]).size 0 5) _ (Lib.bytesWorld w 5 (textP l ++ txt [x0])) (sl_bytes w _ (by unfold maxLen; omega)) hG (by omega) (textI l).length 9 (by rw [hap]; exact read_more hlo (by omega) x0) (.inl (by omega))
        rw [show badC (textP l ++ txt [x0]).size (textI l).length 9 = 4 by unfold badC; rw [if_pos (by omega), if_pos rfl], ← hts, hg] at this
        exact this)
      simp only [valFlt] at HB1 HB2
      have HT1 := Lib.hid (fun w hG => ltold_flt 3 (k : Int) w hG (by omega))
      have HT2 := Lib.hid (fun w hG => ltold_flt 4 ((textP l).size : Int) w hG (by omega))
      simp only [valFlt] at HT1 HT2
      have hadd := fun w : World => run_string_add_sum (P := Tryd.prog) (w := w) (textP l) (txt [x0]) (by rw [txt_size, hts]; simp; omega)
      have hcb := conv_back
      have HPB := Lib.hid past_bytes
      have HCO := Lib.hid (fun (w : World) => conv_sl (P := Tryd.prog) (w := w.alloc (.cells #[.int .u8 x0] 5)) (src := 22) (dst := 9) (e := 5) Tryd.underlying22 Tryd.underlying5 Tryd.underlying9 (Sl.of_own (own_one w 5 x0 rfl (Nat.le_refl _)) (by intro y hy; rw [List.mem_singleton.1 hy]; omega)))
      have hco := HCO.out
      have htz : ((textP l).size : Int) ≠ 0 := by omega
      have htz2 : (((textP l).size : Int) == 0) = false := by rw [beq_eq_false_iff_ne]; omega
      have hai : (a : Int) ≤ 65535 := by omega
      obtain ⟨T, hT⟩ : ∃ T, textP l = T := ⟨_, rfl⟩
      rw [hT] at HTe hmod hsl HB1 HB2 HT2 hadd htz htz2
      obtain ⟨T1, hT1⟩ : ∃ T1, T.extract 0 k = T1 := ⟨_, rfl⟩
      rw [hT1] at hsl HB1
      obtain ⟨T2, hT2⟩ : ∃ T2, T ++ txt [x0] = T2 := ⟨_, rfl⟩
      rw [hT2] at hadd HB2
      clear hP hG hf hn40 hlen hnn hv hlo htl hts htp hk hkl hr hs9 hex hez hcx hap haz hT hT1 hT2 ha hx
      go_enter Tryd.func6, Tryd.ntmps6
      go_wp2_with fail
      refine (HA.out _ HG.out).mono ?_
      rintro e w1 ⟨rfl, hp⟩
      have H1 := Lib.hid hp
      clear hp
      go_wp2_with fail
      refine (HF.out _ (HPS.out.past H1.out)).mono ?_
      rintro e w2 ⟨rfl, rfl⟩
      go_wp2_with fail
      refine (HRV.out _ (HPS.out.past H1.out)).mono ?_
      rintro e w3 ⟨rfl, hp⟩
      have H3 := Lib.hid (H1.out.trans' hp)
      clear hp H1
      go_wp2_with fail
      refine (HTe.out _ (HPS.out.past H3.out)).mono ?_
      rintro e w4 ⟨rfl, q4, hw4⟩
      have H4 : Hid (Past w w4) := Lib.hid (by rw [hw4]; exact H3.out.drewN q4)
      clear hw4 H3
      go_wp2_with fail
      refine (HB1.out _ (HG.out.past (H4.out.trans' (HPB.out _ _)))).mono ?_
      rintro e w5 ⟨rfl, hp⟩
      have H5 := Lib.hid ((H4.out.trans' (HPB.out _ _)).trans' hp)
      clear hp H4
      go_wp2_with fail
      refine (HB2.out (w5.alloc (.cells #[.int .u8 x0] 5)) (w5.heap.size + 1) (by simp) (HG.out.past (H5.out.trans' ((past_alloc8 _ _).trans' (HPB.out _ _))))).mono ?_
      rintro e w6 ⟨rfl, hp⟩
      have H6 := Lib.hid ((H5.out.trans' ((past_alloc8 _ _).trans' (HPB.out _ _))).trans' hp)
      clear hp H5
      go_wp2_with fail
      refine (HT1.out _ (HG.out.err.past H6.out)).mono ?_
      rintro e w7 ⟨rfl, hp⟩
      have H7 := Lib.hid (H6.out.trans' hp)
      clear hp H6
      go_wp2_with fail
      refine (HT2.out _ (HG.out.err.past H7.out)).mono ?_
      rintro e w8 ⟨rfl, hp⟩
      have H8 := Lib.hid (H7.out.trans' hp)
      clear hp H7
      go_wp2_with fail
      go_ret
      exact ⟨rfl, H8.out⟩

def args0 : Array Value := #[.slice none 0 0, .int .u16 0, .int .u8 0]
theorem laid_met (os : Os) : laidMetH Tryd.prog Rows.jsonPartsRow.laid ((laidWorld os).forCall (fun _ _ => 0) ⟨#[], args0, []⟩).memory :=
  laid_world os args0
theorem witness_row (os : Os) {H : Type} (enc : TypeId × Value → H) :
    (OpenSpec.ofChange Rows.jsonPartsSpec).preRow enc Tryd.prog Tryd.f6 Rows.jsonPartsRow.domain false Rows.jsonPartsRow.laid ((laidWorld os).forCall (fun _ _ => 0) ⟨#[], args0, []⟩).memory args0 := by
  have hw : (DataW.whole enc Tryd.prog ((laidWorld os).forCall (fun _ _ => 0) ⟨#[], args0, []⟩).memory Tryd.f6.params.toList (OpenSpec.ofChange Rows.jsonPartsSpec).vars false args0.toList 8).map (fun x => (x.1, x.2.1)) =
      some ([.nil, .lit (.int .u16 0), .lit (.int .u8 0)], []) := by kernel_rfl
  obtain ⟨⟨x1, x2, x3⟩, hx, hx1⟩ := Option.map_eq_some_iff.1 hw
  simp only [Prod.mk.injEq] at hx1
  obtain ⟨rfl, rfl⟩ := hx1
  exact OpenSpec.preRow_of_cond 8 hx (by kernel_rfl) (fun k hk => by cases hk) (by kernel_rfl) (laid_met os)

set_option maxRecDepth 100000 in
set_option maxHeartbeats 2000000 in
theorem lifted (os : Os) (started : os.Started) (H : Type) (enc : TypeId × Value → H) (F : Stop.Interp) :
    ReturnsInHanded {} Tryd.checked os 6 .any ((OpenSpec.ofChange Rows.jsonPartsSpec).preRow enc Tryd.prog Tryd.f6 Rows.jsonPartsRow.domain false Rows.jsonPartsRow.laid) (((OpenSpec.ofChange Rows.jsonPartsSpec).at F).post enc Tryd.prog Tryd.f6 false true false false) := by
  refine returnsInHanded_of_row (C := Tryd.checked) (s := OpenSpec.ofChange Rows.jsonPartsSpec) own started (by kernel_rfl) Tryd.func6
    (witness_row_atRef (enc := enc) (C := Tryd.checked) false (laidWorld os) args0 rfl (by kernel_rfl) (by kernel_rfl) (by kernel_rfl) (witness_row os enc)) ?_
  intro W base args ds gs before hval0 hW _ hcnd _ hL hsh _
  have hval : ∀ (j : Nat) t v, Tryd.f6.params[j]? = some t → args[j]? = some v → Value.okWide Tryd.prog W .any base t v := hval0
  have hW' := hW
  obtain ⟨p, q, hA0, hV, rfl, hfz, hnd⟩ := hW
  have hA : DataW.TrodAll enc Tryd.prog W 0 (fun _ => true) true Tryd.f6.params.toList args.toList ds p := hA0
  rw [Tryd.params6] at hA hval
  obtain ⟨v0, vs0, d0, ds0, p0, q0, hargs, rfl, rfl, h0, r0⟩ := trodAll_cons hA
  obtain ⟨v1, vs1, d1, ds1, p1, q1, rfl, rfl, rfl, h1, r1⟩ := trodAll_cons r0
  obtain ⟨v2, vs2, d2, ds2, p2, q2, rfl, rfl, rfl, h2, r2⟩ := trodAll_cons r1
  obtain ⟨rfl, rfl, rfl⟩ := trodAll_nil r2
  obtain rfl : args = #[v0, v1, v2] := by cases args; simp_all
  obtain ⟨rfl, rfl⟩ := trodVars_none hV
  have k0 := h0
  have lt0 : ∀ x ∈ p0, x.block < W.heap.size := by obtain ⟨m, hm⟩ := k0; exact DataW.trod_lt m _ _ _ hm
  obtain ⟨a0, len0, cap0, l0, rfl, w0⟩ := pairs_of h0 (okWide_slice Tryd.underlying29 (hval 0 29 v0 rfl rfl))
  obtain ⟨a1, rfl, rfl, rfl, w1⟩ := open_int Tryd.underlying52 (hval 1 52 v1 rfl rfl) h1
  obtain ⟨a2, rfl, rfl, rfl, w2⟩ := open_int Tryd.underlying5 (hval 2 5 v2 rfl rfl) h2
  have hG := glob_of_row hL hsh
  clear hA0 hval0
  refine (walk a0 len0 cap0 l0 a1 a2 W w0 w1 w2 hG).mono fun e W' ⟨he, bel⟩ => ?_
  subst he
  exact ⟨_, rfl, _, _, _, [], _, [], hW', trodAll_mk1 (shut_bool Tryd.underlying4 _), (trodAll_cons_mk (Below.trod laidOut (by kernel_rfl) (of_decide_eq_true (by kernel_rfl)) k0 bel lt0) (trodAll_cons_mk (shut_int Tryd.underlying52 w1) (trodAll_cons_mk (shut_int Tryd.underlying5 w2) trodAll_mk0))), rfl, bel.frame _, fun h => by cases h⟩

theorem row_holds : Rows.JsonPartsSaid :=
  OpenClaim.holds_of_cond 6 Tryd.f6 rfl rfl rfl rfl rfl rfl rfl ⟨rfl, rfl, rfl, rfl, rfl⟩ rfl rfl rfl rfl rfl (by kernel_rfl) Tryd.func6 (by kernel_rfl)
    (of_decide_eq_true (by kernel_rfl)) (by unfold Func.isWrapper; first | (rw [if_pos (by decide +kernel)]; kernel_rfl) | (rw [if_neg (by decide +kernel)]; exact ⟨rfl, rfl⟩))
    (fun os started H enc _ F0 => by rw [OpenClaim.pre_eq_preRow]; exact lifted os started H enc F0)

theorem card : Rows.JsonPartsCardSaid :=
  Claim7.holds_tied_plain_at .later [] [.data, .handle, .data, .pinned] true Rows.jsonPartsCard.stood.harness true
    row_holds (fun _ h => by cases h) (by kernel_rfl) (fun _ h => by cases h) jsonParts_row_tie rfl ⟨rfl, rfl⟩ (by kernel_rfl) rfl
    (fun f fn hf hfn => by
      obtain rfl : f = 6 := Option.some.inj ((show Tryd.prog.funcNamed "pyx/pyxlaw11.JsonParts" = some 6 by kernel_rfl).symm.trans hf) |>.symm
      obtain rfl : fn = Tryd.f6 := (Option.some.inj (Tryd.func6.symm.trans hfn)).symm
      exact ⟨by kernel_rfl, fun j t ht => by
        rw [Tryd.params6] at ht
        have h3 : t = 29 ∨ t = 52 ∨ t = 5 := by
          rcases j with _ | _ | _ | j
          · exact .inl (by simpa using ht.symm)
          · exact .inr (.inl (by simpa using ht.symm))
          · exact .inr (.inr (by simpa using ht.symm))
          · simp at ht
        rcases h3 with rfl | rfl | rfl
        · exact (show Tryd.prog.wantsStandIn 29 = false by kernel_rfl)
        · exact (show Tryd.prog.wantsStandIn 52 = false by kernel_rfl)
        · exact (show Tryd.prog.wantsStandIn 5 = false by kernel_rfl)⟩)
    (by kernel_rfl)


end Go.Proofs.YtkhflpnapjoomaaDoor.jsonParts
