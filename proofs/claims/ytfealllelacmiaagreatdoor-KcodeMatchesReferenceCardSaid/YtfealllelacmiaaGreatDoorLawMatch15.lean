/- KcodeMatchesReference: every key, changed in any way, is accepted exactly if the reference implementation accepts it, or has its error; for every input of the statement, with no condition beyond the card's. -/
import Derived.Test.YtfealllelacmiaaGreatDoorOp15
namespace Go.Proofs.YtfealllelacmiaaGreatDoor.kcodeMatchesReference
open Go.RowKit Go.ChangeShapes Go.WideShapes Go.ChangeAt
set_option linter.unusedVariables false

set_option maxRecDepth 100000 in
set_option maxHeartbeats 4000000 in
theorem walk (a d s : Int) (P : Option Addr) (m pc : Nat) (V : Nat → Int × Int × Int) (w : World) (ha : (Lit.int .i64 a).wf = true) (hd : (Lit.int .u8 d).wf = true) (hs : (Lit.int .u32 s).wf = true) (hC : Chs w P m V) (hml : m ≤ maxLen) (hG : Glob15 w) :
    Calls Tryz.prog 3 #[.int .i64 a, .int .u8 d, .int .u32 s, .slice P m pc] w fun e w' => e = .returned (.bool true) ∧ Past w w' := by
  have HAW := Lib.hid (fun w' (h : Past w w') => awake15 w' (hG.past h))
  have hdb := bounds_u8 hd
  have hsb := bounds_u32 hs
  have HG := Lib.hid hG
  have HC := Lib.hid hC
  have hm0 : (0 : Int) ≤ (m : Int) := by omega
  by_cases hm : m ≤ 20
  · have hmI : (m : Int) ≤ 20 := by omega
    obtain ⟨f, hf⟩ : ∃ f : Nat, 1 + d % 3 = (f : Int) := ⟨(1 + d % 3).toNat, by omega⟩
    have hfb : 1 ≤ f ∧ f ≤ 3 := by omega
    have HWW : Hid (d.tmod 3 = d % 3 ∧ IntKind.i64.wrap d = d ∧ IntKind.i64.wrap (1 + d % 3) = (f : Int) ∧ wrap64 (f : Int) = (f : Int) ∧ 1 + d % 3 = (f : Int)) := Lib.hid ⟨Int.tmod_eq_emod_of_nonneg (by omega), by rw [IntKind.wrap_i64]; omega, by rw [hf, IntKind.wrap_i64]; omega, IntWalk.wrap64_in _ (by omega), hf⟩
    have HPU := Lib.hid (fun w => rpublic_any f s w hfb (by omega))
    have HPR := Lib.hid (fun w => rprivate_any f s w hfb (by omega))
    have HPL : Hid (0 < (pubB f s).length ∧ (pubB f s).length ≤ 10000) := Lib.hid (by rw [pubB_len]; omega)
    have HVL : Hid (0 < (privB f s).length ∧ (privB f s).length ≤ 10000) := Lib.hid (by rw [privB_len]; omega)
    have HCH := Lib.hid (fun A n c xs w' (h : Past w w') (h1 : Sl w' A n c xs) h2 h3 => changed_any A n c xs P m pc V w' h1 h2 h3 (hC.past h) hm)
    generalize pubB f s = pb at *
    generalize privB f s = vb at *
    clear ha hd hs hG hC hdb hsb hf hfb hml hm
    obtain ⟨hw1, hw2, hw3, hw4, hw5⟩ := HWW.out
    go_enter Tryz.func3, Tryz.ntmps3
    go_wp2_with fail
    refine (HAW.out w (Below.refl _ _)).mono ?_
    rintro e1 w1 ⟨rfl, hp1⟩
    have HP1 := Lib.hid hp1
    clear hp1
    go_wp2_with fail
    clear hw1 hw2 hw3 hw4 hw5
    refine (HPU.out w1).mono ?_
    rintro e2 w2 ⟨v2, rfl, hown, hrng, hp2⟩
    obtain ⟨A2, c2, rfl⟩ := own_slice hown
    have HP2 := Lib.hid (HP1.out.trans' hp2)
    have HH := Lib.hid (HCH.out A2 _ c2 pb w2 HP2.out (Sl.of_own hown hrng) HPL.out.1 HPL.out.2)
    clear hown hrng hp2
    go_wp2_with fail
    refine HH.out.mono ?_
    rintro e3 w3 ⟨v3, rfl, hown, hrng, hp3⟩
    obtain ⟨A3, c3, rfl⟩ := own_slice hown
    have HP3 := Lib.hid (HP2.out.trans' hp3)
    have HS3 := Lib.hid (Sl.of_own hown hrng)
    have HL3 : Hid ((chg V pb m).length ≤ 10000) := Lib.hid (Nat.le_trans (chg_len V pb m) HPL.out.2)
    clear hown hrng hp3 HH
    go_wp2_with fail
    refine (HPR.out w3).mono ?_
    rintro e4 w4 ⟨v4, rfl, hown, hrng, hp4⟩
    obtain ⟨A4, c4, rfl⟩ := own_slice hown
    have HP4 := Lib.hid (HP3.out.trans' hp4)
    have HS4 := Lib.hid (HS3.out.past hp4)
    have HH := Lib.hid (HCH.out A4 _ c4 vb w4 HP4.out (Sl.of_own hown hrng) HVL.out.1 HVL.out.2)
    clear hown hrng hp4 HS3
    go_wp2_with fail
    refine HH.out.mono ?_
    rintro e5 w5 ⟨v5, rfl, hown, hrng, hp5⟩
    obtain ⟨A5, c5, rfl⟩ := own_slice hown
    have HP5 := Lib.hid (HP4.out.trans' hp5)
    have HSP := Lib.hid (HS4.out.past hp5)
    have HSS := Lib.hid (Sl.of_own hown hrng)
    have HL5 : Hid ((chg V vb m).length ≤ 10000) := Lib.hid (Nat.le_trans (chg_len V vb m) HVL.out.2)
    clear hown hrng hp5 HH HS4
    generalize chg V pb m = ps at *
    generalize chg V vb m = ss at *
    have HCPP := Lib.hid (fun w' (h : Past w5 w') => kcheckPublic_any a A3 _ c3 ps w' (HSP.out.past h) HL3.out (HG.out.past (HP5.out.trans' h)).1)
    have HCPS := Lib.hid (fun w' (h : Past w5 w') => kcheckPublic_any a A5 _ c5 ss w' (HSS.out.past h) HL5.out (HG.out.past (HP5.out.trans' h)).1)
    have HCSP := Lib.hid (fun w' (h : Past w5 w') => kcheckPrivate_any a A3 _ c3 ps w' (HSP.out.past h) HL3.out (HG.out.past (HP5.out.trans' h)))
    have HCSS := Lib.hid (fun w' (h : Past w5 w') => kcheckPrivate_any a A5 _ c5 ss w' (HSS.out.past h) HL5.out (HG.out.past (HP5.out.trans' h)))
    have HRPP := Lib.hid (fun w' (h : Past w5 w') => rcheckPublic_any a A3 _ c3 ps w' (HSP.out.past h) HL3.out)
    have HRPS := Lib.hid (fun w' (h : Past w5 w') => rcheckPublic_any a A5 _ c5 ss w' (HSS.out.past h) HL5.out)
    have HRSP := Lib.hid (fun w' (h : Past w5 w') => rcheckPrivate_any a A3 _ c3 ps w' (HSP.out.past h) HL3.out)
    have HRSS := Lib.hid (fun w' (h : Past w5 w') => rcheckPrivate_any a A5 _ c5 ss w' (HSS.out.past h) HL5.out)
    have HTPP := Lib.hid (fun w' (h : Past w5 w') => told_any _ w' (errOk_pub a ps HL3.out) (HG.out.past (HP5.out.trans' h)).2)
    have HTPS := Lib.hid (fun w' (h : Past w5 w') => told_any _ w' (errOk_pub a ss HL5.out) (HG.out.past (HP5.out.trans' h)).2)
    have HTSP := Lib.hid (fun w' (h : Past w5 w') => told_any _ w' (errOk_priv a ps HL3.out) (HG.out.past (HP5.out.trans' h)).2)
    have HTSS := Lib.hid (fun w' (h : Past w5 w') => told_any _ w' (errOk_priv a ss HL5.out) (HG.out.past (HP5.out.trans' h)).2)
    have HP5' := Lib.hid (show Past w5 w5 from Below.refl _ _)
    generalize errV (chkPub a ps) = e1 at *
    generalize errV (chkPub a ss) = e2 at *
    generalize errV (chkPriv a ps) = e3 at *
    generalize errV (chkPriv a ss) = e4 at *
    generalize resC (chkPub a ps) = r1 at *
    generalize resC (chkPub a ss) = r2 at *
    generalize resC (chkPriv a ps) = r3 at *
    generalize resC (chkPriv a ss) = r4 at *
    go_wp2_with fail
    refine (HCPP.out w5 HP5'.out).mono ?_
    rintro e10 w10 ⟨rfl, hp10⟩
    have HP10 := Lib.hid (HP5'.out.trans' hp10)
    clear hp10
    go_wp2_with fail
    refine (HRPP.out w10 HP10.out).mono ?_
    rintro e11 w11 ⟨rfl, hp11⟩
    have HP11 := Lib.hid (HP10.out.trans' hp11)
    clear hp11
    go_wp2_with fail
    refine (HTPP.out w11 HP11.out).mono ?_
    rintro e12 w12 ⟨rfl, hp12⟩
    have HP12 := Lib.hid (HP11.out.trans' hp12)
    clear hp12
    go_wp2_with fail
    refine (HCSS.out w12 HP12.out).mono ?_
    rintro e20 w20 ⟨rfl, hp20⟩
    have HP20 := Lib.hid (HP12.out.trans' hp20)
    clear hp20
    go_wp2_with fail
    refine (HRSS.out w20 HP20.out).mono ?_
    rintro e21 w21 ⟨rfl, hp21⟩
    have HP21 := Lib.hid (HP20.out.trans' hp21)
    clear hp21
    go_wp2_with fail
    refine (HTSS.out w21 HP21.out).mono ?_
    rintro e22 w22 ⟨rfl, hp22⟩
    have HP22 := Lib.hid (HP21.out.trans' hp22)
    clear hp22
    go_wp2_with fail
    refine (HCPS.out w22 HP22.out).mono ?_
    rintro e30 w30 ⟨rfl, hp30⟩
    have HP30 := Lib.hid (HP22.out.trans' hp30)
    clear hp30
    go_wp2_with fail
    refine (HRPS.out w30 HP30.out).mono ?_
    rintro e31 w31 ⟨rfl, hp31⟩
    have HP31 := Lib.hid (HP30.out.trans' hp31)
    clear hp31
    go_wp2_with fail
    refine (HTPS.out w31 HP31.out).mono ?_
    rintro e32 w32 ⟨rfl, hp32⟩
    have HP32 := Lib.hid (HP31.out.trans' hp32)
    clear hp32
    go_wp2_with fail
    refine (HCSP.out w32 HP32.out).mono ?_
    rintro e40 w40 ⟨rfl, hp40⟩
    have HP40 := Lib.hid (HP32.out.trans' hp40)
    clear hp40
    go_wp2_with fail
    refine (HRSP.out w40 HP40.out).mono ?_
    rintro e41 w41 ⟨rfl, hp41⟩
    have HP41 := Lib.hid (HP40.out.trans' hp41)
    clear hp41
    go_wp2_with fail
    refine (HTSP.out w41 HP41.out).mono ?_
    rintro e42 w42 ⟨rfl, hp42⟩
    have HP42 := Lib.hid (HP41.out.trans' hp42)
    clear hp42
    go_wp2_with fail
    go_ret
    exact ⟨rfl, HP5.out.trans' HP42.out⟩
  · have hmI : ¬ (m : Int) ≤ 20 := by omega
    have hmI2 : 20 < (m : Int) := by omega
    clear ha hd hs hG hC hdb hsb hml hm
    go_enter Tryz.func3, Tryz.ntmps3
    go_wp2_with fail
    refine (HAW.out w (Below.refl _ _)).mono ?_
    rintro e w1 ⟨rfl, hp1⟩
    have HP1 := Lib.hid hp1
    clear hp1
    go_wp2_with fail
    refine (HAW.out w1 HP1.out).mono ?_
    rintro e w2 ⟨rfl, hp2⟩
    have HP2 := Lib.hid (HP1.out.trans' hp2)
    clear hp2
    go_wp2_with fail
    go_ret
    exact ⟨rfl, HP2.out⟩
def args0 : Array Value := #[.int .i64 0, .int .u8 0, .int .u32 0, .slice none 0 0]
theorem laid_met (os : Os) : laidMetH Tryz.prog Rows.kcodeMatchesReferenceRow.laid ((laidWorld os).forCall (fun _ _ => 0) ⟨#[], args0, []⟩).memory :=
  laid_world os args0
theorem witness_row (os : Os) {H : Type} (enc : TypeId × Value → H) :
    (OpenSpec.ofChange Rows.kcodeMatchesReferenceSpec).preRow enc Tryz.prog Tryz.f3 Rows.kcodeMatchesReferenceRow.domain false Rows.kcodeMatchesReferenceRow.laid ((laidWorld os).forCall (fun _ _ => 0) ⟨#[], args0, []⟩).memory args0 := by
  have hw : (DataW.whole enc Tryz.prog ((laidWorld os).forCall (fun _ _ => 0) ⟨#[], args0, []⟩).memory Tryz.f3.params.toList (OpenSpec.ofChange Rows.kcodeMatchesReferenceSpec).vars false args0.toList 8).map (fun x => (x.1, x.2.1)) =
      some ([.lit (.int .i64 0), .lit (.int .u8 0), .lit (.int .u32 0), .nil], []) := by kernel_rfl
  obtain ⟨⟨x1, x2, x3⟩, hx, hx1⟩ := Option.map_eq_some_iff.1 hw
  simp only [Prod.mk.injEq] at hx1
  obtain ⟨rfl, rfl⟩ := hx1
  exact OpenSpec.preRow_of_cond 8 hx (by kernel_rfl) (fun k hk => by cases hk) (by kernel_rfl) (laid_met os)

set_option maxRecDepth 100000 in
set_option maxHeartbeats 2000000 in
theorem lifted (os : Os) (started : os.Started) (H : Type) (enc : TypeId × Value → H) (F : Stop.Interp) :
    ReturnsInHanded {} Tryz.checked os 3 .any ((OpenSpec.ofChange Rows.kcodeMatchesReferenceSpec).preRow enc Tryz.prog Tryz.f3 Rows.kcodeMatchesReferenceRow.domain false Rows.kcodeMatchesReferenceRow.laid) (((OpenSpec.ofChange Rows.kcodeMatchesReferenceSpec).at F).post enc Tryz.prog Tryz.f3 false true false false) := by
  refine returnsInHanded_of_row (C := Tryz.checked) (s := OpenSpec.ofChange Rows.kcodeMatchesReferenceSpec) own started (by kernel_rfl) Tryz.func3
    (witness_row_atRef (enc := enc) (C := Tryz.checked) false (laidWorld os) args0 rfl (by kernel_rfl) (by kernel_rfl) (by kernel_rfl) (witness_row os enc)) ?_
  intro W base args ds gs before hval0 hW _ hcnd _ hL hsh _
  have hval : ∀ (j : Nat) t v, Tryz.f3.params[j]? = some t → args[j]? = some v → Value.okWide Tryz.prog W .any base t v := hval0
  have hW' := hW
  obtain ⟨p, q, hA0, hV, rfl, hfz, hnd⟩ := hW
  have hA : DataW.TrodAll enc Tryz.prog W 0 (fun _ => true) true Tryz.f3.params.toList args.toList ds p := hA0
  rw [Tryz.params3] at hA hval
  obtain ⟨v0, vs0, d0, ds0, p0, q0, hargs, rfl, rfl, h0, r0⟩ := trodAll_cons hA
  obtain ⟨v1, vs1, d1, ds1, p1, q1, rfl, rfl, rfl, h1, r1⟩ := trodAll_cons r0
  obtain ⟨v2, vs2, d2, ds2, p2, q2, rfl, rfl, rfl, h2, r2⟩ := trodAll_cons r1
  obtain ⟨v3, vs3, d3, ds3, p3, q3, rfl, rfl, rfl, h3, r3⟩ := trodAll_cons r2
  obtain ⟨rfl, rfl, rfl⟩ := trodAll_nil r3
  obtain rfl : args = #[v0, v1, v2, v3] := by cases args; simp_all
  obtain ⟨rfl, rfl⟩ := trodVars_none hV
  obtain ⟨a0, rfl, rfl, rfl, w0⟩ := open_int Tryz.underlying3 (hval 0 3 v0 rfl rfl) h0
  obtain ⟨a1, rfl, rfl, rfl, w1⟩ := open_int Tryz.underlying5 (hval 1 5 v1 rfl rfl) h1
  obtain ⟨a2, rfl, rfl, rfl, w2⟩ := open_int Tryz.underlying22 (hval 2 22 v2 rfl rfl) h2
  have k3 := h3
  have lt3 : ∀ x ∈ p3, x.block < W.heap.size := by obtain ⟨m, hm⟩ := k3; exact DataW.trod_lt m _ _ _ hm
  obtain ⟨fuel3, hf3⟩ := h3
  obtain ⟨a30, len30, cap30, e3⟩ := okWide_slice Tryz.underlying23 (hval 3 23 v3 rfl rfl)
  rw [e3] at hf3
  obtain ⟨a3, len3, cap3, l3, f3, bl3, w3⟩ := chs_of (by simpa [Value.cells] using hf3)
  obtain rfl : v3 = .slice a3 len3 cap3 := e3.trans f3
  have hG := glob_of_row hL hsh
  clear hA0 hval0
  refine (walk a0 a1 a2 a3 len3 cap3 l3 W w0 w1 w2 w3 bl3 hG).mono fun e W' ⟨he, bel⟩ => ?_
  subst he
  exact ⟨_, rfl, _, _, _, [], _, [], hW', trodAll_mk1 (shut_bool Tryz.underlying4 _), (trodAll_cons_mk (shut_int Tryz.underlying3 w0) (trodAll_cons_mk (shut_int Tryz.underlying5 w1) (trodAll_cons_mk (shut_int Tryz.underlying22 w2) (trodAll_cons_mk (Below.trod laidOut (by kernel_rfl) (of_decide_eq_true (by kernel_rfl)) k3 bel lt3) trodAll_mk0)))), rfl, bel.frame _, fun h => by cases h⟩

theorem row_holds : Rows.KcodeMatchesReferenceSaid :=
  OpenClaim.holds_of_cond 3 Tryz.f3 rfl rfl rfl rfl rfl rfl rfl ⟨rfl, rfl, rfl, rfl, rfl⟩ rfl rfl rfl rfl rfl (by kernel_rfl) Tryz.func3 (by kernel_rfl)
    (of_decide_eq_true (by kernel_rfl)) (by unfold Func.isWrapper; first | (rw [if_pos (by decide +kernel)]; kernel_rfl) | (rw [if_neg (by decide +kernel)]; exact ⟨rfl, rfl⟩))
    (fun os started H enc _ F0 => by rw [OpenClaim.pre_eq_preRow]; exact lifted os started H enc F0)

theorem card : Rows.KcodeMatchesReferenceCardSaid :=
  Claim7.holds_tied_plain_at .later [] [.data, .data, .data, .data, .handle, .sentinel, .sentinel, .data, .data, .data, .data, .pinned] true Rows.kcodeMatchesReferenceCard.stood.harness true
    row_holds (fun _ h => by cases h) (by kernel_rfl) (fun _ h => by cases h) kcodeMatchesReference_row_tie rfl ⟨rfl, rfl⟩ (by kernel_rfl) rfl
    (fun f fn hf hfn => by
      obtain rfl : f = 3 := Option.some.inj ((show Tryz.prog.funcNamed "pyx/pyxlaw15.KcodeMatchesReference" = some 3 by kernel_rfl).symm.trans hf) |>.symm
      obtain rfl : fn = Tryz.f3 := (Option.some.inj (Tryz.func3.symm.trans hfn)).symm
      exact ⟨by kernel_rfl, fun j t ht => by
        rw [Tryz.params3] at ht
        have h3 : t = 3 ∨ t = 5 ∨ t = 22 ∨ t = 23 := by
          rcases j with _ | _ | _ | _ | j
          · exact .inl (by simpa using ht.symm)
          · exact .inr (.inl (by simpa using ht.symm))
          · exact .inr (.inr (.inl (by simpa using ht.symm)))
          · exact .inr (.inr (.inr (by simpa using ht.symm)))
          · simp at ht
        rcases h3 with rfl | rfl | rfl | rfl
        · exact (show Tryz.prog.wantsStandIn 3 = false by kernel_rfl)
        · exact (show Tryz.prog.wantsStandIn 5 = false by kernel_rfl)
        · exact (show Tryz.prog.wantsStandIn 22 = false by kernel_rfl)
        · exact (show Tryz.prog.wantsStandIn 23 = false by kernel_rfl)⟩)
    (by kernel_rfl)

