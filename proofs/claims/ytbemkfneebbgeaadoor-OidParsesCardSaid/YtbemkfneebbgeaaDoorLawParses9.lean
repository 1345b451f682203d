/- For every string the law OidParses of package pyxlaw09 returns true. -/
import Derived.Test.YtbemkfneebbgeaaDoorFrame9
import Derived.Test.YtbemkfneebbgeaaDoorO9L
namespace Go.Proofs.YtbemkfneebbgeaaDoor.oidParses
open Go.RowKit Go.ChangeShapes Go.WideShapes Go.ChangeAt Go.ChangeMaps
set_option linter.unusedVariables false

set_option maxHeartbeats 4000000 in
set_option maxRecDepth 100000 in
theorem walk' (H : Prog9) (S : ByteArray) (w : World) (hG : Glob w) :
    Calls Tryd.prog 4 #[.string S] w fun e w' => e = .returned (.bool true) ∧ Past w w' := by
  have HG := Lib.hid hG
  have HA := Lib.hid (fun w1 (hp : Past w w1) => awake9 H w1 (HG.out.past hp))
  clear hG
  by_cases hbig : 500 < S.size
  · have hbi : (500 : Int) < (S.size : Int) := by omega
    clear H hbig
    go_enter Tryd.func4, Tryd.ntmps4
    go_wp2_with fail
    refine (HA.out _ (by first | exact Below.refl _ _ | exact H1.out | exact H1.out.1 | exact H2.out | exact H2.out.1 | exact H3.out | exact H3.out.1 | exact H4.out.1 | exact H5.out.1 | exact H6.out.1 | exact H7.out.1)).mono ?_
    rintro e w1 ⟨rfl, hp⟩
    have H1 := Lib.hid hp
    clear hp
    go_wp2_with fail
    refine (HA.out _ (by first | exact Below.refl _ _ | exact H1.out | exact H1.out.1 | exact H2.out | exact H2.out.1 | exact H3.out | exact H3.out.1 | exact H4.out.1 | exact H5.out.1 | exact H6.out.1 | exact H7.out.1)).mono ?_
    rintro e w2 ⟨rfl, hp⟩
    have H2 := Lib.hid (H1.out.trans' hp)
    clear hp H1
    go_wp2_with fail
    go_ret
    exact ⟨rfl, H2.out⟩
  have hbi : ¬ (500 : Int) < (S.size : Int) := by omega
  have HPa := Lib.hid (fun w1 (hp : Past w w1) => H.parse S w1 (HG.out.past hp) (by omega))
  have HRP := Lib.hid (fun w1 => rparse_any S (by omega) w1)
  cases hq : parseL (ints S) with
  | none =>
    rw [hq] at HPa HRP
    clear H hbig hq
    go_enter Tryd.func4, Tryd.ntmps4
    go_wp2_with fail
    refine (HA.out _ (by first | exact Below.refl _ _ | exact H1.out | exact H1.out.1 | exact H2.out | exact H2.out.1 | exact H3.out | exact H3.out.1 | exact H4.out.1 | exact H5.out.1 | exact H6.out.1 | exact H7.out.1)).mono ?_
    rintro e w1 ⟨rfl, hp⟩
    have H1 : Hid (Past w w1) := Lib.hid hp
    clear hp
    go_wp2_with fail
    refine (HPa.out _ (by first | exact Below.refl _ _ | exact H1.out | exact H1.out.1 | exact H2.out | exact H2.out.1 | exact H3.out | exact H3.out.1 | exact H4.out.1 | exact H5.out.1 | exact H6.out.1 | exact H7.out.1)).mono ?_
    rintro e w2 ⟨A, c, rfl, hs, hp⟩
    have H2 : Hid (Past w w2 ∧ SlK .u32 w2 A 0 c []) := Lib.hid ⟨H1.out.trans' hp, hs⟩
    clear hp H1 hs
    go_wp2_with fail
    refine (HRP.out _).mono ?_
    rintro e w3 ⟨rfl, hp⟩
    have H3 : Hid (Past w w3 ∧ SlK .u32 w3 A 0 c []) := Lib.hid ⟨H2.out.1.trans' hp, H2.out.2.past hp⟩
    clear hp H2
    go_wp2_with fail
    refine (equal_any _ _ _ _ _ _ _ _ _ H3.out.2 (SlK.nil .u32 w3)).mono ?_
    rintro e w4 ⟨rfl, m4, hw4⟩
    rw [sameB_refl]
    have H4 : Hid (Past w w4) := by rw [hw4]; exact Lib.hid (H3.out.1.trans' (Past.ofDrewN w3 m4))
    clear hw4 H3
    go_wp2_with fail
    go_ret
    exact ⟨rfl, H4.out⟩
  | some l =>
    rw [hq] at HPa HRP
    obtain ⟨ht, hk, hr⟩ := parse_text hq
    have hl := okL_len hk
    have HTx := Lib.hid (fun w1 A c (h : SlK .u32 w1 A l.length c l) (hp : Past w w1) => H.text A l.length c l w1 (HG.out.past hp) h hr (by omega))
    rw [ht] at HTx
    have hts := beq_str S
    clear H hbig hq ht hk hr
    go_enter Tryd.func4, Tryd.ntmps4
    go_wp2_with fail
    refine (HA.out _ (by first | exact Below.refl _ _ | exact H1.out | exact H1.out.1 | exact H2.out | exact H2.out.1 | exact H3.out | exact H3.out.1 | exact H4.out.1 | exact H5.out.1 | exact H6.out.1 | exact H7.out.1)).mono ?_
    rintro e w1 ⟨rfl, hp⟩
    have H1 : Hid (Past w w1) := Lib.hid hp
    clear hp
    go_wp2_with fail
    refine (HPa.out _ (by first | exact Below.refl _ _ | exact H1.out | exact H1.out.1 | exact H2.out | exact H2.out.1 | exact H3.out | exact H3.out.1 | exact H4.out.1 | exact H5.out.1 | exact H6.out.1 | exact H7.out.1)).mono ?_
    rintro e w2 ⟨A, c, rfl, hs, hp⟩
    have H2 : Hid (Past w w2 ∧ SlK .u32 w2 A l.length c l) := Lib.hid ⟨H1.out.trans' hp, hs⟩
    clear hp H1 hs
    generalize hll : l.length = n at *
    clear hll
    go_wp2_with fail
    refine (HRP.out _).mono ?_
    rintro e w3 ⟨B, m, d, rfl, hs, _, hp⟩
    have H3 : Hid (Past w w3 ∧ SlK .u32 w3 A n c l ∧ SlK .u32 w3 B m d l) := Lib.hid ⟨H2.out.1.trans' hp, H2.out.2.past hp, hs⟩
    clear hp H2 hs
    go_wp2_with fail
    refine (equal_any _ _ _ _ _ _ _ _ _ H3.out.2.1 H3.out.2.2).mono ?_
    rintro e w4 ⟨rfl, m4, hw4⟩
    rw [sameB_refl]
    have hp4 : Past w3 w4 := by rw [hw4]; exact Past.ofDrewN w3 m4
    have H4 : Hid (Past w w4 ∧ SlK .u32 w4 A n c l) := Lib.hid ⟨H3.out.1.trans' hp4, H3.out.2.1.past hp4⟩
    clear hw4 hp4 H3
    go_wp2_with fail
    refine (HTx.out _ _ _ H4.out.2 (by first | exact Below.refl _ _ | exact H1.out | exact H1.out.1 | exact H2.out | exact H2.out.1 | exact H3.out | exact H3.out.1 | exact H4.out.1 | exact H5.out.1 | exact H6.out.1 | exact H7.out.1)).mono ?_
    rintro e w5 ⟨rfl, hp⟩
    have H5 : Hid (Past w w5) := Lib.hid (H4.out.1.trans' hp)
    clear hp H4
    go_wp2_with fail
    go_ret
    exact ⟨rfl, H5.out⟩

theorem walk (H9 : Prog9) (S : ByteArray) (w : World) (h : S.size ≤ maxLen) (hG : Glob w) :
    Calls Tryd.prog 4 #[.string S] w fun e w' => e = .returned (.bool true) ∧ Past w w' := walk' H9 S w hG

def args0 : Array Value := #[.string ⟨#[]⟩]
theorem laid_met (os : Os) : laidMetH Tryd.prog Rows.oidParsesRow.laid ((laidWorld os).forCall (fun _ _ => 0) ⟨#[], args0, []⟩).memory :=
  laid_world os args0
theorem witness_row (os : Os) {H : Type} (enc : TypeId × Value → H) :
    (OpenSpec.ofChange Rows.oidParsesSpec).preRow enc Tryd.prog Tryd.f4 Rows.oidParsesRow.domain false Rows.oidParsesRow.laid ((laidWorld os).forCall (fun _ _ => 0) ⟨#[], args0, []⟩).memory args0 := by
  have hw : (DataW.whole enc Tryd.prog ((laidWorld os).forCall (fun _ _ => 0) ⟨#[], args0, []⟩).memory Tryd.f4.params.toList (OpenSpec.ofChange Rows.oidParsesSpec).vars false args0.toList 8).map (fun x => (x.1, x.2.1)) =
      some ([.lit (.string [])], []) := by kernel_rfl
  obtain ⟨⟨x1, x2, x3⟩, hx, hx1⟩ := Option.map_eq_some_iff.1 hw
  simp only [Prod.mk.injEq] at hx1
  obtain ⟨rfl, rfl⟩ := hx1
  exact OpenSpec.preRow_of_cond 8 hx (by kernel_rfl) (fun k hk => by cases hk) (by kernel_rfl) (laid_met os)

set_option maxRecDepth 100000 in
set_option maxHeartbeats 2000000 in
theorem lifted (H8 : Prog9) (os : Os) (started : os.Started) (H : Type) (enc : TypeId × Value → H) (F : Stop.Interp) :
    ReturnsInHanded {} Tryd.checked os 4 .any ((OpenSpec.ofChange Rows.oidParsesSpec).preRow enc Tryd.prog Tryd.f4 Rows.oidParsesRow.domain false Rows.oidParsesRow.laid) (((OpenSpec.ofChange Rows.oidParsesSpec).at F).post enc Tryd.prog Tryd.f4 false true false false) := by
  refine returnsInHanded_of_row (C := Tryd.checked) (s := OpenSpec.ofChange Rows.oidParsesSpec) own started (by kernel_rfl) Tryd.func4
    (witness_row_atRef (enc := enc) (C := Tryd.checked) false (laidWorld os) args0 rfl (by kernel_rfl) (by kernel_rfl) (by kernel_rfl) (witness_row os enc)) ?_
  intro W base args ds gs before hval0 hW _ hcnd _ hL hsh _
  have hval : ∀ (j : Nat) t v, Tryd.f4.params[j]? = some t → args[j]? = some v → Value.okWide Tryd.prog W .any base t v := hval0
  have hW' := hW
  obtain ⟨p, q, hA0, hV, rfl, hfz, hnd⟩ := hW
  have hA : DataW.TrodAll enc Tryd.prog W 0 (fun _ => true) true Tryd.f4.params.toList args.toList ds p := hA0
  rw [Tryd.params4] at hA hval
  obtain ⟨v0, vs0, d0, ds0, p0, q0, hargs, rfl, rfl, h0, r0⟩ := trodAll_cons hA
  obtain ⟨rfl, rfl, rfl⟩ := trodAll_nil r0
  obtain rfl : args = #[v0] := by cases args; simp_all
  obtain ⟨rfl, rfl⟩ := trodVars_none hV
  obtain ⟨s0, rfl, rfl, rfl, ws0⟩ := open_string Tryd.underlying9 (hval 0 9 v0 rfl rfl) h0
  have hG := glob_of_row hL hsh
  clear hA0 hval0
  refine (walk H8 s0 W ws0 hG).mono fun e W' ⟨he, bel⟩ => ?_
  subst he
  exact ⟨_, rfl, _, _, _, [], _, [], hW', trodAll_mk1 (shut_bool Tryd.underlying4 _), (trodAll_cons_mk (shut_string Tryd.underlying9 ws0) trodAll_mk0), rfl, bel.frame _, fun h => by cases h⟩

theorem row_holds (H8 : Prog9) : Rows.OidParsesSaid :=
  OpenClaim.holds_of_cond 4 Tryd.f4 rfl rfl rfl rfl rfl rfl rfl ⟨rfl, rfl, rfl, rfl, rfl⟩ rfl rfl rfl rfl rfl (by kernel_rfl) Tryd.func4 (by kernel_rfl)
    (of_decide_eq_true (by kernel_rfl)) (by unfold Func.isWrapper; first | (rw [if_pos (by decide +kernel)]; kernel_rfl) | (rw [if_neg (by decide +kernel)]; exact ⟨rfl, rfl⟩))
    (fun os started H enc _ F0 => by rw [OpenClaim.pre_eq_preRow]; exact lifted H8 os started H enc F0)

theorem card (H8 : Prog9) : Rows.OidParsesCardSaid :=
  Claim7.holds_tied_plain_at .later [] [.data, .data, .data, .data, .sentinel, .sentinel, .pinned] true Rows.oidParsesCard.stood.harness true
    (row_holds H8) (fun _ h => by cases h) (by kernel_rfl) (fun _ h => by cases h) oidParses_row_tie rfl ⟨rfl, rfl⟩ (by kernel_rfl) rfl
    (fun f fn hf hfn => by
      obtain rfl : f = 4 := Option.some.inj ((show Tryd.prog.funcNamed "pyx/pyxlaw09.OidParses" = some 4 by kernel_rfl).symm.trans hf) |>.symm
      obtain rfl : fn = Tryd.f4 := (Option.some.inj (Tryd.func4.symm.trans hfn)).symm
      exact ⟨by kernel_rfl, fun j t ht => by
        rw [Tryd.params4] at ht
        obtain rfl : t = 9 := by
          rcases j with _ | j
          · simpa using ht.symm
          · simp at ht
        exact (show Tryd.prog.wantsStandIn 9 = false by kernel_rfl)⟩)
    (by kernel_rfl)

theorem proved : Rows.OidParsesCardSaid := card prog9


end Go.Proofs.YtbemkfneebbgeaaDoor.oidParses
