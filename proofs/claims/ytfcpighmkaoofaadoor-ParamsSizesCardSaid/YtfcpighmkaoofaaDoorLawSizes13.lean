/- For every number the law ParamsSizes of package pyxlaw13 returns true, where the variables hold what the program's text lays. -/
import Derived.Test.YtfcpighmkaoofaaDoorSzA
import Derived.Test.YtfcpighmkaoofaaDoorSzB
import Derived.Test.YtfcpighmkaoofaaDoorSzC
namespace Go.Proofs.YtfcpighmkaoofaaDoor.paramsSizes
open Go.RowKit Go.ChangeShapes Go.WideShapes Go.ChangeAt
set_option linter.unusedVariables false

theorem walk (x : Int) (w : World) (hx : (Lit.int .u8 x).wf = true) (hG : Glob13 w) : Calls Tryd.prog 7 #[.int .u8 x] w fun e w' => e = .returned (.bool true) ∧ Past w w' := by
  obtain ⟨h0, h1⟩ := bounds_u8 hx
  have hm : 0 ≤ x.tmod 25 ∧ x.tmod 25 < 25 := by rw [Int.tmod_eq_emod_of_nonneg h0]; omega
  obtain ⟨m, he⟩ : ∃ m, x.tmod 25 = m := ⟨_, rfl⟩
  rw [he] at hm
  have : m = 0 ∨ m = 1 ∨ m = 2 ∨ m = 3 ∨ m = 4 ∨ m = 5 ∨ m = 6 ∨ m = 7 ∨ m = 8 ∨ m = 9 ∨ m = 10 ∨ m = 11 ∨ m = 12 ∨ m = 13 ∨ m = 14 ∨ m = 15 ∨ m = 16 ∨ m = 17 ∨ m = 18 ∨ m = 19 ∨ m = 20 ∨ m = 21 ∨ m = 22 ∨ m = 23 ∨ m = 24 := by omega
  rcases this with rfl | rfl | rfl | rfl | rfl | rfl | rfl | rfl | rfl | rfl | rfl | rfl | rfl | rfl | rfl | rfl | rfl | rfl | rfl | rfl | rfl | rfl | rfl | rfl | rfl
  · exact walk_1 x w he h0 (by omega) hG
  · exact walk_2 x w he h0 (by omega) hG
  · exact walk_3 x w he h0 (by omega) hG
  · exact walk_4 x w he h0 (by omega) hG
  · exact walk_5 x w he h0 (by omega) hG
  · exact walk_6 x w he h0 (by omega) hG
  · exact walk_7 x w he h0 (by omega) hG
  · exact walk_8 x w he h0 (by omega) hG
  · exact walk_9 x w he h0 (by omega) hG
  · exact walk_10 x w he h0 (by omega) hG
  · exact walk_11 x w he h0 (by omega) hG
  · exact walk_12 x w he h0 (by omega) hG
  · exact walk_13 x w he h0 (by omega) hG
  · exact walk_14 x w he h0 (by omega) hG
  · exact walk_15 x w he h0 (by omega) hG
  · exact walk_16 x w he h0 (by omega) hG
  · exact walk_17 x w he h0 (by omega) hG
  · exact walk_18 x w he h0 (by omega) hG
  · exact walk_19 x w he h0 (by omega) hG
  · exact walk_20 x w he h0 (by omega) hG
  · exact walk_21 x w he h0 (by omega) hG
  · exact walk_22 x w he h0 (by omega) hG
  · exact walk_23 x w he h0 (by omega) hG
  · exact walk_24 x w he h0 (by omega) hG
  · exact walk_25 x w he h0 (by omega) hG

def args0 : Array Value := #[.int .u8 0]
theorem laid_met (os : Os) : laidMetH Tryd.prog Rows.paramsSizesRow.laid ((laidWorld os).forCall (fun _ _ => 0) ⟨#[], args0, []⟩).memory :=
  laid_world os args0
theorem witness_row (os : Os) {H : Type} (enc : TypeId × Value → H) :
    (OpenSpec.ofChange Rows.paramsSizesSpec).preRow enc Tryd.prog Tryd.f7 Rows.paramsSizesRow.domain false Rows.paramsSizesRow.laid ((laidWorld os).forCall (fun _ _ => 0) ⟨#[], args0, []⟩).memory args0 := by
  have hw : (DataW.whole enc Tryd.prog ((laidWorld os).forCall (fun _ _ => 0) ⟨#[], args0, []⟩).memory Tryd.f7.params.toList (OpenSpec.ofChange Rows.paramsSizesSpec).vars false args0.toList 8).map (fun x => (x.1, x.2.1)) =
      some ([.lit (.int .u8 0)], []) := by kernel_rfl
  obtain ⟨⟨x1, x2, x3⟩, hx, hx1⟩ := Option.map_eq_some_iff.1 hw
  simp only [Prod.mk.injEq] at hx1
  obtain ⟨rfl, rfl⟩ := hx1
  exact OpenSpec.preRow_of_cond 8 hx (by kernel_rfl) (fun k hk => by cases hk) (by kernel_rfl) (laid_met os)

set_option maxRecDepth 100000 in
set_option maxHeartbeats 2000000 in
theorem lifted (os : Os) (started : os.Started) (H : Type) (enc : TypeId × Value → H) (F : Stop.Interp) :
    ReturnsInHanded {} Tryd.checked os 7 .any ((OpenSpec.ofChange Rows.paramsSizesSpec).preRow enc Tryd.prog Tryd.f7 Rows.paramsSizesRow.domain false Rows.paramsSizesRow.laid) (((OpenSpec.ofChange Rows.paramsSizesSpec).at F).post enc Tryd.prog Tryd.f7 false true false false) := by
  refine returnsInHanded_of_row (C := Tryd.checked) (s := OpenSpec.ofChange Rows.paramsSizesSpec) own started (by kernel_rfl) Tryd.func7
    (witness_row_atRef (enc := enc) (C := Tryd.checked) false (laidWorld os) args0 rfl (by kernel_rfl) (by kernel_rfl) (by kernel_rfl) (witness_row os enc)) ?_
  intro W base args ds gs before hval0 hW _ hcnd _ hL hsh _
  have hval : ∀ (j : Nat) t v, Tryd.f7.params[j]? = some t → args[j]? = some v → Value.okWide Tryd.prog W .any base t v := hval0
  have hW' := hW
  obtain ⟨p, q, hA0, hV, rfl, hfz, hnd⟩ := hW
  have hA : DataW.TrodAll enc Tryd.prog W 0 (fun _ => true) true Tryd.f7.params.toList args.toList ds p := hA0
  rw [Tryd.params7] at hA hval
  obtain ⟨v0, vs0, d0, ds0, p0, q0, hargs, rfl, rfl, h0, r0⟩ := trodAll_cons hA
  obtain ⟨rfl, rfl, rfl⟩ := trodAll_nil r0
  obtain rfl : args = #[v0] := by cases args; simp_all
  obtain ⟨rfl, rfl⟩ := trodVars_none hV
  obtain ⟨a0, rfl, rfl, rfl, w0⟩ := open_int Tryd.underlying5 (hval 0 5 v0 rfl rfl) h0
  have hG := glob_of_row hL hsh
  clear hA0 hval0
  refine (walk a0 W w0 hG).mono fun e W' ⟨he, bel⟩ => ?_
  subst he
  exact ⟨_, rfl, _, _, _, [], _, [], hW', trodAll_mk1 (shut_bool Tryd.underlying4 _), (trodAll_cons_mk (shut_int Tryd.underlying5 w0) trodAll_mk0), rfl, bel.frame _, fun h => by cases h⟩

theorem row_holds : Rows.ParamsSizesSaid :=
  OpenClaim.holds_of_cond 7 Tryd.f7 rfl rfl rfl rfl rfl rfl rfl ⟨rfl, rfl, rfl, rfl, rfl⟩ rfl rfl rfl rfl rfl (by kernel_rfl) Tryd.func7 (by kernel_rfl)
    (of_decide_eq_true (by kernel_rfl)) (by unfold Func.isWrapper; first | (rw [if_pos (by decide +kernel)]; kernel_rfl) | (rw [if_neg (by decide +kernel)]; exact ⟨rfl, rfl⟩))
    (fun os started H enc _ F0 => by rw [OpenClaim.pre_eq_preRow]; exact lifted os started H enc F0)

theorem card : Rows.ParamsSizesCardSaid :=
  Claim7.holds_tied_plain_at .later [] [.data, .data, .data, .data, .sentinel, .sentinel, .data, .data, .data, .data, .pinned] true Rows.paramsSizesCard.stood.harness true
    row_holds (fun _ h => by cases h) (by kernel_rfl) (fun _ h => by cases h) paramsSizes_row_tie rfl ⟨rfl, rfl⟩ (by kernel_rfl) rfl
    (fun f fn hf hfn => by
      obtain rfl : f = 7 := Option.some.inj ((show Tryd.prog.funcNamed "pyx/pyxlaw13.ParamsSizes" = some 7 by kernel_rfl).symm.trans hf) |>.symm
      obtain rfl : fn = Tryd.f7 := (Option.some.inj (Tryd.func7.symm.trans hfn)).symm
      exact ⟨by kernel_rfl, fun j t ht => by
        rw [Tryd.params7] at ht
        obtain rfl : t = 5 := by
          rcases j with _ | j
          · simpa using ht.symm
          · simp at ht
        exact (show Tryd.prog.wantsStandIn 5 = false by kernel_rfl)⟩)
    (by kernel_rfl)


end Go.Proofs.YtfcpighmkaoofaaDoor.paramsSizes
