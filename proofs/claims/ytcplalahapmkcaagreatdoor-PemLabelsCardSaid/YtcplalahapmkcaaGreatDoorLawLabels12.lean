/- For every two texts the law PemLabels of package pyxlaw12 returns true, where the variables hold what the program's text lays. -/
import Derived.Test.YtcplalahapmkcaaGreatDoorFrame12
namespace Go.Proofs.YtcplalahapmkcaaGreatDoor.pemLabels
open Go.RowKit Go.ChangeShapes Go.WideShapes Go.ChangeAt
open Go.ChangeMaps (open_string shut_string)
set_option linter.unusedVariables false

theorem add_sp (a b : ByteArray) : ints ((a ++ ⟨#[32]⟩) ++ b) = ints a ++ 32 :: ints b := by
  unfold ints
  simp
set_option maxHeartbeats 4000000 in
set_option maxRecDepth 100000 in
theorem walk (s0 s1 : ByteArray) (w : World) (hs0 : s0.size ≤ maxLen) (hs1 : s1.size ≤ maxLen) (hG : Glob w) :
    Calls Tryz.prog 6 #[.string s0, .string s1] w fun e w' => e = .returned (.bool true) ∧ Past w w' := by
  have HA := Lib.hid (fun w hG => awake12 w hG)
  have HG := Lib.hid hG
  clear hG
  by_cases h0 : s0.size ≤ 200
  · have h0i : ¬ (200 : Int) < (s0.size : Int) := by omega
    by_cases h1 : s1.size ≤ 200
    · have h1i : ¬ (200 : Int) < (s1.size : Int) := by omega
      obtain ⟨S1, hS1⟩ : ∃ X, s0 ++ (⟨#[32]⟩ : ByteArray) = X := ⟨_, rfl⟩
      have z1 : S1.size = s0.size + 1 := by rw [← hS1, ByteArray.size_append]; rfl
      obtain ⟨S2, hS2⟩ : ∃ X, S1 ++ s1 = X := ⟨_, rfl⟩
      have z2 : S2.size = s0.size + 1 + s1.size := by rw [← hS2, ByteArray.size_append, z1]
      have hadd1 := fun w : World => run_string_add_sum (P := Tryz.prog) (w := w) s0 ⟨#[32]⟩ (by have : (⟨#[32]⟩ : ByteArray).size = 1 := rfl; omega)
      have hadd2 := fun w : World => run_string_add_sum (P := Tryz.prog) (w := w) S1 s1 (by omega)
      rw [hS1] at hadd1
      rw [hS2] at hadd2
      have HLA := Lib.hid (fun w => label_any s0 w (by omega))
      have HLB := Lib.hid (fun w => label_any s1 w (by omega))
      have HLS := Lib.hid (fun w => label_any S2 w (by omega))
      have HRA := Lib.hid (fun w => rlabel_any s0 w (by omega))
      have HRS := Lib.hid (fun w => rlabel_any S2 w (by omega))
      have hes : ints S2 = ints s0 ++ 32 :: ints s1 := by rw [← hS2, ← hS1, add_sp]
      cases hb : labB (ints S2) with
      | false =>
        rw [hb] at HLS HRS
        clear hS1 hS2 z1 z2 hes hb h0 h1 hs0 hs1
        obtain ⟨ba, hba⟩ : ∃ ba, labB (ints s0) = ba := ⟨_, rfl⟩
        rw [hba] at HLA HRA
        clear hba
        go_enter Tryz.func6, Tryz.ntmps6
        go_wp2_with fail
        refine (HA.out _ HG.out).mono ?_
        rintro e w1 ⟨rfl, hp⟩
        have H1 := Lib.hid hp
        clear hp
        go_wp2_with fail
        refine (HLA.out _).mono ?_
        rintro e w2 ⟨rfl, hp⟩
        have H2 : Hid (Past w w2) := Lib.hid (H1.out.trans' hp)
        clear hp H1
        go_wp2_with fail
        refine (HRA.out _).mono ?_
        rintro e w3 ⟨rfl, rfl⟩
        go_wp2_with fail
        refine (HLS.out _).mono ?_
        rintro e w4 ⟨rfl, hp⟩
        have H4 : Hid (Past w w4) := Lib.hid (H2.out.trans' hp)
        clear hp H2
        go_wp2_with fail
        refine (HRS.out _).mono ?_
        rintro e w5 ⟨rfl, rfl⟩
        go_wp2_with fail
        refine (HLS.out _).mono ?_
        rintro e w6 ⟨rfl, hp⟩
        have H6 : Hid (Past w w6) := Lib.hid (H4.out.trans' hp)
        clear hp H4
        go_wp2_with fail
        go_ret
        exact ⟨rfl, H6.out⟩
      | true =>
        obtain ⟨hba, hbb⟩ := labB_app (by rw [← hes]; exact hb)
        rw [hb] at HLS HRS
        rw [hba] at HLA HRA
        rw [hbb] at HLB
        clear hS1 hS2 z1 z2 hes hb h0 h1 hs0 hs1 hba hbb
        go_enter Tryz.func6, Tryz.ntmps6
        go_wp2_with fail
        refine (HA.out _ HG.out).mono ?_
        rintro e w1 ⟨rfl, hp⟩
        have H1 := Lib.hid hp
        clear hp
        go_wp2_with fail
        refine (HLA.out _).mono ?_
        rintro e w2 ⟨rfl, hp⟩
        have H2 : Hid (Past w w2) := Lib.hid (H1.out.trans' hp)
        clear hp H1
        go_wp2_with fail
        refine (HRA.out _).mono ?_
        rintro e w3 ⟨rfl, rfl⟩
        go_wp2_with fail
        refine (HLS.out _).mono ?_
        rintro e w4 ⟨rfl, hp⟩
        have H4 : Hid (Past w w4) := Lib.hid (H2.out.trans' hp)
        clear hp H2
        go_wp2_with fail
        refine (HRS.out _).mono ?_
        rintro e w5 ⟨rfl, rfl⟩
        go_wp2_with fail
        refine (HLS.out _).mono ?_
        rintro e w6 ⟨rfl, hp⟩
        have H6 : Hid (Past w w6) := Lib.hid (H4.out.trans' hp)
        clear hp H4
        go_wp2_with fail
        refine (HLA.out _).mono ?_
        rintro e w7 ⟨rfl, hp⟩
        have H7 : Hid (Past w w7) := Lib.hid (H6.out.trans' hp)
        clear hp H6
        go_wp2_with fail
        refine (HLB.out _).mono ?_
        rintro e w8 ⟨rfl, hp⟩
        have H8 : Hid (Past w w8) := Lib.hid (H7.out.trans' hp)
        clear hp H7
        go_wp2_with fail
        go_ret
        exact ⟨rfl, H8.out⟩
    · have h1i : (200 : Int) < (s1.size : Int) := by omega
      clear h0 h1 hs0 hs1
      go_enter Tryz.func6, Tryz.ntmps6
      go_wp2_with fail
      refine (HA.out _ HG.out).mono ?_
      rintro e w1 ⟨rfl, hp⟩
      have H1 := Lib.hid hp
      clear hp
      go_wp2_with fail
      refine (HA.out _ (HG.out.past H1.out)).mono ?_
      rintro e w2 ⟨rfl, hp⟩
      have H2 : Hid (Past w w2) := Lib.hid (H1.out.trans' hp)
      clear hp H1
      go_wp2_with fail
      go_ret
      exact ⟨rfl, H2.out⟩
  · have h0i : (200 : Int) < (s0.size : Int) := by omega
    clear h0 hs0 hs1
    go_enter Tryz.func6, Tryz.ntmps6
    go_wp2_with fail
    refine (HA.out _ HG.out).mono ?_
    rintro e w1 ⟨rfl, hp⟩
    have H1 := Lib.hid hp
    clear hp
    go_wp2_with fail
    refine (HA.out _ (HG.out.past H1.out)).mono ?_
    rintro e w2 ⟨rfl, hp⟩
    have H2 : Hid (Past w w2) := Lib.hid (H1.out.trans' hp)
    clear hp H1
    go_wp2_with fail
    go_ret
    exact ⟨rfl, H2.out⟩

def args0 : Array Value := #[.string ⟨#[]⟩, .string ⟨#[]⟩]
theorem laid_met (os : Os) : laidMetH Tryz.prog Rows.pemLabelsRow.laid ((laidWorld os).forCall (fun _ _ => 0) ⟨#[], args0, []⟩).memory :=
  laid_world os args0
theorem witness_row (os : Os) {H : Type} (enc : TypeId × Value → H) :
    (OpenSpec.ofChange Rows.pemLabelsSpec).preRow enc Tryz.prog Tryz.f6 Rows.pemLabelsRow.domain false Rows.pemLabelsRow.laid ((laidWorld os).forCall (fun _ _ => 0) ⟨#[], args0, []⟩).memory args0 := by
  have hw : (DataW.whole enc Tryz.prog ((laidWorld os).forCall (fun _ _ => 0) ⟨#[], args0, []⟩).memory Tryz.f6.params.toList (OpenSpec.ofChange Rows.pemLabelsSpec).vars false args0.toList 8).map (fun x => (x.1, x.2.1)) =
      some ([.lit (.string []), .lit (.string [])], []) := by kernel_rfl
  obtain ⟨⟨x1, x2, x3⟩, hx, hx1⟩ := Option.map_eq_some_iff.1 hw
  simp only [Prod.mk.injEq] at hx1
  obtain ⟨rfl, rfl⟩ := hx1
  exact OpenSpec.preRow_of_cond 8 hx (by kernel_rfl) (fun k hk => by cases hk) (by kernel_rfl) (laid_met os)

set_option maxRecDepth 100000 in
set_option maxHeartbeats 2000000 in
theorem lifted (os : Os) (started : os.Started) (H : Type) (enc : TypeId × Value → H) (F : Stop.Interp) :
    ReturnsInHanded {} Tryz.checked os 6 .any ((OpenSpec.ofChange Rows.pemLabelsSpec).preRow enc Tryz.prog Tryz.f6 Rows.pemLabelsRow.domain false Rows.pemLabelsRow.laid) (((OpenSpec.ofChange Rows.pemLabelsSpec).at F).post enc Tryz.prog Tryz.f6 false true false false) := by
  refine returnsInHanded_of_row (C := Tryz.checked) (s := OpenSpec.ofChange Rows.pemLabelsSpec) own started (by kernel_rfl) Tryz.func6
    (witness_row_atRef (enc := enc) (C := Tryz.checked) false (laidWorld os) args0 rfl (by kernel_rfl) (by kernel_rfl) (by kernel_rfl) (witness_row os enc)) ?_
  intro W base args ds gs before hval0 hW _ hcnd _ hL hsh _
  have hval : ∀ (j : Nat) t v, Tryz.f6.params[j]? = some t → args[j]? = some v → Value.okWide Tryz.prog W .any base t v := hval0
  have hW' := hW
  obtain ⟨p, q, hA0, hV, rfl, hfz, hnd⟩ := hW
  have hA : DataW.TrodAll enc Tryz.prog W 0 (fun _ => true) true Tryz.f6.params.toList args.toList ds p := hA0
  rw [Tryz.params6] at hA hval
  obtain ⟨v0, vs0, d0, ds0, p0, q0, hargs, rfl, rfl, h0, r0⟩ := trodAll_cons hA
  obtain ⟨v1, vs1, d1, ds1, p1, q1, rfl, rfl, rfl, h1, r1⟩ := trodAll_cons r0
  obtain ⟨rfl, rfl, rfl⟩ := trodAll_nil r1
  obtain rfl : args = #[v0, v1] := by cases args; simp_all
  obtain ⟨rfl, rfl⟩ := trodVars_none hV
  obtain ⟨s0, rfl, rfl, rfl, ws0⟩ := open_string Tryz.underlying9 (hval 0 9 v0 rfl rfl) h0
  obtain ⟨s1, rfl, rfl, rfl, ws1⟩ := open_string Tryz.underlying9 (hval 1 9 v1 rfl rfl) h1
  have hG := glob_of_row hL hsh
  clear hA0 hval0
  refine (walk s0 s1 W ws0 ws1 hG).mono fun e W' ⟨he, bel⟩ => ?_
  subst he
  exact ⟨_, rfl, _, _, _, [], _, [], hW', trodAll_mk1 (shut_bool Tryz.underlying4 _), (trodAll_cons_mk (shut_string Tryz.underlying9 ws0) (trodAll_cons_mk (shut_string Tryz.underlying9 ws1) trodAll_mk0)), rfl, bel.frame _, fun h => by cases h⟩

theorem row_holds : Rows.PemLabelsSaid :=
  OpenClaim.holds_of_cond 6 Tryz.f6 rfl rfl rfl rfl rfl rfl rfl ⟨rfl, rfl, rfl, rfl, rfl⟩ rfl rfl rfl rfl rfl (by kernel_rfl) Tryz.func6 (by kernel_rfl)
    (of_decide_eq_true (by kernel_rfl)) (by unfold Func.isWrapper; first | (rw [if_pos (by decide +kernel)]; kernel_rfl) | (rw [if_neg (by decide +kernel)]; exact ⟨rfl, rfl⟩))
    (fun os started H enc _ F0 => by rw [OpenClaim.pre_eq_preRow]; exact lifted os started H enc F0)

theorem card : Rows.PemLabelsCardSaid :=
  Claim7.holds_tied_plain_at .later [] [.data, .handle, .pinned] true Rows.pemLabelsCard.stood.harness true
    row_holds (fun _ h => by cases h) (by kernel_rfl) (fun _ h => by cases h) pemLabels_row_tie rfl ⟨rfl, rfl⟩ (by kernel_rfl) rfl
    (fun f fn hf hfn => by
      obtain rfl : f = 6 := Option.some.inj ((show Tryz.prog.funcNamed "pyx/pyxlaw12.PemLabels" = some 6 by kernel_rfl).symm.trans hf) |>.symm
      obtain rfl : fn = Tryz.f6 := (Option.some.inj (Tryz.func6.symm.trans hfn)).symm
      exact ⟨by kernel_rfl, fun j t ht => by
        rw [Tryz.params6] at ht
        obtain rfl : t = 9 := by
          rcases j with _ | _ | j
          · simpa using ht.symm
          · simpa using ht.symm
          · simp at ht
        exact (show Tryz.prog.wantsStandIn 9 = false by kernel_rfl)⟩)
    (by kernel_rfl)


end Go.Proofs.YtcplalahapmkcaaGreatDoor.pemLabels
