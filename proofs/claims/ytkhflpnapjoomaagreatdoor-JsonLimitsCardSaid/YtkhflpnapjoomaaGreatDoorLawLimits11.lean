/- For every number the law JsonLimits of package pyxlaw11 returns true, where the variables hold what the program's text lays. -/
import Derived.Test.YtkhflpnapjoomaaGreatDoorFrame11
import Derived.Test.YtkhflpnapjoomaaGreatDoorJs11Z
namespace Go.Proofs.YtkhflpnapjoomaaGreatDoor.jsonLimits
open Go.RowKit Go.ChangeShapes Go.WideShapes Go.ChangeAt
set_option linter.unusedVariables false

theorem psZ (w : World) (N : Nat) : Ps (w.alloc (.cells #[.string ⟨#[97]⟩, .string (valZ N)] 25)) (some ⟨w.heap.size, 0, none⟩) 1 1 [pairZ N] := by
  have hr := Row.new w 25 #[.string ⟨#[97]⟩, .string (valZ N)]
  refine ⟨rfl, Nat.le_refl _, by unfold maxLen; omega, fun _ => ⟨w.heap.size, 0, rfl, fun i hi => ?_⟩, fun e => by cases e⟩
  obtain rfl : i = 0 := by omega
  exact ⟨hr.cell 0, hr.cell 1⟩
set_option maxHeartbeats 4000000 in
set_option maxRecDepth 100000 in
theorem walk (x0 : Int) (w : World) (hx : (Lit.int .u8 x0).wf = true) (hG : Glob11 w) :
    Calls Tryz.prog 3 #[.int .u8 x0] w fun e w' => e = .returned (.bool true) ∧ Past w w' := by
  have hx' := bounds_u8 hx
  obtain ⟨a, rfl⟩ : ∃ a : Nat, x0 = (a : Int) := ⟨x0.toNat, by omega⟩
  have HA := Lib.hid (fun w hG => awake11 w hG)
  have HG := Lib.hid hG
  obtain ⟨r, hr⟩ : ∃ r : Nat, a % 3 = r := ⟨_, rfl⟩
  have hr2 : r ≤ 2 := by omega
  have hmod : (a : Int).tmod 3 = (r : Int) := by rw [Int.tmod_eq_emod_of_nonneg (by omega)]; omega
  obtain ⟨N, hN⟩ : ∃ N : Nat, N = 1048567 + r := ⟨_, rfl⟩
  have hadd : (1048567 : Int) + (r : Int) = (N : Int) := by omega
  have hri : (r : Int) ≤ 2 := by omega
  have hr0 : (0 : Int) ≤ (r : Int) := by omega
  have hai : (a : Int) ≤ 255 := by omega
  have HRe := Lib.hid (fun w => Tryz.strings_Repeat ⟨#[120]⟩ N w (by omega) (by show 1 * N ≤ _; omega))
  have HEn := Lib.hid (fun w => encode11_any _ 1 1 [pairZ N] _ (psZ w N) (by rw [lenZ]; omega))
  have HV := Lib.hid (vldZ N)
  by_cases hb : r = 2
  · have hN8 : N = 1048569 := by omega
    have hni : (1048576 : Int) < (N : Int) + 8 := by omega
    have HVV : Hid (vldP [pairZ N] = false) := Lib.hid (by rw [HV.out]; exact decide_eq_false (by omega))
    have HCo := Lib.hid (fun w hG => lcode_code 12 w hG)
    have HTo := Lib.hid (fun w hG => ltold_flt 1 1048576 w hG (by omega))
    simp only [valCode] at HCo
    simp only [valFlt] at HTo
    have q6 : (⟨#[123, 34, 97, 34, 58, 34]⟩ : ByteArray).size = 6 := rfl
    have q2 : (⟨#[34, 125]⟩ : ByteArray).size = 2 := rfl
    have hvs := val_size N
    obtain ⟨S1, hS1⟩ : ∃ X, (⟨#[123, 34, 97, 34, 58, 34]⟩ : ByteArray) ++ valZ N = X := ⟨_, rfl⟩
    have z1 : S1.size = 6 + N := by rw [← hS1, ByteArray.size_append, q6, hvs]
    obtain ⟨S2, hS2⟩ : ∃ X, S1 ++ ⟨#[34, 125]⟩ = X := ⟨_, rfl⟩
    have z2 : S2.size = S1.size + 2 := by rw [← hS2, ByteArray.size_append, q2]
    have hadd1 := fun w : World => run_string_add_sum (P := Tryz.prog) (w := w) ⟨#[123, 34, 97, 34, 58, 34]⟩ (valZ N) (by omega)
    have hadd2 := fun w : World => run_string_add_sum (P := Tryz.prog) (w := w) S1 ⟨#[34, 125]⟩ (by omega)
    rw [hS1] at hadd1
    rw [hS2] at hadd2
    have HPL := Lib.hid (fun (A : Option Addr) (c : Nat) (w : World) => parse_long A S2.size c w (by omega))
    simp only [valFlt] at HPL
    have hcb := conv_back
    have HPB := Lib.hid past_bytes
    have HPZ := Lib.hid psZ
    clear hG hx hx' hr hr2 hN hb hN8 q6 q2 hvs hS1 hS2 z1 z2 HV
    go_enter Tryz.func3, Tryz.ntmps3
    go_wp2_with fail
    refine (HA.out _ HG.out).mono ?_
    rintro e w1 ⟨rfl, hp⟩
    have H1 := Lib.hid hp
    clear hp
    go_wp2_with fail
    refine (HRe.out _).mono ?_
    rintro e w2 ⟨rfl, hp⟩
    have H2 : Hid (Past w w2) := Lib.hid (H1.out.trans' hp)
    clear hp H1
    rw [show (⟨(Lib.repeatL (⟨#[120]⟩ : ByteArray).data.toList N).toArray⟩ : ByteArray) = valZ N from rfl]
    go_wp2_with fail
    refine (HEn.out w2).mono ?_
    rintro e w3 ⟨_, he, hp⟩
    obtain rfl := he HVV.out
    have H3 : Hid (Past w w3 ∧ Ps w3 (some ⟨w2.heap.size, 0, none⟩) 1 1 [pairZ N]) := Lib.hid ⟨(H2.out.trans' (past_alloc8 _ _)).trans' hp, (HPZ.out w2 N).past hp⟩
    clear hp he
    obtain ⟨b, hbz⟩ : ∃ b, w2.heap.size = b := ⟨_, rfl⟩
    rw [hbz] at H3 ⊢
    clear hbz
    simp only [valCode]
    have x1 : w3.cell? ⟨b, 1, none⟩ = some (.string (valZ N)) := by
      obtain ⟨b', o', e, hc⟩ := H3.out.2.cells (by omega)
      injection e with e
      injection e with e1 e2
      have := (hc 0 (by omega)).2
      rw [← e1, ← e2] at this
      exact this
    obtain ⟨V, hV⟩ : ∃ V, valZ N = V := ⟨_, rfl⟩
    rw [hV] at x1 hadd1 ⊢
    clear hV
    go_wp2_with fail
    refine (HPL.out _ _ _).mono ?_
    rintro e w4 ⟨rfl, hp⟩
    have H4 : Hid (Past w w4) := Lib.hid ((H3.out.1.trans' (HPB.out _ _)).trans' hp)
    clear hp x1 H3
    go_wp2_with fail
    refine (HCo.out _ (HG.out.err.past H4.out)).mono ?_
    rintro e w5 ⟨rfl, hp⟩
    have H5 := Lib.hid (H4.out.trans' hp)
    clear hp H4
    go_wp2_with fail
    refine (HTo.out _ (HG.out.err.past H5.out)).mono ?_
    rintro e w6 ⟨rfl, hp⟩
    have H6 := Lib.hid (H5.out.trans' hp)
    clear hp H5
    go_wp2_with fail
    go_ret
    exact ⟨rfl, H6.out⟩
  · have hN8 : N + 8 ≤ 1048576 := by omega
    have hni : ¬ (1048576 : Int) < (N : Int) + 8 := by omega
    have hNi : (N : Int) ≤ 1048568 := by omega
    have HVV : Hid (vldP [pairZ N] = true) := Lib.hid (by rw [HV.out]; exact decide_eq_true hN8)
    have htl : (textI [pairZ N]).length = N + 8 := by rw [text_len, lenZ]
    have HPa := Lib.hid (fun A c w (h : Sl w A (N + 8) c (textI [pairZ N])) hG => parse_acc A (N + 8) c [pairZ N] w h hG hN8 (looseZ N) (readZ N (by omega) hN8))
    have HTL := Lib.hid htl
    have HCK := Lib.hid (chkZ N)
    have hni2 : decide ((1048576 : Int) < (N : Int) + 8) = false := decide_eq_false hni
    clear hG hx hx' hr hr2 hN hb hN8 HV htl
    go_enter Tryz.func3, Tryz.ntmps3
    go_wp2_with fail
    refine (HA.out _ HG.out).mono ?_
    rintro e w1 ⟨rfl, hp⟩
    have H1 := Lib.hid hp
    clear hp
    go_wp2_with fail
    refine (HRe.out _).mono ?_
    rintro e w2 ⟨rfl, hp⟩
    have H2 : Hid (Past w w2) := Lib.hid (H1.out.trans' hp)
    clear hp H1
    rw [show (⟨(Lib.repeatL (⟨#[120]⟩ : ByteArray).data.toList N).toArray⟩ : ByteArray) = valZ N from rfl]
    go_wp2_with fail
    refine (HEn.out w2).mono ?_
    rintro e w3 ⟨he, _, hp⟩
    obtain ⟨A, c, rfl, hsl⟩ := he HVV.out
    rw [HTL.out] at hsl ⊢
    have H3 : Hid (Past w w3 ∧ Sl w3 A (N + 8) c (textI [pairZ N])) := Lib.hid ⟨(H2.out.trans' (past_alloc8 _ _)).trans' hp, hsl⟩
    clear hp he hsl
    go_upto_region 6 with (fail)
    go_upto_region 9 with (fail)
    go_wp2_with fail
    refine (HPa.out _ _ _ H3.out.2 (HG.out.past H3.out.1)).mono ?_
    rintro e w4 ⟨_, he, hp⟩
    obtain ⟨A4, c4, rfl, _⟩ := he HCK.out
    rw [show [pairZ N].length = 1 from rfl]
    have H4 : Hid (Past w w4) := Lib.hid (H3.out.1.trans' hp)
    clear hp he H3
    go_wp2_with fail
    go_ret
    exact ⟨rfl, H4.out⟩

def args0 : Array Value := #[.int .u8 0]
theorem laid_met (os : Os) : laidMetH Tryz.prog Rows.jsonLimitsRow.laid ((laidWorld os).forCall (fun _ _ => 0) ⟨#[], args0, []⟩).memory :=
  laid_world os args0
theorem witness_row (os : Os) {H : Type} (enc : TypeId × Value → H) :
    (OpenSpec.ofChange Rows.jsonLimitsSpec).preRow enc Tryz.prog Tryz.f3 Rows.jsonLimitsRow.domain false Rows.jsonLimitsRow.laid ((laidWorld os).forCall (fun _ _ => 0) ⟨#[], args0, []⟩).memory args0 := by
  have hw : (DataW.whole enc Tryz.prog ((laidWorld os).forCall (fun _ _ => 0) ⟨#[], args0, []⟩).memory Tryz.f3.params.toList (OpenSpec.ofChange Rows.jsonLimitsSpec).vars false args0.toList 8).map (fun x => (x.1, x.2.1)) =
      some ([.lit (.int .u8 0)], []) := by kernel_rfl
  obtain ⟨⟨x1, x2, x3⟩, hx, hx1⟩ := Option.map_eq_some_iff.1 hw
  simp only [Prod.mk.injEq] at hx1
  obtain ⟨rfl, rfl⟩ := hx1
  exact OpenSpec.preRow_of_cond 8 hx (by kernel_rfl) (fun k hk => by cases hk) (by kernel_rfl) (laid_met os)

set_option maxRecDepth 100000 in
set_option maxHeartbeats 2000000 in
theorem lifted (os : Os) (started : os.Started) (H : Type) (enc : TypeId × Value → H) (F : Stop.Interp) :
    ReturnsInHanded {} Tryz.checked os 3 .any ((OpenSpec.ofChange Rows.jsonLimitsSpec).preRow enc Tryz.prog Tryz.f3 Rows.jsonLimitsRow.domain false Rows.jsonLimitsRow.laid) (((OpenSpec.ofChange Rows.jsonLimitsSpec).at F).post enc Tryz.prog Tryz.f3 false true false false) := by
  refine returnsInHanded_of_row (C := Tryz.checked) (s := OpenSpec.ofChange Rows.jsonLimitsSpec) own started (by kernel_rfl) Tryz.func3
    (witness_row_atRef (enc := enc) (C := Tryz.checked) false (laidWorld os) args0 rfl (by kernel_rfl) (by kernel_rfl) (by kernel_rfl) (witness_row os enc)) ?_
  intro W base args ds gs before hval0 hW _ hcnd _ hL hsh _
  have hval : ∀ (j : Nat) t v, Tryz.f3.params[j]? = some t → args[j]? = some v → Value.okWide Tryz.prog W .any base t v := hval0
  have hW' := hW
  obtain ⟨p, q, hA0, hV, rfl, hfz, hnd⟩ := hW
  have hA : DataW.TrodAll enc Tryz.prog W 0 (fun _ => true) true Tryz.f3.params.toList args.toList ds p := hA0
  rw [Tryz.params3] at hA hval
  obtain ⟨v0, vs0, d0, ds0, p0, q0, hargs, rfl, rfl, h0, r0⟩ := trodAll_cons hA
  obtain ⟨rfl, rfl, rfl⟩ := trodAll_nil r0
  obtain rfl : args = #[v0] := by cases args; simp_all
  obtain ⟨rfl, rfl⟩ := trodVars_none hV
  obtain ⟨a0, rfl, rfl, rfl, w0⟩ := open_int Tryz.underlying5 (hval 0 5 v0 rfl rfl) h0
  have hG := glob_of_row hL hsh
  clear hA0 hval0
  refine (walk a0 W w0 hG).mono fun e W' ⟨he, bel⟩ => ?_
  subst he
  exact ⟨_, rfl, _, _, _, [], _, [], hW', trodAll_mk1 (shut_bool Tryz.underlying4 _), (trodAll_cons_mk (shut_int Tryz.underlying5 w0) trodAll_mk0), rfl, bel.frame _, fun h => by cases h⟩

theorem row_holds : Rows.JsonLimitsSaid :=
  OpenClaim.holds_of_cond 3 Tryz.f3 rfl rfl rfl rfl rfl rfl rfl ⟨rfl, rfl, rfl, rfl, rfl⟩ rfl rfl rfl rfl rfl (by kernel_rfl) Tryz.func3 (by kernel_rfl)
    (of_decide_eq_true (by kernel_rfl)) (by unfold Func.isWrapper; first | (rw [if_pos (by decide +kernel)]; kernel_rfl) | (rw [if_neg (by decide +kernel)]; exact ⟨rfl, rfl⟩))
    (fun os started H enc _ F0 => by rw [OpenClaim.pre_eq_preRow]; exact lifted os started H enc F0)

theorem card : Rows.JsonLimitsCardSaid :=
  Claim7.holds_tied_plain_at .later [] [.data, .handle, .data, .pinned] true Rows.jsonLimitsCard.stood.harness true
    row_holds (fun _ h => by cases h) (by kernel_rfl) (fun _ h => by cases h) jsonLimits_row_tie rfl ⟨rfl, rfl⟩ (by kernel_rfl) rfl
    (fun f fn hf hfn => by
      obtain rfl : f = 3 := Option.some.inj ((show Tryz.prog.funcNamed "pyx/pyxlaw11.JsonLimits" = some 3 by kernel_rfl).symm.trans hf) |>.symm
      obtain rfl : fn = Tryz.f3 := (Option.some.inj (Tryz.func3.symm.trans hfn)).symm
      exact ⟨by kernel_rfl, fun j t ht => by
        rw [Tryz.params3] at ht
        obtain rfl : t = 5 := by
          rcases j with _ | j
          · simpa using ht.symm
          · simp at ht
        exact (show Tryz.prog.wantsStandIn 5 = false by kernel_rfl)⟩)
    (by kernel_rfl)


end Go.Proofs.YtkhflpnapjoomaaGreatDoor.jsonLimits
