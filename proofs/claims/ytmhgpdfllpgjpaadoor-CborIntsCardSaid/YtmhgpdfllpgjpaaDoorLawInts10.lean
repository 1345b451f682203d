/- For every number the law CborInts of package pyxlaw10 returns true, where the library's variables hold what the program's text lays. -/
import Derived.Test.YtmhgpdfllpgjpaaDoorFrame10
import Derived.Test.YtmhgpdfllpgjpaaDoorGivM
import Derived.Test.YtmhgpdfllpgjpaaDoorRef10K
import Derived.Test.YtmhgpdfllpgjpaaDoorRef10L
import Derived.Test.YtmhgpdfllpgjpaaDoorC10MC
namespace Go.Proofs.YtmhgpdfllpgjpaaDoor.cborInts
open Go.RowKit Go.ChangeShapes Go.WideShapes Go.ChangeAt
set_option linter.unusedVariables false

theorem intT_vld (k : Int) : vldT (intT k) = true := by
  have hlen : (txt (intT k)).length ≤ 1048576 := by
    have h1 := txt_len (intT k)
    have h2 : cnt (intT k) = 1 := by
      unfold intT
      split <;> rfl
    omega
  unfold vldT
  rw [decide_eq_true hlen]
  unfold intT
  split <;> rfl
theorem intT_cnt (k : Int) : cnt (intT k) = 1 := by
  unfold intT
  split <;> rfl
/-- How the item of a number lies. -/
theorem intV_shape (k : Int) (hk : -9223372036854775808 ≤ k ∧ k < 9223372036854775808) : ∃ kd nm, intV k = .agg #[.int .i64 kd, .int .u64 nm, .slice none 0 0, .slice none 0 0] ∧ (0 ≤ nm ∧ nm < 18446744073709551616) ∧ valI kd nm = k ∧ valB kd nm = true := by
  unfold intV
  by_cases h0 : 0 ≤ k
  · rw [if_pos h0]
    refine ⟨0, k, rfl, by omega, ?_, ?_⟩
    · unfold valI
      rw [if_pos hk.2, if_pos rfl]
    · exact decide_eq_true ⟨hk.2, .inl rfl⟩
  · rw [if_neg h0]
    refine ⟨1, -(k + 1), rfl, by omega, ?_, ?_⟩
    · unfold valI
      rw [if_pos (by omega), if_neg (by omega), if_pos rfl]
      omega
    · exact decide_eq_true ⟨by omega, .inr rfl⟩

set_option maxHeartbeats 8000000 in
set_option maxRecDepth 100000 in
theorem walk (k : Int) (w : World) (hw0 : (Lit.int .i64 k).wf = true) (hG : Glob10 w) :
    Calls Tryd.prog 5 #[.int .i64 k] w fun e w' => e = .returned (.bool true) ∧ Past w w' := by
  have hk := bounds_i64 hw0
  replace hk : -9223372036854775808 ≤ k ∧ k < 9223372036854775808 := by omega
  have HA := Lib.hid (fun w hG => awake10 w hG)
  have HG := Lib.hid hG
  have HI := Lib.hid (fun w1 => int_any k w1 hk)
  have HR := Lib.hid (fun w1 => rint10_any k w1 hk)
  have HC : Hid (kok (intT k) = true) := Lib.hid (by unfold intT; split <;> rfl)
  have HIN := Lib.hid (fun w1 => intV_in k w1 hk)
  obtain ⟨kd, nm, hv, hnm, hvi, hvb⟩ := intV_shape k hk
  have hrv : (if 0 ≤ k then Value.agg #[.int .i64 0, .int .u64 k, .slice none 0 0, .slice none 0 0] else .agg #[.int .i64 1, .int .u64 (-(k + 1)), .slice none 0 0, .slice none 0 0]) = .agg #[.int .i64 kd, .int .u64 nm, .slice none 0 0, .slice none 0 0] := hv
  rw [hv] at HI HIN
  simp only [hrv] at HR
  have HV := Lib.hid (fun w1 => value_any kd nm none 0 0 none 0 0 w1 hnm)
  rw [hvi, hvb] at HV
  have HT := Lib.hid (And.intro (intT_vld k) (intT_cnt k))
  have HL : Hid ((txt (intT k)).length ≤ 9) := Lib.hid (by have h1 := txt_len (intT k); rw [intT_cnt] at h1; omega)
  clear hG hv hrv hvi hvb hnm
  go_enter Tryd.func5, Tryd.ntmps5
  go_wp2_with fail
  refine (HA.out _ HG.out).mono ?_
  rintro e w1 ⟨rfl, hp⟩
  have HP := Lib.hid hp
  clear hp
  go_wp2_with fail
  refine (HI.out _).mono ?_
  rintro e w2 ⟨rfl, hp⟩
  obtain ⟨w3, hw3⟩ : ∃ w3, w3 = w2.alloc (.cells #[.int .i64 kd, .int .u64 nm, .slice none 0 0, .slice none 0 0] 27) := ⟨_, rfl⟩
  have hp3 : Past w2 w3 := by rw [hw3]; exact past_alloc8 _ _
  have hby := bx_new (HIN.out w2) hw3
  obtain ⟨b, hb⟩ : ∃ b, w2.heap.size = b := ⟨_, rfl⟩
  rw [hb] at hby
  have H3 : Hid (Past w w3 ∧ Bx w3 b kd nm none 0 0 none 0 0 (intT k)) := Lib.hid ⟨(HP.out.trans' hp).trans' hp3, hby⟩
  have HW3 := Lib.hid hw3
  have HB := Lib.hid hb
  clear hp hp3 hby hw3 hb HP
  go_upto_region 4 with (fail)
  rw [← HW3.out]
  try rw [HB.out]
  clear HW3 HB
  have x0 : w3.cell? ⟨b, 0, none⟩ = some (.int .i64 kd) := H3.out.2.row.cell 0
  have x1 : w3.cell? ⟨b, 1, none⟩ = some (.int .u64 nm) := H3.out.2.row.cell 1
  have x2 : w3.cell? ⟨b, 2, none⟩ = some (.slice none 0 0) := H3.out.2.row.cell 2
  have x3 : w3.cell? ⟨b, 3, none⟩ = some (.slice none 0 0) := H3.out.2.row.cell 3
  go_wp2_with fail
  refine (HV.out _).mono ?_
  rintro e w4 ⟨rfl, hp⟩
  have H4 : Hid (Past w w4 ∧ Bx w4 b kd nm none 0 0 none 0 0 (intT k)) := Lib.hid ⟨H3.out.1.trans' hp, H3.out.2.later hp⟩
  clear hp H3 x0 x1 x2 x3 HV
  have x0 : w4.cell? ⟨b, 0, none⟩ = some (.int .i64 kd) := H4.out.2.row.cell 0
  have x1 : w4.cell? ⟨b, 1, none⟩ = some (.int .u64 nm) := H4.out.2.row.cell 1
  have x2 : w4.cell? ⟨b, 2, none⟩ = some (.slice none 0 0) := H4.out.2.row.cell 2
  have x3 : w4.cell? ⟨b, 3, none⟩ = some (.slice none 0 0) := H4.out.2.row.cell 3
  go_wp2_with fail
  refine (encode_any (HG.out.bru.past H4.out.1) H4.out.2.inm (by rw [HT.out.2]; omega)).mono ?_
  rintro e w5 ⟨he, _⟩
  obtain ⟨A, c, rfl, hS, hp⟩ := he HT.out.1
  obtain ⟨L, hL⟩ : ∃ L, (txt (intT k)).length = L := ⟨_, rfl⟩
  rw [hL] at hS ⊢
  have HLL := Lib.hid hL
  have H5 : Hid (Past w w5 ∧ Bx w5 b kd nm none 0 0 none 0 0 (intT k) ∧ Sl w5 A L c (txt (intT k))) := Lib.hid ⟨H4.out.1.trans' hp, H4.out.2.later hp, hS⟩
  clear hp H4 x0 x1 x2 x3 he hS hL
  have x0 : w5.cell? ⟨b, 0, none⟩ = some (.int .i64 kd) := H5.out.2.1.row.cell 0
  have x1 : w5.cell? ⟨b, 1, none⟩ = some (.int .u64 nm) := H5.out.2.1.row.cell 1
  have x2 : w5.cell? ⟨b, 2, none⟩ = some (.slice none 0 0) := H5.out.2.1.row.cell 2
  have x3 : w5.cell? ⟨b, 3, none⟩ = some (.slice none 0 0) := H5.out.2.1.row.cell 3
  go_wp2_with fail
  refine (back_any H5.out.2.1.inm _ (Below.refl _ _) (by rw [HT.out.2]; omega)).mono ?_
  rintro e w6 ⟨xa, ya, za, ua, rfl, hp, hl⟩
  have H6 : Hid (Past w w6 ∧ InM w6 (.agg #[xa, ya, za, ua]) (intT k) ∧ Sl w6 A L c (txt (intT k))) := Lib.hid ⟨H5.out.1.trans' hp, hl w6 (fun _ _ => rfl), H5.out.2.2.past hp⟩
  clear hp hl H5 x0 x1 x2 x3
  go_wp2_with fail
  refine (HR.out _).mono ?_
  rintro e w7 ⟨rfl, hp⟩
  have H7 : Hid (Past w w7 ∧ InM w7 (.agg #[xa, ya, za, ua]) (intT k) ∧ Sl w7 A L c (txt (intT k))) := Lib.hid ⟨H6.out.1.trans' hp, H6.out.2.1.past hp, H6.out.2.2.past hp⟩
  clear hp H6
  go_wp2_with fail
  refine (rsame10_any H7.out.2.1 _ _ (HIN.out _) _ (Below.refl _ _) (by rw [HT.out.2]; omega)).mono ?_
  rintro e w8 ⟨r, rfl, hr, hp⟩
  obtain rfl : r = true := hr.2 rfl
  have H8 : Hid (Past w w8 ∧ Sl w8 A L c (txt (intT k))) := Lib.hid ⟨H7.out.1.trans' hp, H7.out.2.2.past hp⟩
  clear hp hr H7
  go_wp2_with fail
  refine (HR.out _).mono ?_
  rintro e w9 ⟨rfl, hp⟩
  have H9 : Hid (Past w w9 ∧ Sl w9 A L c (txt (intT k))) := Lib.hid ⟨H8.out.1.trans' hp, H8.out.2.past hp⟩
  clear hp H8
  go_wp2_with fail
  refine (rcode_any (HIN.out _) _ (Below.refl _ _) (by rw [HT.out.2]; omega) (by have := HL.out; omega) HC.out).mono ?_
  rintro e wa ⟨A2, c2, rfl, hS2, hp⟩
  rw [HLL.out] at hS2 ⊢
  have Ha : Hid (Past w wa ∧ Sl wa A L c (txt (intT k)) ∧ Sl wa A2 L c2 (txt (intT k))) := Lib.hid ⟨H9.out.1.trans' hp, H9.out.2.past hp, hS2⟩
  clear hp H9 hS2
  go_wp2_with fail
  refine (rsame_any _ _ _ _ _ _ _ _ _ Ha.out.2.1 Ha.out.2.2).mono ?_
  rintro e wb ⟨rfl, q, rfl⟩
  rw [sameB_refl]
  have Hb := Lib.hid (Ha.out.1.drewN q)
  clear Ha
  generalize wa.drewN q = wb at *
  go_wp2_with fail
  go_ret
  exact ⟨rfl, Hb.out⟩

def args0 : Array Value := #[.int .i64 0]
theorem laid_met (os : Os) : laidMetH Tryd.prog Rows.cborIntsRow.laid ((laidWorld os).forCall (fun _ _ => 0) ⟨#[], args0, []⟩).memory :=
  laid_world os args0
theorem witness_row (os : Os) {H : Type} (enc : TypeId × Value → H) :
    (OpenSpec.ofChange Rows.cborIntsSpec).preRow enc Tryd.prog Tryd.f5 Rows.cborIntsRow.domain false Rows.cborIntsRow.laid ((laidWorld os).forCall (fun _ _ => 0) ⟨#[], args0, []⟩).memory args0 := by
  have hw : (DataW.whole enc Tryd.prog ((laidWorld os).forCall (fun _ _ => 0) ⟨#[], args0, []⟩).memory Tryd.f5.params.toList (OpenSpec.ofChange Rows.cborIntsSpec).vars false args0.toList 8).map (fun x => (x.1, x.2.1)) =
      some ([.lit (.int .i64 0)], []) := by kernel_rfl
  obtain ⟨⟨x1, x2, x3⟩, hx, hx1⟩ := Option.map_eq_some_iff.1 hw
  simp only [Prod.mk.injEq] at hx1
  obtain ⟨rfl, rfl⟩ := hx1
  exact OpenSpec.preRow_of_cond 8 hx (by kernel_rfl) (fun k hk => by cases hk) (by kernel_rfl) (laid_met os)

set_option maxRecDepth 100000 in
set_option maxHeartbeats 2000000 in
theorem lifted (os : Os) (started : os.Started) (H : Type) (enc : TypeId × Value → H) (F : Stop.Interp) :
    ReturnsInHanded {} Tryd.checked os 5 .any ((OpenSpec.ofChange Rows.cborIntsSpec).preRow enc Tryd.prog Tryd.f5 Rows.cborIntsRow.domain false Rows.cborIntsRow.laid) (((OpenSpec.ofChange Rows.cborIntsSpec).at F).post enc Tryd.prog Tryd.f5 false true false false) := by
  refine returnsInHanded_of_row (C := Tryd.checked) (s := OpenSpec.ofChange Rows.cborIntsSpec) own started (by kernel_rfl) Tryd.func5
    (witness_row_atRef (enc := enc) (C := Tryd.checked) false (laidWorld os) args0 rfl (by kernel_rfl) (by kernel_rfl) (by kernel_rfl) (witness_row os enc)) ?_
  intro W base args ds gs before hval0 hW _ hcnd _ hL hsh _
  have hval : ∀ (j : Nat) t v, Tryd.f5.params[j]? = some t → args[j]? = some v → Value.okWide Tryd.prog W .any base t v := hval0
  have hW' := hW
  obtain ⟨p, q, hA0, hV, rfl, hfz, hnd⟩ := hW
  have hA : DataW.TrodAll enc Tryd.prog W 0 (fun _ => true) true Tryd.f5.params.toList args.toList ds p := hA0
  rw [Tryd.params5] at hA hval
  obtain ⟨v0, vs0, d0, ds0, p0, q0, hargs, rfl, rfl, h0, r0⟩ := trodAll_cons hA
  obtain ⟨rfl, rfl, rfl⟩ := trodAll_nil r0
  obtain rfl : args = #[v0] := by cases args; simp_all
  obtain ⟨rfl, rfl⟩ := trodVars_none hV
  obtain ⟨a0, rfl, rfl, rfl, w0⟩ := open_int Tryd.underlying2 (hval 0 2 v0 rfl rfl) h0
  have hG := glob_of_row hL
  clear hA0 hval0
  refine (walk a0 W w0 hG).mono fun e W' ⟨he, bel⟩ => ?_
  subst he
  exact ⟨_, rfl, _, _, _, [], _, [], hW', trodAll_mk1 (shut_bool Tryd.underlying4 _), (trodAll_cons_mk (shut_int Tryd.underlying2 w0) trodAll_mk0), rfl, bel.frame _, fun h => by cases h⟩

theorem row_holds : Rows.CborIntsSaid :=
  OpenClaim.holds_of_cond 5 Tryd.f5 rfl rfl rfl rfl rfl rfl rfl ⟨rfl, rfl, rfl, rfl, rfl⟩ rfl rfl rfl rfl rfl (by kernel_rfl) Tryd.func5 (by kernel_rfl)
    (of_decide_eq_true (by kernel_rfl)) (by unfold Func.isWrapper; first | (rw [if_pos (by decide +kernel)]; kernel_rfl) | (rw [if_neg (by decide +kernel)]; exact ⟨rfl, rfl⟩))
    (fun os started H enc _ F0 => by rw [OpenClaim.pre_eq_preRow]; exact lifted os started H enc F0)

theorem card : Rows.CborIntsCardSaid :=
  Claim7.holds_tied_plain_at .later [] [.data, .data, .handle] true Rows.cborIntsCard.stood.harness true
    row_holds (fun _ h => by cases h) (by kernel_rfl) (fun _ h => by cases h) cborInts_row_tie rfl ⟨rfl, rfl⟩ (by kernel_rfl) rfl
    (fun f fn hf hfn => by
      obtain rfl : f = 5 := Option.some.inj ((show Tryd.prog.funcNamed "pyx/pyxlaw10.CborInts" = some 5 by kernel_rfl).symm.trans hf) |>.symm
      obtain rfl : fn = Tryd.f5 := (Option.some.inj (Tryd.func5.symm.trans hfn)).symm
      exact ⟨by kernel_rfl, fun j t ht => by
        rw [Tryd.params5] at ht
        obtain rfl : t = 2 := by
          rcases j with _ | j
          · simpa using ht.symm
          · simp at ht
        exact (show Tryd.prog.wantsStandIn 2 = false by kernel_rfl)⟩)
    (by kernel_rfl)


end Go.Proofs.YtmhgpdfllpgjpaaDoor.cborInts
