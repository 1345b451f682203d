/- For every budget and every two numbers the law MeterParts of package pyxlaw03 returns true; there is no further condition. -/
import Derived.Test.YtnfdfnlmckeebaaFrame
namespace Go.Proofs.Ytnfdfnlmckeebaa.meterParts
open Go.ChangeShapes Go.WideShapes Go.ChangeAt Go.RowKit
set_option linter.unusedVariables false

theorem clamp_le (b : Int) (h : 0 ≤ b) : clamp b ≤ b := by unfold clamp top; split <;> (try split) <;> omega

/-- The law, once both meters are made, awake has answered, and the numbers have been added. -/
theorem walk (b : Int) (x y : Int) (w : World) (w0 : (Lit.int .i64 b).wf = true) (w1 : (Lit.int .u32 x).wf = true) (w2 : (Lit.int .u32 y).wf = true) :
    Calls Try.prog 4 #[.int .i64 b, .int .u32 x, .int .u32 y] w fun e w' => e = .returned (.bool true) ∧ Past w w' := by
  have hb := bounds_i64 w0
  have hx := bounds_u32 w1
  have hy := bounds_u32 w2
  have hB := clamp_rng b
  clear w0 w1 w2
  obtain ⟨hx0, hx1⟩ := hx
  obtain ⟨hy0, hy1⟩ := hy
  obtain ⟨hb0, hb1⟩ := hb
  obtain ⟨hB0, hB1⟩ := hB
  have HC : Hid (0 ≤ b → clamp b ≤ b) := Lib.hid (clamp_le b)
  have HN : Hid (b < 0 → clamp b = 0) := Lib.hid clamp_neg
  have hm := fun (w0 : World) (h : Past w w0) => (new_any b w0).mono (R' := fun e w' => ∃ g, e = .returned (.pointer (some ⟨g, 0, none⟩)) ∧ Past w0 w' ∧ Own w w' g (clamp b) 0 ∧ g = w0.heap.size) (fun _ _ ⟨he, hw⟩ => ⟨_, he, by rw [hw]; exact (Below.refl _ _).alloc (Nat.le_refl _) _, by rw [hw]; exact Own.made h b, rfl⟩)
  generalize clamp b = B at *
  have HM := Lib.hid hm
  clear hm
  go_enter Try.func4, Try.ntmps4
  go_wp2_with fail
  refine (HM.out _ (Below.refl _ w)).mono ?_
  rintro e w1 ⟨g, rfl, hp1, h1, hs1⟩
  have H1 := Lib.hid h1
  have HS := Lib.hid hs1
  clear hp1 h1 hs1
  go_wp2_with fail
  refine (HM.out _ H1.out.1).mono ?_
  rintro e w2 ⟨h, rfl, hp2, h2, hs2⟩
  have ht : Two w w2 g h B 0 0 := ⟨H1.out.later hp2, h2, by
    have := H1.out.2.1.lt
    omega⟩
  have HT := Lib.hid ht
  clear hp2 h2 hs2 HS ht H1
  go_wp2_with fail
  refine (awake_any _).mono ?_
  rintro e w3 ⟨rfl, hp⟩
  replace HT := Lib.hid (HT.out.later hp)
  clear hp
  go_wp2_with fail
  by_cases hs : x + y ≤ B
  · have hmx : x + y ≤ max b 0 := by
      by_cases hb : b < 0
      · have := HN.out hb; omega
      · have := HC.out (by omega); omega
    refine (HT.out.add1_ok hx0 (by omega)).mono ?_
    rintro e w4 ⟨rfl, ht⟩
    replace HT := Lib.hid ht
    clear ht
    go_wp2_with fail
    refine (HT.out.add1_ok hy0 (by omega)).mono ?_
    rintro e w5 ⟨rfl, ht⟩
    replace HT := Lib.hid ht
    clear ht
    go_wp2_with fail
    refine (HT.out.add2_ok (by omega) (by omega)).mono ?_
    rintro e w6 ⟨rfl, ht⟩
    replace HT := Lib.hid ht
    clear ht
    by_cases hb : b < 0
    all_goals
      go_wp2_with fail
      refine (HT.out.1.count).mono ?_
      rintro e w' ⟨rfl, rfl⟩
      go_wp2_with fail
      refine (HT.out.2.1.count).mono ?_
      rintro e w' ⟨rfl, rfl⟩
      go_wp2_with fail
      go_ret
      exact ⟨rfl, HT.out.1.1⟩
  · by_cases hxB : x ≤ B
    · refine (HT.out.add1_ok hx0 (by omega)).mono ?_
      rintro e w4 ⟨rfl, ht⟩
      replace HT := Lib.hid ht
      clear ht
      go_wp2_with fail
      refine (HT.out.1.add_no (by omega)).mono ?_
      rintro e w' ⟨rfl, rfl⟩
      go_wp2_with fail
      refine (HT.out.2.1.add_no (by omega)).mono ?_
      rintro e w' ⟨rfl, rfl⟩
      go_wp2_with fail
      go_ret
      exact ⟨rfl, HT.out.1.1⟩
    · refine (HT.out.1.add_no (by omega)).mono ?_
      rintro e w' ⟨rfl, rfl⟩
      go_wp2_with fail
      by_cases hyB : y ≤ B
      · refine (HT.out.add1_ok hy0 (by omega)).mono ?_
        rintro e w4 ⟨rfl, ht⟩
        replace HT := Lib.hid ht
        clear ht
        go_wp2_with fail
        refine (HT.out.2.1.add_no (by omega)).mono ?_
        rintro e w' ⟨rfl, rfl⟩
        go_wp2_with fail
        go_ret
        exact ⟨rfl, HT.out.1.1⟩
      · refine (HT.out.1.add_no (by omega)).mono ?_
        rintro e w' ⟨rfl, rfl⟩
        go_wp2_with fail
        refine (HT.out.2.1.add_no (by omega)).mono ?_
        rintro e w' ⟨rfl, rfl⟩
        go_wp2_with fail
        go_ret
        exact ⟨rfl, HT.out.1.1⟩

set_option maxRecDepth 100000 in
theorem lifted (os : Os) (started : os.Started) (H : Type) (enc : TypeId × Value → H) :
    ReturnsInHanded {} Try.checked os 4 .any (Rows.meterPartsSpec.pre6 enc Try.prog Try.f4 Rows.meterPartsRow.domain false) (Rows.meterPartsSpec.post enc Try.prog Try.f4 false true false false) := by
  refine returnsInHanded_of_change (C := Try.checked) own started (by kernel_rfl) Try.func4
    (ChangeSpec.witness6 (enc := enc) (C := Try.checked) false ⟨#[], #[.int .i64 0, .int .u32 0, .int .u32 0], []⟩ 8 (by kernel_rfl) (by kernel_rfl) (by kernel_rfl) (by kernel_rfl)) ?_
  intro W base args ds gs before hval0 hW hcnd _
  have hval : ∀ (j : Nat) t v, Try.f4.params[j]? = some t → args[j]? = some v → Value.okWide Try.prog W .any base t v := hval0
  have hW' := hW
  obtain ⟨p, q, hA0, hV, rfl, hfz, hnd⟩ := hW
  have hA : DataW.TrodAll enc Try.prog W 0 (fun _ => true) true Try.f4.params.toList args.toList ds p := hA0
  rw [Try.params4] at hA hval
  obtain ⟨v0, vs0, d0, ds0, p0, q0, hargs, rfl, rfl, h0, r0⟩ := trodAll_cons hA
  obtain ⟨v1, vs1, d1, ds1, p1, q1, rfl, rfl, rfl, h1, r1⟩ := trodAll_cons r0
  obtain ⟨v2, vs2, d2, ds2, p2, q2, rfl, rfl, rfl, h2, r2⟩ := trodAll_cons r1
  obtain ⟨rfl, rfl, rfl⟩ := trodAll_nil r2
  obtain rfl : args = #[v0, v1, v2] := by cases args; simp_all
  obtain ⟨rfl, rfl⟩ := trodVars_none hV
  obtain ⟨a0, rfl, rfl, rfl, w0⟩ := open_int Try.underlying2 (hval 0 2 v0 rfl rfl) h0
  obtain ⟨a1, rfl, rfl, rfl, w1⟩ := open_int Try.underlying34 (hval 1 34 v1 rfl rfl) h1
  obtain ⟨a2, rfl, rfl, rfl, w2⟩ := open_int Try.underlying34 (hval 2 34 v2 rfl rfl) h2
  clear hA0 hval0
  refine (walk a0 a1 a2 W w0 w1 w2).mono fun e W' ⟨he, bel⟩ => ?_
  subst he
  exact ⟨_, rfl, _, _, _, [], _, [], hW', trodAll_mk1 (shut_bool Try.underlying4 _), (trodAll_cons_mk (shut_int Try.underlying2 w0) (trodAll_cons_mk (shut_int Try.underlying34 w1) (trodAll_cons_mk (shut_int Try.underlying34 w2) trodAll_mk0))), rfl, bel.frame _, fun h => by cases h⟩

theorem over : Rows.meterPartsRow.holds Try.pinned (OpenSpec.ofChange Rows.meterPartsSpec) :=
  OpenClaim.holds_of_wide 4 Try.f4 rfl rfl rfl rfl rfl rfl rfl ⟨rfl, rfl, rfl, rfl, rfl⟩ rfl rfl rfl rfl rfl (by kernel_rfl) Try.func4 (by kernel_rfl)
    (of_decide_eq_true (by kernel_rfl)) (by unfold Func.isWrapper; first | (rw [if_pos (by decide +kernel)]; kernel_rfl) | (rw [if_neg (by decide +kernel)]; exact ⟨rfl, rfl⟩))
    (fun os started H enc _ => lifted os started H enc)

theorem proved : Rows.MeterPartsSaid := over
end Go.Proofs.Ytnfdfnlmckeebaa.meterParts
