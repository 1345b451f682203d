/- DringMatchesReference over the program's contracts. -/
import Derived.Test.YtngbmaojgfocgaaFrame17
import Derived.Test.YtngbmaojgfocgaaM17F
import Derived.Deep.RegionHeld
namespace Go.Proofs.Ytngbmaojgfocgaa.dr.dringMatchesReference
open Go.RowKit Go.ChangeShapes Go.WideShapes Go.ChangeAt
set_option linter.unusedVariables false

set_option maxHeartbeats 8000000 in
set_option maxRecDepth 100000 in
theorem walk (H : Prog17) (a b c : Int) (w : World) (ha : (Lit.int .u32 a).wf = true) (hb : (Lit.int .u32 b).wf = true) (hc : (Lit.int .u32 c).wf = true) :
    Calls Try.prog 3 #[.agg #[.int .u32 a, .int .u32 b, .int .u32 c]] w fun e w' => e = .returned (.bool true) ∧ Past w w' := by
  have HAW := Lib.hid (fun w => awake17 H w)
  have HSP := Lib.hid (fun w => spread_any a b c (by have := bounds_u32 ha; omega) (by have := bounds_u32 hb; omega) (by have := bounds_u32 hc; omega) w)
  have hf := spr_rng a b c
  have HN := Lib.hid (fun w => H.ntt (spr a b c) w hf)
  have HRN := Lib.hid (fun w => rntt_any (spr a b c) hf w)
  have heq := eqA (ntt (spr a b c)) (ntt (spr a b c)) fun _ _ => rfl
  have heg := egA
  have hlf := (lst_len (spr a b c)).1
  have HSN : Hid ((arr .u32 256 fun _ => 0).size = (arr .u32 256 (spr a b c)).size) := Lib.hid (by rw [arr_size, arr_size])
  have hi2 := inf256 (spr a b c)
  have HON := Lib.hid (arr_one .u32 256 (spr a b c))
  have HRL := Lib.hid (fun (w : World) (g : Nat) (h : Row w g 25 (arr .u32 256 (spr a b c))) => row_lst h)
  simp only [arr_lst] at HSP HN HRN heq hi2 HSN HON HRL
  generalize lst (spr a b c) = lf at *
  generalize lst (ntt (spr a b c)) = ln at *
  have hz := zero256
  rw [arr_lst] at hz
  generalize (lst fun _ => 0) = lz at *
  clear hf H
  go_enter Try.func3, Try.ntmps3
  obtain ⟨g, hg⟩ : ∃ g, w.heap.size = g := ⟨_, rfl⟩
  obtain ⟨w0, hw0⟩ : ∃ w', w.alloc (.cells #[.int .u32 a, .int .u32 b, .int .u32 c] 23) = w' := ⟨_, rfl⟩
  have hp0 : Past w w0 := by rw [← hw0]; exact (Below.refl _ w).alloc (Nat.le_refl _) _
  have hr0 : Row w0 g 23 #[.int .u32 a, .int .u32 b, .int .u32 c] := by rw [← hw0, ← hg]; exact Row.new _ _ _
  go_upto_region 1 with (fail)
  try rw [hw0]
  try rw [hg]
  clear hw0 hg
  have HP0 := Lib.hid hp0
  have HR0 := Lib.hid hr0
  clear hp0 hr0
  go_wp2_with fail
  refine (HAW.out w0).mono ?_
  rintro e w1 ⟨rfl, hp⟩
  have H1 : Hid (Past w w1) := Lib.hid (HP0.out.trans' hp)
  have hr1 := HR0.out.past hp
  have k0 := hr1.cell 0
  have k1 := hr1.cell 1
  have k2 := hr1.cell 2
  clear hp HAW HR0 HP0 hr1
  go_wp2_with fail
  refine (HSP.out w1).mono ?_
  rintro e w2 ⟨rfl, hp⟩
  have H2 : Hid (Past w w2) := Lib.hid (H1.out.trans' hp)
  clear hp k0 k1 k2 HSP H1
  obtain ⟨u, hu⟩ : ∃ u, w2.heap.size = u := ⟨_, rfl⟩
  have hfr := fresh_row w2 25 lz.toArray lf.toArray
  have hr0 := Row.new w2 25 lz.toArray
  have hsN := HSN.out
  have hoN := HON.out
  rw [hu] at hfr hr0
  obtain ⟨w3, hw3⟩ : ∃ w', (w2.alloc (.cells lz.toArray 25)).setRow u lf.toArray = w' := ⟨_, rfl⟩
  rw [hw3] at hfr
  have H3 : Hid (Past w w3) := Lib.hid (H2.out.trans' hfr.2)
  have HROW := Lib.hid hfr.1
  have HW3 := Lib.hid hw3
  clear hw3 H2 hfr
  go_upto_region 4 with (refine wpList_store_row rfl 25 _ _ rfl u _ rfl rfl _ _ hr0 hi2 hsN hoN ?_)
  rw [HW3.out]
  clear HW3 hr0 hsN hoN hu
  have HSK : Hid (∀ w', Past w3 w' → w'.rangeAt u 0 lf) := Lib.hid (fun w' h => HRL.out _ _ (HROW.out.past h))
  have HPD : Hid (Past w3 w3.drew) := Lib.hid (Past.drewN (Below.refl _ w3) 1)
  refine wp_region_held_drew (S := fun w' => w'.rangeAt u 0 lf) (by kernel_rfl) (HSK.out _ HPD.out) (fun hH => ?_)
  refine held_take 0 8 rfl rfl (by kernel_rfl) (by kernel_rfl) (by kernel_rfl) (fun _ _ _ h => h) (yieldsIf_load_mid (by kernel_rfl) 25 (.tmp 3) rfl u 0 rfl lf _ (fun _ h => h) Try.underlying25 rfl hlf) hH ?_
  refine held_take 2 10 rfl rfl (by kernel_rfl) (by kernel_rfl) (by kernel_rfl) (fun _ _ _ h => h) (yieldsIf_load_mid (by kernel_rfl) 25 (.tmp 3) rfl u 0 rfl lf _ (fun _ h => h) Try.underlying25 rfl hlf) hH ?_
  refine wpAnyH_ready (rs := [1]) (by kernel_rfl) (by simp) ?_
  refine AllReadyH.cons rfl (fun K hK => ?_) AllReadyH.nil
  go_simp
  refine (HN.out w3.drew).mono ?_
  rintro e1 wc1 ⟨rfl, hp⟩
  have HPc1 : Hid (Past w3 wc1) := Lib.hid (HPD.out.trans' hp)
  clear hp
  refine hK.out _ _ (HSK.out _ HPc1.out) (fun hH => ?_)
  clear hK K
  refine wpAnyH_ready (rs := [3]) (by kernel_rfl) (by simp) ?_
  refine AllReadyH.cons rfl (fun K hK => ?_) AllReadyH.nil
  go_simp
  refine (HRN.out wc1).mono ?_
  rintro e2 wc2 ⟨rfl, hp⟩
  have HPc2 : Hid (Past w3 wc2) := Lib.hid (HPc1.out.trans' hp)
  clear hp
  refine hK.out _ _ (HSK.out _ HPc2.out) (fun hH => ?_)
  clear hK K
  refine held_take 4 12 (v := .bool true) rfl rfl (by kernel_rfl) (by kernel_rfl) (by kernel_rfl) (fun _ _ _ h => h) (Or.inl ⟨by kernel_rfl, fun w _ => by go_simp⟩) hH ?_
  refine held_take 5 2 (v := .bool true) rfl rfl (by kernel_rfl) (by kernel_rfl) (by kernel_rfl) (fun _ _ _ h => h) (Or.inl ⟨by kernel_rfl, fun w _ => by kernel_rfl⟩) hH ?_
  refine wpAnyH_done (by kernel_rfl) ?_ _
  go_simp
  go_wp2_with fail
  go_ret
  exact ⟨rfl, H3.out.trans' HPc2.out⟩

set_option maxRecDepth 100000 in
theorem lifted (H7 : Prog17) (os : Os) (started : os.Started) (H : Type) (enc : TypeId × Value → H) :
    ReturnsInHanded {} Try.checked os 3 .any (Rows.dringMatchesReferenceSpec.pre6 enc Try.prog Try.f3 Rows.dringMatchesReferenceRow.domain false) (Rows.dringMatchesReferenceSpec.post enc Try.prog Try.f3 false true false false) := by
  refine returnsInHanded_of_change (C := Try.checked) own started (by kernel_rfl) Try.func3
    (ChangeSpec.witness6 (enc := enc) (C := Try.checked) false ⟨#[], #[.agg #[.int .u32 0, .int .u32 0, .int .u32 0]], []⟩ 8 (by kernel_rfl) (by kernel_rfl) (by kernel_rfl) (by kernel_rfl)) ?_
  intro W base args ds gs before hval0 hW hcnd _
  have hval : ∀ (j : Nat) t v, Try.f3.params[j]? = some t → args[j]? = some v → Value.okWide Try.prog W .any base t v := hval0
  have hW' := hW
  obtain ⟨p, q, hA0, hV, rfl, hfz, hnd⟩ := hW
  have hA : DataW.TrodAll enc Try.prog W 0 (fun _ => true) true Try.f3.params.toList args.toList ds p := hA0
  rw [Try.params3] at hA hval
  obtain ⟨v0, vs0, d0, ds0, p0, q0, hargs, rfl, rfl, h0, r0⟩ := trodAll_cons hA
  obtain ⟨rfl, rfl, rfl⟩ := trodAll_nil r0
  obtain rfl : args = #[v0] := by cases args; simp_all
  obtain ⟨rfl, rfl⟩ := trodVars_none hV
  obtain ⟨a0, b0, c0, rfl, rfl, rfl, wa0, wb0, wc0⟩ := open3 (hval 0 23 v0 rfl rfl) h0
  clear hA0 hval0
  refine (walk H7 a0 b0 c0 W wa0 wb0 wc0).mono fun e W' ⟨he, bel⟩ => ?_
  subst he
  exact ⟨_, rfl, _, _, _, [], _, [], hW', trodAll_mk1 (shut_bool Try.underlying4 _), (trodAll_cons_mk (shut3 wa0 wb0 wc0) trodAll_mk0), rfl, bel.frame _, fun h => by cases h⟩

theorem over (H7 : Prog17) : Rows.dringMatchesReferenceRow.holds Try.pinned (OpenSpec.ofChange Rows.dringMatchesReferenceSpec) :=
  OpenClaim.holds_of_wide 3 Try.f3 rfl rfl rfl rfl rfl rfl rfl ⟨rfl, rfl, rfl, rfl, rfl⟩ rfl rfl rfl rfl rfl (by kernel_rfl) Try.func3 (by kernel_rfl)
    (of_decide_eq_true (by kernel_rfl)) (by unfold Func.isWrapper; first | (rw [if_pos (by decide +kernel)]; kernel_rfl) | (rw [if_neg (by decide +kernel)]; exact ⟨rfl, rfl⟩))
    (fun os started H enc _ => lifted H7 os started H enc)

theorem proved : Rows.DringMatchesReferenceSaid := over prog17
#print axioms proved
end Go.Proofs.Ytngbmaojgfocgaa.dr.dringMatchesReference
