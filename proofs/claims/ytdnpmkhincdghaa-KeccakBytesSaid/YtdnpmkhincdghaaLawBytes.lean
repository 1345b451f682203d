/- For every seed the law KeccakBytes of package pyxlaw06 returns true; there is no further condition. -/
import Derived.Test.YtdnpmkhincdghaaAwake
import Derived.Test.YtdnpmkhincdghaaImp6F
import Derived.Deep.RegionHeld3
import Derived.Deep.MidRow
import Derived.IntWalk
namespace Go.Proofs.Ytdnpmkhincdghaa.keccakBytes
open Go.ChangeShapes Go.WideShapes Go.ChangeAt Go.RowKit
set_option linter.unusedVariables false

set_option maxHeartbeats 2000000 in
theorem walk' (H : Prog6) (a b c : Lane) (w : World) :
    Calls Try.prog 6 #[.agg #[.int .u64 (ln a), .int .u64 (ln b), .int .u64 (ln c)]] w fun e w' => e = .returned (.bool true) ∧ Past w w' := by
  have HA := Lib.hid (awake_any H)
  have HS := Lib.hid (spread_any a b c)
  have hz200 := zero200
  go_enter Try.func6, Try.ntmps6
  go_wp2_with fail
  refine (HA.out _).mono ?_
  rintro e w1 ⟨rfl, hp⟩
  have H1 : Hid (Past w w1 ∧ Row w1 w.heap.size 23 #[.int .u64 (ln a), .int .u64 (ln b), .int .u64 (ln c)]) := ⟨(past_alloc6 _ _).trans' hp, (Row.new w _ _).past hp⟩
  clear hp
  have k0 := H1.out.2.cell 0
  have k1 := H1.out.2.cell 1
  have k2 := H1.out.2.cell 2
  simp at k0 k1 k2
  go_wp2_with fail
  refine (HS.out _).mono ?_
  rintro e w2 ⟨L, rfl, hp⟩
  have H2 := Lib.hid (H1.out.1.trans' hp)
  have HB := H.bytes L
  have HF := H.from' L
  have HR := bytes_any L
  unfold fl at HB HF
  clear H1 hp k0 k1 k2
  have hiL : (Try.prog.info? 25).map (·.size) = some (arr .u64 25 fun i => ln (L i)).size := by rw [arr_size]; kernel_rfl
  have hsL : (arr .u64 25 fun _ => 0).size = (arr .u64 25 fun i => ln (L i)).size := by rw [arr_size, arr_size]
  have hoL := arr_one .u64 25 fun i => ln (L i)
  have hiB : (Try.prog.info? 47).map (·.size) = some (arr .u8 200 (kbyte L)).size := by rw [arr_size]; kernel_rfl
  have hsB : (arr .u8 200 fun _ => 0).size = (arr .u8 200 (kbyte L)).size := by rw [arr_size, arr_size]
  have hoB := arr_one .u8 200 (kbyte L)
  obtain ⟨i8, hi8, _, hz8, _⟩ := info_parts (show (Try.prog.info? 5).map (fun i => (i.zero, i.size, i.bytes)) = some (some (.int .u8 0), 1, 1) by kernel_rfl)
  obtain ⟨i64, hi64, _, hz64, _⟩ := info_parts (show (Try.prog.info? 22).map (fun i => (i.zero, i.size, i.bytes)) = some (some (.int .u64 0), 1, 8) by kernel_rfl)
  have hqB := fun w => run_eq_arr (P := Try.prog) w (k := .u8) (n := 200) (f := kbyte L) (g := kbyte L) (t := 47) Try.underlying47 Try.underlying5 hi8 hz8
  have hqL := fun w => run_eq_arr (P := Try.prog) w (k := .u64) (n := 25) (f := fun i => ln (L i)) (g := fun i => ln (L i)) (t := 25) Try.underlying25 Try.underlying22 hi64 hz64
  rw [eqB_true fun _ _ => rfl] at hqB hqL
  have HBb := Lib.hid HB
  have HFf := Lib.hid HF
  have HRr := Lib.hid HR
  clear HB HF HR
  generalize arr .u8 200 (kbyte L) = cB at *
  generalize (arr .u64 25 fun i => ln (L i)) = cL at *
  have hn1 := heap_alloc_new w2 (.cells (arr .u64 25 fun _ => 0) 25)
  obtain ⟨w3, hw3⟩ : ∃ w3, w3 = w2.alloc (.cells cL 25) := ⟨_, rfl⟩
  have H3 : Hid (Past w w3 ∧ Row w3 w2.heap.size 25 cL) := by
    rw [hw3]
    exact ⟨H2.out.trans' (past_alloc6 _ _), Row.new _ _ _⟩
  have hr3 := H3.out.2
  have HW3 := Lib.hid hw3
  clear hw3 H2
  go_wp2_with (first | (refine wpList_store_row rfl 25 _ _ rfl w2.heap.size _ rfl rfl _ _ hn1 hiL hsL hoL ?_; rw [World.setRow_alloc_new, ← HW3.out]) | (refine wpList_load_row rfl 25 _ rfl w2.heap.size rfl _ _ (0, 0) _ hr3 Try.underlying25 rfl hiL ?_))
  refine (HBb.out _).mono ?_
  rintro e w4 ⟨rfl, hp⟩
  have H4 : Hid (Past w w4 ∧ Row w4 w2.heap.size 25 cL) := ⟨H3.out.1.trans' hp, H3.out.2.past hp⟩
  clear H3 hp HW3 hr3 hn1
  generalize w2.heap.size = s at *
  have hn1 := heap_alloc_new w4 (.cells (arr .u8 200 fun _ => 0) 47)
  obtain ⟨w5, hw5⟩ : ∃ w5, w5 = w4.alloc (.cells cB 47) := ⟨_, rfl⟩
  have H5 : Hid (Past w w5 ∧ Row w5 s 25 cL ∧ Row w5 w4.heap.size 47 cB) := by
    rw [hw5]
    exact ⟨H4.out.1.trans' (past_alloc6 _ _), H4.out.2.alloc _, Row.new _ _ _⟩
  have HW5 := Lib.hid hw5
  clear hw5 H4
  go_wp2_with (first | (refine wpList_store_row rfl 47 _ _ rfl w4.heap.size _ rfl rfl _ _ hn1 hiB hsB hoB ?_; rw [World.setRow_alloc_new, ← HW5.out]))
  obtain ⟨lB⟩ := cB
  obtain ⟨lL⟩ := cL
  have hs5 := H5.out.2.1.range
  have hb5 := H5.out.2.2.range
  have hu47 := Try.underlying47
  have hu25 := Try.underlying25
  have heB : Try.prog.eqGuardType Try.prog.depth 47 = false := by kernel_rfl
  have heL : Try.prog.eqGuardType Try.prog.depth 25 = false := by kernel_rfl
  have hil : (Try.prog.info? 25).map (·.size) = some lL.length := hiL
  have hib : (Try.prog.info? 47).map (·.size) = some lB.length := hiB
  have HP5 := Lib.hid H5.out.1
  clear H5 HW5 hn1 hsL hsB hoL hoB hiL hiB hz200 HBb hi8 hz8 hi64 hz64
  generalize w4.heap.size = b4 at *
  have hs6 : w5.drew.rangeAt s 0 lL := hs5
  have hb6 : w5.drew.rangeAt b4 0 lB := hb5
  have HP6 := Lib.hid (HP5.out.drewN 1)
  refine wp_region_held_drew (S := fun w' => w'.rangeAt s 0 lL ∧ w'.rangeAt b4 0 lB) (by kernel_rfl) ⟨hs6, hb6⟩ (fun hH => ?_)
  refine wpAnyH_take (i := 0) rfl (by kernel_rfl) (by kernel_rfl) (by kernel_rfl) (fun _ _ _ h => h) (yieldsIf_load_mid rfl 47 (.tmp 4) rfl b4 0 rfl lB _ (fun _ h => h.2) hu47 rfl hib) hH ?_
  refine wpAnyH_take (i := 1) rfl (by kernel_rfl) (by kernel_rfl) (by kernel_rfl) (fun _ _ _ h => h) (yieldsIf_load_mid rfl 25 (.tmp 3) rfl s 0 rfl lL _ (fun _ h => h.1) hu25 rfl hil) hH ?_
  refine wpAnyH_ready (rs := [2]) (by kernel_rfl) (by simp) ?_
  refine AllReadyH.cons rfl (fun K hK => ?_) AllReadyH.nil
  go_simp
  refine (HRr.out _).mono ?_
  rintro e w6 ⟨rfl, hp⟩
  have HS6 := Lib.hid (And.intro (range_past hs6 hp) (And.intro (range_past hb6 hp) (HP6.out.trans' hp)))
  refine hK.out _ _ ⟨HS6.out.1, HS6.out.2.1⟩ (fun hH => ?_)
  clear hp hK K
  refine wpAnyH_take (i := 3) (v := .bool true) rfl (by kernel_rfl) (by kernel_rfl) (by kernel_rfl) (fun _ _ _ h => h) (Or.inl ⟨by rfl, fun w _ => by go_simp⟩) hH ?_
  refine wpAnyH_take (i := 4) (v := .bool true) rfl (by kernel_rfl) (by kernel_rfl) (by kernel_rfl) (fun _ _ _ h => h) (Or.inl ⟨by rfl, fun w _ => by go_simp⟩) hH ?_
  refine wpAnyH_take (i := 5) rfl (by kernel_rfl) (by kernel_rfl) (by kernel_rfl) (fun _ _ _ h => h) (yieldsIf_load_mid rfl 47 (.tmp 4) rfl b4 0 rfl lB _ (fun _ h => h.2) hu47 rfl hib) hH ?_
  refine wpAnyH_take (i := 7) rfl (by kernel_rfl) (by kernel_rfl) (by kernel_rfl) (fun _ _ _ h => h) (yieldsIf_load_mid rfl 25 (.tmp 3) rfl s 0 rfl lL _ (fun _ h => h.1) hu25 rfl hil) hH ?_
  refine wpAnyH_ready (rs := [6]) (by kernel_rfl) (by simp) ?_
  refine AllReadyH.cons rfl (fun K hK => ?_) AllReadyH.nil
  go_simp
  refine (HFf.out _).mono ?_
  rintro e w7 ⟨rfl, hp⟩
  have HS7 := Lib.hid (And.intro (range_past HS6.out.1 hp) (And.intro (range_past HS6.out.2.1 hp) (HS6.out.2.2.trans' hp)))
  refine hK.out _ _ ⟨HS7.out.1, HS7.out.2.1⟩ (fun hH => ?_)
  clear hp hK K
  refine wpAnyH_take (i := 8) (v := .bool true) rfl (by kernel_rfl) (by kernel_rfl) (by kernel_rfl) (fun _ _ _ h => h) (Or.inl ⟨by rfl, fun w _ => by go_simp⟩) hH ?_
  refine wpAnyH_take (i := 9) (v := .bool true) rfl (by kernel_rfl) (by kernel_rfl) (by kernel_rfl) (fun _ _ _ h => h) (Or.inl ⟨by rfl, fun w _ => by go_simp⟩) hH ?_
  refine wpAnyH_take (i := 10) (v := .bool true) rfl (by kernel_rfl) (by kernel_rfl) (by kernel_rfl) (fun _ _ _ h => h) (Or.inl ⟨by rfl, fun w _ => by go_simp⟩) hH ?_
  refine wpAnyH_done (by kernel_rfl) ?_ _
  go_wp2_with fail
  go_ret
  exact ⟨rfl, HS7.out.2.2⟩

theorem walk (H : Prog6) (a b c : Int) (w : World) (ha : (Lit.int .u64 a).wf = true) (hb : (Lit.int .u64 b).wf = true) (hc : (Lit.int .u64 c).wf = true) :
    Calls Try.prog 6 #[.agg #[.int .u64 a, .int .u64 b, .int .u64 c]] w fun e w' => e = .returned (.bool true) ∧ Past w w' := by
  obtain ⟨a, rfl⟩ := lane_of ha
  obtain ⟨b, rfl⟩ := lane_of hb
  obtain ⟨c, rfl⟩ := lane_of hc
  exact walk' H a b c w

set_option maxRecDepth 100000 in
theorem lifted (H6 : Prog6) (os : Os) (started : os.Started) (H : Type) (enc : TypeId × Value → H) :
    ReturnsInHanded {} Try.checked os 6 .any (Rows.keccakBytesSpec.pre6 enc Try.prog Try.f6 Rows.keccakBytesRow.domain false) (Rows.keccakBytesSpec.post enc Try.prog Try.f6 false true false false) := by
  refine returnsInHanded_of_change (C := Try.checked) own started (by kernel_rfl) Try.func6
    (ChangeSpec.witness6 (enc := enc) (C := Try.checked) false ⟨#[], #[.agg #[.int .u64 0, .int .u64 0, .int .u64 0]], []⟩ 8 (by kernel_rfl) (by kernel_rfl) (by kernel_rfl) (by kernel_rfl)) ?_
  intro W base args ds gs before hval0 hW hcnd _
  have hval : ∀ (j : Nat) t v, Try.f6.params[j]? = some t → args[j]? = some v → Value.okWide Try.prog W .any base t v := hval0
  have hW' := hW
  obtain ⟨p, q, hA0, hV, rfl, hfz, hnd⟩ := hW
  have hA : DataW.TrodAll enc Try.prog W 0 (fun _ => true) true Try.f6.params.toList args.toList ds p := hA0
  rw [Try.params6] at hA hval
  obtain ⟨v0, vs0, d0, ds0, p0, q0, hargs, rfl, rfl, h0, r0⟩ := trodAll_cons hA
  obtain ⟨rfl, rfl, rfl⟩ := trodAll_nil r0
  obtain rfl : args = #[v0] := by cases args; simp_all
  obtain ⟨rfl, rfl⟩ := trodVars_none hV
  obtain ⟨a0, b0, c0, rfl, rfl, rfl, wa0, wb0, wc0⟩ := open3 (hval 0 23 v0 rfl rfl) h0
  clear hA0 hval0
  refine (walk H6 a0 b0 c0 W wa0 wb0 wc0).mono fun e W' ⟨he, bel⟩ => ?_
  subst he
  exact ⟨_, rfl, _, _, _, [], _, [], hW', trodAll_mk1 (shut_bool Try.underlying4 _), (trodAll_cons_mk (shut3 wa0 wb0 wc0) trodAll_mk0), rfl, bel.frame _, fun h => by cases h⟩

theorem over (H6 : Prog6) : Rows.keccakBytesRow.holds Try.pinned (OpenSpec.ofChange Rows.keccakBytesSpec) :=
  OpenClaim.holds_of_wide 6 Try.f6 rfl rfl rfl rfl rfl rfl rfl ⟨rfl, rfl, rfl, rfl, rfl⟩ rfl rfl rfl rfl rfl (by kernel_rfl) Try.func6 (by kernel_rfl)
    (of_decide_eq_true (by kernel_rfl)) (by unfold Func.isWrapper; first | (rw [if_pos (by decide +kernel)]; kernel_rfl) | (rw [if_neg (by decide +kernel)]; exact ⟨rfl, rfl⟩))
    (fun os started H enc _ => lifted H6 os started H enc)

theorem proved : Rows.KeccakBytesSaid := over prog6

end Go.Proofs.Ytdnpmkhincdghaa.keccakBytes
