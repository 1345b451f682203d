/- For every seed and every number of a round the law KeccakRounds of package pyxlaw06 returns true; there is no further condition. -/
import Derived.Test.YtdnpmkhincdghaaAwake
import Derived.Test.YtdnpmkhincdghaaImp6F
import Derived.Deep.RegionHeld3
import Derived.Deep.MidRow
import Derived.IntWalk
namespace Go.Proofs.Ytdnpmkhincdghaa.keccakRounds
open Go.ChangeShapes Go.WideShapes Go.ChangeAt Go.RowKit
set_option linter.unusedVariables false

theorem list_prd (L : Nat → Lane) (n : Nat) : (arr .u64 25 fun i => ln (kround (tr L) (rcL n) offN (i % 5 * 5 + i / 5))) = arr .u64 25 fun i => ln (prd L n i) := arr_ext fun i _ => by
  show ln (kround (tr L) (rcL n) offN (i % 5 * 5 + i / 5)) = ln (kround (tr L) (rcL n) offN (i / 5 + 5 * (i % 5)))
  rw [show i % 5 * 5 + i / 5 = i / 5 + 5 * (i % 5) by omega]

set_option maxHeartbeats 4000000 in
theorem walkOut (H : Prog6) (a b c : Lane) (i : Int) (hrng : i < 0 ∨ (0 ≤ i ∧ 23 < i)) (w : World) :
    Calls Try.prog 4 #[.agg #[.int .u64 (ln a), .int .u64 (ln b), .int .u64 (ln c)], .int .i64 i] w fun e w' => e = .returned (.bool true) ∧ Past w w' := by
  have HA := Lib.hid (awake_any H)
  have HS := Lib.hid (spread_any a b c)
  obtain ⟨i64, hi64, _, hz64, _⟩ := info_parts (show (Try.prog.info? 22).map (fun i => (i.zero, i.size, i.bytes)) = some (some (.int .u64 0), 1, 8) by kernel_rfl)
  have heL : Try.prog.eqGuardType Try.prog.depth 25 = false := by kernel_rfl
  go_enter Try.func4, Try.ntmps4
  go_wp2_with fail
  refine (HA.out _).mono ?_
  rintro e w1 ⟨rfl, hp⟩
  have H1 : Hid (Past w w1 ∧ Row w1 w.heap.size 23 #[.int .u64 (ln a), .int .u64 (ln b), .int .u64 (ln c)]) := ⟨(past_alloc6 _ _).trans' hp, (Row.new w _ _).past hp⟩
  clear hp
  have k0 := H1.out.2.cell 0
  have k1 := H1.out.2.cell 1
  have k2 := H1.out.2.cell 2
  simp at k0 k1 k2
  go_wp2_with fail
  refine (HS.out _).mono ?_
  rintro e w2 ⟨L, rfl, hp⟩
  have H2 := Lib.hid (H1.out.1.trans' hp)
  have HRo := H.round L i
  unfold fl at HRo
  have hpr : prdI L i = L := by
    unfold prdI
    rw [if_neg (by omega)]
  rw [hpr] at HRo
  have HRr := Lib.hid HRo
  clear H1 hp k0 k1 k2 HRo
  have hiL : (Try.prog.info? 25).map (·.size) = some (arr .u64 25 fun i => ln (L i)).size := by rw [arr_size]; kernel_rfl
  have hsL : (arr .u64 25 fun _ => 0).size = (arr .u64 25 fun i => ln (L i)).size := by rw [arr_size, arr_size]
  have hoL := arr_one .u64 25 fun i => ln (L i)
  have hqL := fun w => run_eq_arr (P := Try.prog) w (k := .u64) (n := 25) (f := fun i => ln (L i)) (g := fun i => ln (L i)) (t := 25) Try.underlying25 Try.underlying22 hi64 hz64
  rw [eqB_true fun _ _ => rfl] at hqL
  clear hi64 hz64
  skip
  generalize (arr .u64 25 fun i => ln (L i)) = cL at *
  have hn1 := heap_alloc_new w2 (.cells (arr .u64 25 fun _ => 0) 25)
  obtain ⟨w3, hw3⟩ : ∃ w3, w3 = w2.alloc (.cells cL 25) := ⟨_, rfl⟩
  have H3 : Hid (Past w w3 ∧ Row w3 w2.heap.size 25 cL) := by
    rw [hw3]
    exact ⟨H2.out.trans' (past_alloc6 _ _), Row.new _ _ _⟩
  have hr3 := H3.out.2
  have HW3 := Lib.hid hw3
  clear hw3 H2
  go_wp2_with (first | (refine wpList_store_row rfl 25 _ _ rfl w2.heap.size _ rfl rfl _ _ hn1 hiL hsL hoL ?_; rw [World.setRow_alloc_new, ← HW3.out]) | (refine wpList_load_row rfl 25 _ rfl w2.heap.size rfl _ _ (0, 0) _ hr3 Try.underlying25 rfl hiL ?_))
  refine (HRr.out _).mono ?_
  rintro e w4 ⟨rfl, hp⟩
  have H4 : Hid (Past w w4 ∧ Row w4 w2.heap.size 25 cL) := ⟨H3.out.1.trans' hp, H3.out.2.past hp⟩
  clear H3 hp HW3 hr3 hn1
  generalize w2.heap.size = s at *
  have hn1 := heap_alloc_new w4 (.cells (arr .u64 25 fun _ => 0) 25)
  obtain ⟨w5, hw5⟩ : ∃ w5, w5 = w4.alloc (.cells cL 25) := ⟨_, rfl⟩
  have H5 : Hid (Past w w5 ∧ Row w5 s 25 cL ∧ Row w5 w4.heap.size 25 cL) := by
    rw [hw5]
    exact ⟨H4.out.1.trans' (past_alloc6 _ _), H4.out.2.alloc _, Row.new _ _ _⟩
  have HW5 := Lib.hid hw5
  have hr5 := H5.out.2.1
  have hr6 := H5.out.2.2
  clear hw5 H4
  rcases hrng with hlo | ⟨hlo, hhi⟩
  all_goals
    go_wp2_with (first
      | (refine wpList_store_row rfl 25 _ _ rfl w4.heap.size _ rfl rfl _ _ hn1 hiL hsL hoL ?_; rw [World.setRow_alloc_new, ← HW5.out])
      | (refine wpList_load_row rfl 25 _ rfl w4.heap.size rfl _ _ (0, 0) _ hr6 Try.underlying25 rfl hiL ?_)
      | (refine wpList_load_row rfl 25 _ rfl s rfl _ _ (0, 0) _ hr5 Try.underlying25 rfl hiL ?_))
    go_ret
    exact ⟨rfl, H5.out.1⟩

set_option maxHeartbeats 4000000 in
theorem walkIn (H : Prog6) (a b c : Lane) (I : Nat) (hI : I < 24) (w : World) :
    Calls Try.prog 4 #[.agg #[.int .u64 (ln a), .int .u64 (ln b), .int .u64 (ln c)], .int .i64 (I : Int)] w fun e w' => e = .returned (.bool true) ∧ Past w w' := by
  have HA := Lib.hid (awake_any H)
  have HS := Lib.hid (spread_any a b c)
  obtain ⟨i64, hi64, _, hz64, _⟩ := info_parts (show (Try.prog.info? 22).map (fun i => (i.zero, i.size, i.bytes)) = some (some (.int .u64 0), 1, 8) by kernel_rfl)
  have heL : Try.prog.eqGuardType Try.prog.depth 25 = false := by kernel_rfl
  go_enter Try.func4, Try.ntmps4
  go_wp2_with fail
  refine (HA.out _).mono ?_
  rintro e w1 ⟨rfl, hp⟩
  have H1 : Hid (Past w w1 ∧ Row w1 w.heap.size 23 #[.int .u64 (ln a), .int .u64 (ln b), .int .u64 (ln c)]) := ⟨(past_alloc6 _ _).trans' hp, (Row.new w _ _).past hp⟩
  clear hp
  have k0 := H1.out.2.cell 0
  have k1 := H1.out.2.cell 1
  have k2 := H1.out.2.cell 2
  simp at k0 k1 k2
  go_wp2_with fail
  refine (HS.out _).mono ?_
  rintro e w2 ⟨L, rfl, hp⟩
  have H2 := Lib.hid (H1.out.1.trans' hp)
  have HRo := H.round L (I : Int)
  unfold fl at HRo
  have hpr : prdI L (I : Int) = prd L I := by
    unfold prdI
    rw [if_pos ⟨by omega, by omega⟩, Int.toNat_natCast]
  rw [hpr] at HRo
  have HOf := Lib.hid (of_any fun i => ln (L i))
  have HCo := Lib.hid constants_any
  have HOs := Lib.hid offsets_any
  have HRd := round_any (tr L) (rcL I) offN (fun j hj => offN_lt ⟨j, hj⟩)
  have HLi := list_any fun i => ln (kround (tr L) (rcL I) offN i)
  rw [list_prd] at HLi
  have HLi := Lib.hid HLi
  have hof : (arr .i64 25 fun i => (offN i : Int)) = arr .i64 25 offF := rfl
  rw [hof] at HRd
  have HRd := Lib.hid HRd
  clear hof
  have hci : (arr .u64 24 rcF)[((I : Int)).toNat]? = some (.int .u64 (ln (rcL I))) := by rw [Int.toNat_natCast, arr_get .u64 24 rcF I hI, rcF_ln ⟨I, hI⟩]
  have hix := fun w => run_index_cells w (t := 38) Try.underlying38 Try.underlying22 hi64 hz64 (I : Int) (by omega) (by omega) hci
  have HRr := Lib.hid HRo
  clear H1 hp k0 k1 k2 HRo
  have hiL : (Try.prog.info? 25).map (·.size) = some (arr .u64 25 fun i => ln (L i)).size := by rw [arr_size]; kernel_rfl
  have hsL : (arr .u64 25 fun _ => 0).size = (arr .u64 25 fun i => ln (L i)).size := by rw [arr_size, arr_size]
  have hoL := arr_one .u64 25 fun i => ln (L i)
  have hqL := fun w => run_eq_arr (P := Try.prog) w (k := .u64) (n := 25) (f := fun i => ln (prd L I i)) (g := fun i => ln (prd L I i)) (t := 25) Try.underlying25 Try.underlying22 hi64 hz64
  rw [eqB_true fun _ _ => rfl] at hqL
  have hiP : (Try.prog.info? 25).map (·.size) = some (arr .u64 25 fun i => ln (prd L I i)).size := by rw [arr_size]; kernel_rfl
  have hsP : (arr .u64 25 fun _ => 0).size = (arr .u64 25 fun i => ln (prd L I i)).size := by rw [arr_size, arr_size]
  have hoP := arr_one .u64 25 fun i => ln (prd L I i)
  clear hi64 hz64
  generalize (arr .u64 25 fun i => ln (prd L I i)) = cP at *
  generalize arr .u64 24 rcF = crc at *
  generalize arr .i64 25 offF = cof at *
  generalize (arr .u64 25 fun i => ln (L i)) = cL at *
  have hn1 := heap_alloc_new w2 (.cells (arr .u64 25 fun _ => 0) 25)
  obtain ⟨w3, hw3⟩ : ∃ w3, w3 = w2.alloc (.cells cL 25) := ⟨_, rfl⟩
  have H3 : Hid (Past w w3 ∧ Row w3 w2.heap.size 25 cL) := by
    rw [hw3]
    exact ⟨H2.out.trans' (past_alloc6 _ _), Row.new _ _ _⟩
  have hr3 := H3.out.2
  have HW3 := Lib.hid hw3
  clear hw3 H2
  go_wp2_with (first | (refine wpList_store_row rfl 25 _ _ rfl w2.heap.size _ rfl rfl _ _ hn1 hiL hsL hoL ?_; rw [World.setRow_alloc_new, ← HW3.out]) | (refine wpList_load_row rfl 25 _ rfl w2.heap.size rfl _ _ (0, 0) _ hr3 Try.underlying25 rfl hiL ?_))
  refine (HRr.out _).mono ?_
  rintro e w4 ⟨rfl, hp⟩
  have H4 : Hid (Past w w4 ∧ Row w4 w2.heap.size 25 cL) := ⟨H3.out.1.trans' hp, H3.out.2.past hp⟩
  clear H3 hp HW3 hr3 hn1
  generalize w2.heap.size = s at *
  have hn1 := heap_alloc_new w4 (.cells (arr .u64 25 fun _ => 0) 25)
  obtain ⟨w5, hw5⟩ : ∃ w5, w5 = w4.alloc (.cells cP 25) := ⟨_, rfl⟩
  have H5 : Hid (Past w w5 ∧ Row w5 s 25 cL ∧ Row w5 w4.heap.size 25 cP) := by
    rw [hw5]
    exact ⟨H4.out.1.trans' (past_alloc6 _ _), H4.out.2.alloc _, Row.new _ _ _⟩
  have HW5 := Lib.hid hw5
  clear hw5 H4
  have hI0 : (0 : Int) ≤ (I : Int) := by omega
  have hI1 : (I : Int) ≤ 23 := by omega
  go_wp2_with (first | (refine wpList_store_row rfl 25 _ _ rfl w4.heap.size _ rfl rfl _ _ hn1 hiP hsP hoP ?_; rw [World.setRow_alloc_new, ← HW5.out]))
  obtain ⟨lP⟩ := cP
  obtain ⟨lL⟩ := cL
  have hu25 := Try.underlying25
  have hil : (Try.prog.info? 25).map (·.size) = some lL.length := hiL
  have hip : (Try.prog.info? 25).map (·.size) = some lP.length := hiP
  have hs6 : w5.drew.rangeAt s 0 lL := H5.out.2.1.range
  have hb6 : w5.drew.rangeAt w4.heap.size 0 lP := H5.out.2.2.range
  have HP6 := Lib.hid (H5.out.1.drewN 1)
  clear HW5 hn1 hsL hoL hsP hoP
  generalize w4.heap.size = p at *
  have HX : Hid (∀ wx, Past w5.drew wx → wx.rangeAt s 0 lL ∧ wx.rangeAt p 0 lP) := fun wx hp => ⟨range_past hs6 hp, range_past hb6 hp⟩
  refine wp_region_held_drew (S := fun w' => w'.rangeAt s 0 lL ∧ w'.rangeAt p 0 lP) (by kernel_rfl) ⟨hs6, hb6⟩ (fun hH => ?_)
  refine wpAnyH_take (i := 0) rfl (by kernel_rfl) (by kernel_rfl) (by kernel_rfl) (fun _ _ _ h => h) (yieldsIf_load_mid rfl 25 (.tmp 6) rfl p 0 rfl lP _ (fun _ h => h.2) hu25 rfl hip) hH ?_
  refine wpAnyH_take (i := 1) rfl (by kernel_rfl) (by kernel_rfl) (by kernel_rfl) (fun _ _ _ h => h) (yieldsIf_load_mid rfl 25 (.tmp 5) rfl s 0 rfl lL _ (fun _ h => h.1) hu25 rfl hil) hH ?_
  refine wpAnyH_take (i := 4) (v := .int .i64 (I : Int)) rfl (by kernel_rfl) (by kernel_rfl) (by kernel_rfl) (fun _ _ _ h => h) (Or.inl ⟨by rfl, fun w _ => by go_simp⟩) hH ?_
  refine wpAnyH_ready (rs := [2]) (by kernel_rfl) (by simp) ?_
  refine AllReadyH.cons rfl (fun K hK => ?_) AllReadyH.nil
  go_simp
  refine (HOf.out _).mono ?_
  rintro e w6 ⟨rfl, hp⟩
  have HQ := Lib.hid hp
  refine hK.out _ _ (HX.out _ HQ.out) (fun hH => ?_)
  clear hp hK K
  refine wpAnyH_ready (rs := [3]) (by kernel_rfl) (by simp) ?_
  refine AllReadyH.cons rfl (fun K hK => ?_) AllReadyH.nil
  go_simp
  refine (HCo.out _).mono ?_
  rintro e w7 ⟨rfl, hp⟩
  replace HQ := Lib.hid (HQ.out.trans' hp)
  refine hK.out _ _ (HX.out _ HQ.out) (fun hH => ?_)
  clear hp hK K
  refine wpAnyH_take (i := 5) (v := .int .u64 (ln (rcL I))) rfl (by kernel_rfl) (by kernel_rfl) (by kernel_rfl) (fun _ _ _ h => h) (Or.inl ⟨by rfl, fun w _ => by go_simp⟩) hH ?_
  refine wpAnyH_ready (rs := [6]) (by kernel_rfl) (by simp) ?_
  refine AllReadyH.cons rfl (fun K hK => ?_) AllReadyH.nil
  go_simp
  refine (HOs.out _).mono ?_
  rintro e w8 ⟨rfl, hp⟩
  replace HQ := Lib.hid (HQ.out.trans' hp)
  refine hK.out _ _ (HX.out _ HQ.out) (fun hH => ?_)
  clear hp hK K
  refine wpAnyH_ready (rs := [7]) (by kernel_rfl) (by simp) ?_
  refine AllReadyH.cons rfl (fun K hK => ?_) AllReadyH.nil
  go_simp
  refine (HRd.out _).mono ?_
  rintro e w9 ⟨rfl, hp⟩
  replace HQ := Lib.hid (HQ.out.trans' hp)
  refine hK.out _ _ (HX.out _ HQ.out) (fun hH => ?_)
  clear hp hK K
  refine wpAnyH_ready (rs := [8]) (by kernel_rfl) (by simp) ?_
  refine AllReadyH.cons rfl (fun K hK => ?_) AllReadyH.nil
  go_simp
  refine (HLi.out _).mono ?_
  rintro e wa ⟨rfl, hp⟩
  replace HQ := Lib.hid (HQ.out.trans' hp)
  refine hK.out _ _ (HX.out _ HQ.out) (fun hH => ?_)
  clear hp hK K
  refine wpAnyH_take (i := 9) (v := .bool true) rfl (by kernel_rfl) (by kernel_rfl) (by kernel_rfl) (fun _ _ _ h => h) (Or.inl ⟨by rfl, fun w _ => by go_simp⟩) hH ?_
  refine wpAnyH_take (i := 10) (v := .bool true) rfl (by kernel_rfl) (by kernel_rfl) (by kernel_rfl) (fun _ _ _ h => h) (Or.inl ⟨by rfl, fun w _ => by go_simp⟩) hH ?_
  refine wpAnyH_done (by kernel_rfl) ?_ _
  go_wp2_with fail
  go_ret
  exact ⟨rfl, HP6.out.trans' HQ.out⟩

theorem walk (H : Prog6) (a b c : Int) (i : Int) (w : World) (ha : (Lit.int .u64 a).wf = true) (hb : (Lit.int .u64 b).wf = true) (hc : (Lit.int .u64 c).wf = true) (hi : (Lit.int .i64 i).wf = true) :
    Calls Try.prog 4 #[.agg #[.int .u64 a, .int .u64 b, .int .u64 c], .int .i64 i] w fun e w' => e = .returned (.bool true) ∧ Past w w' := by
  obtain ⟨a, rfl⟩ := lane_of ha
  obtain ⟨b, rfl⟩ := lane_of hb
  obtain ⟨c, rfl⟩ := lane_of hc
  by_cases h : 0 ≤ i ∧ i ≤ 23
  · obtain ⟨I, rfl⟩ : ∃ I : Nat, i = (I : Int) := ⟨i.toNat, by omega⟩
    exact walkIn H a b c I (by omega) w
  · exact walkOut H a b c i (by omega) w

set_option maxRecDepth 100000 in
theorem lifted (H6 : Prog6) (os : Os) (started : os.Started) (H : Type) (enc : TypeId × Value → H) :
    ReturnsInHanded {} Try.checked os 4 .any (Rows.keccakRoundsSpec.pre6 enc Try.prog Try.f4 Rows.keccakRoundsRow.domain false) (Rows.keccakRoundsSpec.post enc Try.prog Try.f4 false true false false) := by
  refine returnsInHanded_of_change (C := Try.checked) own started (by kernel_rfl) Try.func4
    (ChangeSpec.witness6 (enc := enc) (C := Try.checked) false ⟨#[], #[.agg #[.int .u64 0, .int .u64 0, .int .u64 0], .int .i64 0], []⟩ 8 (by kernel_rfl) (by kernel_rfl) (by kernel_rfl) (by kernel_rfl)) ?_
  intro W base args ds gs before hval0 hW hcnd _
  have hval : ∀ (j : Nat) t v, Try.f4.params[j]? = some t → args[j]? = some v → Value.okWide Try.prog W .any base t v := hval0
  have hW' := hW
  obtain ⟨p, q, hA0, hV, rfl, hfz, hnd⟩ := hW
  have hA : DataW.TrodAll enc Try.prog W 0 (fun _ => true) true Try.f4.params.toList args.toList ds p := hA0
  rw [Try.params4] at hA hval
  obtain ⟨v0, vs0, d0, ds0, p0, q0, hargs, rfl, rfl, h0, r0⟩ := trodAll_cons hA
  obtain ⟨v1, vs1, d1, ds1, p1, q1, rfl, rfl, rfl, h1, r1⟩ := trodAll_cons r0
  obtain ⟨rfl, rfl, rfl⟩ := trodAll_nil r1
  obtain rfl : args = #[v0, v1] := by cases args; simp_all
  obtain ⟨rfl, rfl⟩ := trodVars_none hV
  obtain ⟨a0, b0, c0, rfl, rfl, rfl, wa0, wb0, wc0⟩ := open3 (hval 0 23 v0 rfl rfl) h0
  obtain ⟨a1, rfl, rfl, rfl, w1⟩ := open_int Try.underlying3 (hval 1 3 v1 rfl rfl) h1
  clear hA0 hval0
  refine (walk H6 a0 b0 c0 a1 W wa0 wb0 wc0 w1).mono fun e W' ⟨he, bel⟩ => ?_
  subst he
  exact ⟨_, rfl, _, _, _, [], _, [], hW', trodAll_mk1 (shut_bool Try.underlying4 _), (trodAll_cons_mk (shut3 wa0 wb0 wc0) (trodAll_cons_mk (shut_int Try.underlying3 w1) trodAll_mk0)), rfl, bel.frame _, fun h => by cases h⟩

theorem over (H6 : Prog6) : Rows.keccakRoundsRow.holds Try.pinned (OpenSpec.ofChange Rows.keccakRoundsSpec) :=
  OpenClaim.holds_of_wide 4 Try.f4 rfl rfl rfl rfl rfl rfl rfl ⟨rfl, rfl, rfl, rfl, rfl⟩ rfl rfl rfl rfl rfl (by kernel_rfl) Try.func4 (by kernel_rfl)
    (of_decide_eq_true (by kernel_rfl)) (by unfold Func.isWrapper; first | (rw [if_pos (by decide +kernel)]; kernel_rfl) | (rw [if_neg (by decide +kernel)]; exact ⟨rfl, rfl⟩))
    (fun os started H enc _ => lifted H6 os started H enc)

theorem proved : Rows.KeccakRoundsSaid := over prog6

end Go.Proofs.Ytdnpmkhincdghaa.keccakRounds
