/- For every seed the law KeccakMatchesReference of package pyxlaw06 returns true; there is no further condition. -/
import Derived.Test.YtdnpmkhincdghaaAwake
import Derived.Test.YtdnpmkhincdghaaImp6F
import Derived.Deep.RegionHeld3
import Derived.Deep.MidRow
import Derived.IntWalk
namespace Go.Proofs.Ytdnpmkhincdghaa.keccakMatches
open Go.ChangeShapes Go.WideShapes Go.ChangeAt Go.RowKit
set_option linter.unusedVariables false

theorem list_ppm (L : Nat → Lane) : (arr .u64 25 fun i => ln (kperm (tr L) (i % 5 * 5 + i / 5))) = arr .u64 25 fun i => ln (ppm L i) := arr_ext fun i _ => by
  show ln (kperm (tr L) (i % 5 * 5 + i / 5)) = ln (kperm (tr L) (i / 5 + 5 * (i % 5)))
  rw [show i % 5 * 5 + i / 5 = i / 5 + 5 * (i % 5) by omega]

set_option maxHeartbeats 4000000 in
theorem walk' (H : Prog6) (a b c : Lane) (w : World) :
    Calls Try.prog 3 #[.agg #[.int .u64 (ln a), .int .u64 (ln b), .int .u64 (ln c)]] w fun e w' => e = .returned (.bool true) ∧ Past w w' := by
  have HA := Lib.hid (awake_any H)
  have HS := Lib.hid (spread_any a b c)
  go_enter Try.func3, Try.ntmps3
  go_wp2_with fail
  refine (HA.out _).mono ?_
  rintro e w1 ⟨rfl, hp⟩
  have H1 : Hid (Past w w1 ∧ Row w1 w.heap.size 23 #[.int .u64 (ln a), .int .u64 (ln b), .int .u64 (ln c)]) := ⟨(past_alloc6 _ _).trans' hp, (Row.new w _ _).past hp⟩
  clear hp
  have k0 := H1.out.2.cell 0
  have k1 := H1.out.2.cell 1
  have k2 := H1.out.2.cell 2
  simp at k0 k1 k2
  go_wp2_with fail
  refine (HS.out _).mono ?_
  rintro e w2 ⟨L, rfl, hp⟩
  have H2 := Lib.hid (H1.out.1.trans' hp)
  have HP := H.perm L
  unfold fl at HP
  have HPp := Lib.hid HP
  have HRo := Lib.hid H.round
  have HOf := Lib.hid (of_any fun i => ln (L i))
  have HRp := Lib.hid (permute_any (tr L))
  have HLi := list_any fun i => ln (kperm (tr L) i)
  rw [list_ppm] at HLi
  have HLi := Lib.hid HLi
  have HPS := Lib.hid (fun i => prS_ppm L i)
  clear H1 hp k0 k1 k2 HP
  have hiL : (Try.prog.info? 25).map (·.size) = some (arr .u64 25 fun i => ln (L i)).size := by rw [arr_size]; kernel_rfl
  have hsL : (arr .u64 25 fun _ => 0).size = (arr .u64 25 fun i => ln (L i)).size := by rw [arr_size, arr_size]
  have hoL := arr_one .u64 25 fun i => ln (L i)
  have hiT : (Try.prog.info? 27).map (·.size) = some (arr .u64 25 fun i => ln (L i)).size := by rw [arr_size]; kernel_rfl
  have hiP : (Try.prog.info? 27).map (·.size) = some (arr .u64 25 fun i => ln (ppm L i)).size := by rw [arr_size]; kernel_rfl
  have hsP : (arr .u64 25 fun _ => 0).size = (arr .u64 25 fun i => ln (ppm L i)).size := by rw [arr_size, arr_size]
  have hoP := arr_one .u64 25 fun i => ln (ppm L i)
  obtain ⟨i64, hi64, _, hz64, _⟩ := info_parts (show (Try.prog.info? 22).map (fun i => (i.zero, i.size, i.bytes)) = some (some (.int .u64 0), 1, 8) by kernel_rfl)
  have hqL := fun w => run_eq_arr (P := Try.prog) w (k := .u64) (n := 25) (f := fun i => ln (ppm L i)) (g := fun i => ln (ppm L i)) (t := 25) Try.underlying25 Try.underlying22 hi64 hz64
  have hqT := fun w => run_eq_arr (P := Try.prog) w (k := .u64) (n := 25) (f := fun i => ln (ppm L i)) (g := fun i => ln (ppm L i)) (t := 27) Try.underlying27 Try.underlying22 hi64 hz64
  rw [eqB_true fun _ _ => rfl] at hqL hqT
  have heL : Try.prog.eqGuardType Try.prog.depth 25 = false := by kernel_rfl
  have heT : Try.prog.eqGuardType Try.prog.depth 27 = false := by kernel_rfl
  have hl0 : Hid ((arr .u64 25 fun i => ln (L i)) = arr .u64 25 fun i => ln (prS L 0 i)) := rfl
  have hlP : Hid ((arr .u64 25 fun i => ln (prS L 24 i)) = arr .u64 25 fun i => ln (ppm L i)) := arr_ext fun i hi => by rw [HPS.out i hi]
  clear hi64 hz64
  generalize (arr .u64 25 fun i => ln (ppm L i)) = cP at *
  generalize (arr .u64 25 fun i => ln (L i)) = cL at *
  have hn1 := heap_alloc_new w2 (.cells (arr .u64 25 fun _ => 0) 25)
  obtain ⟨w3, hw3⟩ : ∃ w3, w3 = w2.alloc (.cells cL 25) := ⟨_, rfl⟩
  have H3 : Hid (Past w w3 ∧ Row w3 w2.heap.size 25 cL) := by
    rw [hw3]
    exact ⟨H2.out.trans' (past_alloc6 _ _), Row.new _ _ _⟩
  have hr3 := H3.out.2
  have HW3 := Lib.hid hw3
  clear hw3 H2
  go_wp2_with (first | (refine wpList_store_row rfl 25 _ _ rfl w2.heap.size _ rfl rfl _ _ hn1 hiL hsL hoL ?_; rw [World.setRow_alloc_new, ← HW3.out]) | (refine wpList_load_row rfl 25 _ rfl w2.heap.size rfl _ _ (0, 0) _ hr3 Try.underlying25 rfl hiL ?_))
  refine (HPp.out _).mono ?_
  rintro e w4 ⟨rfl, hp⟩
  have H4 : Hid (Past w w4 ∧ Row w4 w2.heap.size 25 cL) := ⟨H3.out.1.trans' hp, H3.out.2.past hp⟩
  clear H3 hp HW3 hr3 hn1
  generalize w2.heap.size = s at *
  have hn1 := heap_alloc_new w4 (.cells (arr .u64 25 fun _ => 0) 27)
  obtain ⟨w5, hw5⟩ : ∃ w5, w5 = w4.alloc (.cells cP 27) := ⟨_, rfl⟩
  have H5 : Hid (Past w w5 ∧ Row w5 s 25 cL ∧ Row w5 w4.heap.size 27 cP ∧ s < w4.heap.size) := by
    rw [hw5]
    exact ⟨H4.out.1.trans' (past_alloc6 _ _), H4.out.2.alloc _, Row.new _ _ _, H4.out.2.lt⟩
  have HW5 := Lib.hid hw5
  clear hw5 H4
  go_wp2_with (first | (refine wpList_store_row rfl 27 _ _ rfl w4.heap.size _ rfl rfl _ _ hn1 hiP hsP hoP ?_; rw [World.setRow_alloc_new, ← HW5.out]))
  obtain ⟨lP⟩ := cP
  obtain ⟨lL⟩ := cL
  have hu27 := Try.underlying27
  have hu25 := Try.underlying25
  have hil : (Try.prog.info? 25).map (·.size) = some lL.length := hiL
  have hip : (Try.prog.info? 27).map (·.size) = some lP.length := hiP
  have hs6 : w5.drew.rangeAt s 0 lL := H5.out.2.1.range
  have hb6 : w5.drew.rangeAt w4.heap.size 0 lP := H5.out.2.2.1.range
  have HR5 := Lib.hid H5.out
  have HP6 := Lib.hid (H5.out.1.drewN 1)
  clear HW5 hn1
  generalize w4.heap.size = p at *
  have HX : Hid (∀ wx, Past w5.drew wx → wx.rangeAt s 0 lL ∧ wx.rangeAt p 0 lP) := fun wx hp => ⟨range_past hs6 hp, range_past hb6 hp⟩
  refine wp_region_held_drew (S := fun w' => w'.rangeAt s 0 lL ∧ w'.rangeAt p 0 lP) (by kernel_rfl) ⟨hs6, hb6⟩ (fun hH => ?_)
  refine wpAnyH_take (i := 0) rfl (by kernel_rfl) (by kernel_rfl) (by kernel_rfl) (fun _ _ _ h => h) (yieldsIf_load_mid rfl 27 (.tmp 4) rfl p 0 rfl lP _ (fun _ h => h.2) hu27 rfl hip) hH ?_
  refine wpAnyH_take (i := 1) rfl (by kernel_rfl) (by kernel_rfl) (by kernel_rfl) (fun _ _ _ h => h) (yieldsIf_load_mid rfl 25 (.tmp 3) rfl s 0 rfl lL _ (fun _ h => h.1) hu25 rfl hil) hH ?_
  refine wpAnyH_ready (rs := [2]) (by kernel_rfl) (by simp) ?_
  refine AllReadyH.cons rfl (fun K hK => ?_) AllReadyH.nil
  go_simp
  refine (HOf.out _).mono ?_
  rintro e w6 ⟨rfl, hp⟩
  have HQ := Lib.hid hp
  refine hK.out _ _ (HX.out _ HQ.out) (fun hH => ?_)
  clear hp hK K
  refine wpAnyH_ready (rs := [3]) (by kernel_rfl) (by simp) ?_
  refine AllReadyH.cons rfl (fun K hK => ?_) AllReadyH.nil
  go_simp
  refine (HRp.out _).mono ?_
  rintro e w7 ⟨rfl, hp⟩
  replace HQ := Lib.hid (HQ.out.trans' hp)
  refine hK.out _ _ (HX.out _ HQ.out) (fun hH => ?_)
  clear hp hK K
  refine wpAnyH_ready (rs := [4]) (by kernel_rfl) (by simp) ?_
  refine AllReadyH.cons rfl (fun K hK => ?_) AllReadyH.nil
  go_simp
  refine (HLi.out _).mono ?_
  rintro e w8 ⟨rfl, hp⟩
  replace HQ := Lib.hid (HQ.out.trans' hp)
  refine hK.out _ _ (HX.out _ HQ.out) (fun hH => ?_)
  clear hp hK K
  refine wpAnyH_take (i := 5) (v := .bool false) rfl (by kernel_rfl) (by kernel_rfl) (by kernel_rfl) (fun _ _ _ h => h) (Or.inl ⟨by rfl, fun w _ => by go_simp⟩) hH ?_
  refine wpAnyH_done (by kernel_rfl) ?_ _
  have H8 : Hid (Past w w8 ∧ Row w8 s 25 ⟨lL⟩ ∧ Row w8 p 27 ⟨lP⟩ ∧ s < p) := ⟨HP6.out.trans' HQ.out, Row.past (Row.drewN HR5.out.2.1 1) HQ.out, Row.past (Row.drewN HR5.out.2.2.1 1) HQ.out, HR5.out.2.2.2⟩
  clear HQ hH H5 HP6 HX hs6 hb6 HR5 HOf HRp HLi HPp HA HS hoP hsP
  have hn1 := heap_alloc_new w8 (.cells (arr .u64 25 fun _ => 0) 27)
  obtain ⟨w9, hw9⟩ : ∃ w9, w9 = w8.alloc (.cells ⟨lL⟩ 27) := ⟨_, rfl⟩
  have H9 : Hid (Past w w9 ∧ Row w9 w8.heap.size 27 ⟨lL⟩ ∧ Row w9 p 27 ⟨lP⟩ ∧ p < w8.heap.size) := by
    rw [hw9]
    exact ⟨H8.out.1.trans' (past_alloc6 _ _), Row.new _ _ _, Row.alloc H8.out.2.2.1 _, Row.lt H8.out.2.2.1⟩
  have hw8 : Hid (w.heap.size ≤ w8.heap.size) := H8.out.1.size
  have HW9 := Lib.hid hw9
  have hr8 := H8.out.2.1
  clear hw9
  go_wp2_with (first | (refine wpList_load_row rfl 25 _ rfl s rfl _ _ (0, 0) _ hr8 Try.underlying25 rfl hiL ?_) | (refine wpList_store_row rfl 27 _ _ rfl w8.heap.size _ rfl rfl _ _ hn1 hiT hsL hoL ?_; rw [World.setRow_alloc_new, ← HW9.out]))
  clear H8 HW9 hr8 hn1
  generalize w8.heap.size = t at *
  rw [hl0.out] at H9
  have hB : w.heap.size ≤ t := hw8.out
  go_loopg [6] 24 (fun k s6 wx => ∃ i : Nat, i ≤ 24 ∧ k = 24 - i ∧ s6 = .int .i64 (i : Int) ∧ Hid (Past w wx ∧ Row wx t 27 (arr .u64 25 fun j => ln (prS L i j)) ∧ Row wx p 27 ⟨lP⟩ ∧ p < t))
  case atStart => exact ⟨0, Nat.zero_le _, rfl, rfl, H9⟩
  case round =>
    clear H9
    obtain ⟨i, hi, hgk, rfl, HQ⟩ := hrel
    have HGK := Lib.hid hgk
    clear hgk
    by_cases hlt : i < 24
    · have hii : (i : Int) < 24 := by omega
      have hsz : (Try.prog.info? 27).map (·.size) = some (arr .u64 25 fun j => ln (prS L i j)).size := by rw [arr_size]; kernel_rfl
      have hsy : (Try.prog.info? 27).map (·.size) = some (arr .u64 25 fun j => ln (prS L (i + 1) j)).size := by rw [arr_size]; kernel_rfl
      have hss : (arr .u64 25 fun j => ln (prS L i j)).size = (arr .u64 25 fun j => ln (prS L (i + 1) j)).size := by rw [arr_size, arr_size]
      have hon := arr_one .u64 25 fun j => ln (prS L (i + 1) j)
      have hro := HRo.out (prS L i) (i : Int)
      have hpr : prdI (prS L i) (i : Int) = prS L (i + 1) := by
        unfold prdI
        rw [if_pos ⟨by omega, hii⟩, Int.toNat_natCast]
        rfl
      rw [hpr] at hro
      unfold fl at hro
      have HRO := Lib.hid hro
      clear hro hpr
      generalize hcN : (arr .u64 25 fun j => ln (prS L (i + 1) j)) = cN at *
      have HCN := Lib.hid hcN
      clear hcN
      generalize (arr .u64 25 fun j => ln (prS L i j)) = cI at *
      have hrt := HQ.out.2.1
      go_wp2_with (first | (refine wpList_load_row rfl 27 _ rfl t rfl _ _ (0, 0) _ hrt Try.underlying27 rfl hsz ?_))
      refine (HRO.out _).mono ?_
      rintro e wa ⟨rfl, hp⟩
      have HQ2 : Hid (Past w wa ∧ Row wa t 27 cI ∧ Row wa p 27 ⟨lP⟩ ∧ p < t) := ⟨HQ.out.1.trans' hp, Row.past HQ.out.2.1 hp, Row.past HQ.out.2.2.1 hp, HQ.out.2.2.2⟩
      clear HQ hp hrt
      have hrt := HQ2.out.2.1
      have HQ3 : Hid (Past w (wa.setRow t cN) ∧ Row (wa.setRow t cN) t 27 cN ∧ Row (wa.setRow t cN) p 27 ⟨lP⟩ ∧ p < t) := by
        obtain ⟨h1, h2, h3, h4⟩ := HQ2.out
        exact ⟨below_setRow h1 hB _, setRow_heap wa t _ _ _ _ h2, (setRow_other wa t p _ (by omega)).trans h3, h4⟩
      go_wp2_with (first | (refine wpList_store_row rfl 27 _ _ rfl t _ rfl rfl _ _ hrt hsy hss hon ?_))
      go_roundg (24 - (i + 1))
      case rel => exact ⟨i + 1, by omega, rfl, by go_num, by rw [HCN.out]; exact HQ3⟩
      case measure => have := HGK.out; omega
    · obtain rfl : i = 24 := by omega
      rw [hlP.out] at HQ
      have hr1 := HQ.out.2.1
      have hr2 := HQ.out.2.2.1
      go_wp2_with (first | (refine wpList_load_row rfl 27 _ rfl t rfl _ _ (0, 0) _ hr1 Try.underlying27 rfl hip ?_) | (refine wpList_load_row rfl 27 _ rfl p rfl _ _ (0, 0) _ hr2 Try.underlying27 rfl hip ?_))
      go_ret
      exact ⟨rfl, HQ.out.1⟩

theorem walk (H : Prog6) (a b c : Int) (w : World) (ha : (Lit.int .u64 a).wf = true) (hb : (Lit.int .u64 b).wf = true) (hc : (Lit.int .u64 c).wf = true) :
    Calls Try.prog 3 #[.agg #[.int .u64 a, .int .u64 b, .int .u64 c]] w fun e w' => e = .returned (.bool true) ∧ Past w w' := by
  obtain ⟨a, rfl⟩ := lane_of ha
  obtain ⟨b, rfl⟩ := lane_of hb
  obtain ⟨c, rfl⟩ := lane_of hc
  exact walk' H a b c w

set_option maxRecDepth 100000 in
theorem lifted (H6 : Prog6) (os : Os) (started : os.Started) (H : Type) (enc : TypeId × Value → H) :
    ReturnsInHanded {} Try.checked os 3 .any (Rows.keccakMatchesReferenceSpec.pre6 enc Try.prog Try.f3 Rows.keccakMatchesReferenceRow.domain false) (Rows.keccakMatchesReferenceSpec.post enc Try.prog Try.f3 false true false false) := by
  refine returnsInHanded_of_change (C := Try.checked) own started (by kernel_rfl) Try.func3
    (ChangeSpec.witness6 (enc := enc) (C := Try.checked) false ⟨#[], #[.agg #[.int .u64 0, .int .u64 0, .int .u64 0]], []⟩ 8 (by kernel_rfl) (by kernel_rfl) (by kernel_rfl) (by kernel_rfl)) ?_
  intro W base args ds gs before hval0 hW hcnd _
  have hval : ∀ (j : Nat) t v, Try.f3.params[j]? = some t → args[j]? = some v → Value.okWide Try.prog W .any base t v := hval0
  have hW' := hW
  obtain ⟨p, q, hA0, hV, rfl, hfz, hnd⟩ := hW
  have hA : DataW.TrodAll enc Try.prog W 0 (fun _ => true) true Try.f3.params.toList args.toList ds p := hA0
  rw [Try.params3] at hA hval
  obtain ⟨v0, vs0, d0, ds0, p0, q0, hargs, rfl, rfl, h0, r0⟩ := trodAll_cons hA
  obtain ⟨rfl, rfl, rfl⟩ := trodAll_nil r0
  obtain rfl : args = #[v0] := by cases args; simp_all
  obtain ⟨rfl, rfl⟩ := trodVars_none hV
  obtain ⟨a0, b0, c0, rfl, rfl, rfl, wa0, wb0, wc0⟩ := open3 (hval 0 23 v0 rfl rfl) h0
  clear hA0 hval0
  refine (walk H6 a0 b0 c0 W wa0 wb0 wc0).mono fun e W' ⟨he, bel⟩ => ?_
  subst he
  exact ⟨_, rfl, _, _, _, [], _, [], hW', trodAll_mk1 (shut_bool Try.underlying4 _), (trodAll_cons_mk (shut3 wa0 wb0 wc0) trodAll_mk0), rfl, bel.frame _, fun h => by cases h⟩

theorem over (H6 : Prog6) : Rows.keccakMatchesReferenceRow.holds Try.pinned (OpenSpec.ofChange Rows.keccakMatchesReferenceSpec) :=
  OpenClaim.holds_of_wide 3 Try.f3 rfl rfl rfl rfl rfl rfl rfl ⟨rfl, rfl, rfl, rfl, rfl⟩ rfl rfl rfl rfl rfl (by kernel_rfl) Try.func3 (by kernel_rfl)
    (of_decide_eq_true (by kernel_rfl)) (by unfold Func.isWrapper; first | (rw [if_pos (by decide +kernel)]; kernel_rfl) | (rw [if_neg (by decide +kernel)]; exact ⟨rfl, rfl⟩))
    (fun os started H enc _ => lifted H6 os started H enc)

theorem proved : Rows.KeccakMatchesReferenceSaid := over prog6

end Go.Proofs.Ytdnpmkhincdghaa.keccakMatches
