/- For every seed and every bit the law KeccakApart of package pyxlaw06 returns true; there is no further condition. -/
import Derived.Test.YtdnpmkhincdghaaAwake
import Derived.Test.YtdnpmkhincdghaaImp6F
import Derived.Deep.RegionHeld3
import Derived.Deep.MidRow
import Derived.IntWalk
namespace Go.Proofs.Ytdnpmkhincdghaa.keccakApart
open Go.ChangeShapes Go.WideShapes Go.ChangeAt Go.RowKit
set_option linter.unusedVariables false

def bitL (m : Nat) : Lane := BitVec.twoPow 64 m
theorem bitL_ln (m : Nat) (h : m < 64) : ln (bitL m) = 2 ^ m := by
  unfold ln bitL
  rw [BitVec.toNat_twoPow, Nat.mod_eq_of_lt (Nat.pow_lt_pow_right (by decide) h)]
  exact Int.natCast_pow 2 m
theorem bitL_wrap (m : Nat) (h : m < 64) : IntKind.u64.wrap (2 ^ m) = ln (bitL m) := by
  rw [← bitL_ln m h, IntKind.wrap_u64]
  have := ln_rng (bitL m)
  omega
theorem bitL_ne (x : Lane) (m : Nat) (h : m < 64) : x ≠ x ^^^ bitL m := fun e => by
  have h1 : x.getLsbD m = (x ^^^ bitL m).getLsbD m := by rw [← e]
  rw [BitVec.getLsbD_xor] at h1
  have h2 : (bitL m).getLsbD m = true := by simp [bitL, h]
  rw [h2] at h1
  cases hx : x.getLsbD m <;> rw [hx] at h1 <;> cases h1
/-- A state with one bit turned. -/
def flip (L : Nat → Lane) (q m : Nat) : Nat → Lane := fun i => if i = q then L q ^^^ bitL m else L i
theorem flip_upd (L : Nat → Lane) (q m i : Nat) : upd (fun i => ln (L i)) q (ln (L q ^^^ bitL m)) i = ln (flip L q m i) := by
  unfold upd flip
  split <;> rfl
theorem flip_apart (L : Nat → Lane) (q m : Nat) (hq : q < 25) (hm : m < 64) : eqB 25 (fun i => ln (ppm L i)) (fun i => ln (ppm (flip L q m) i)) = false := by
  by_cases h : ∀ i, i < 25 → ln (ppm L i) = ln (ppm (flip L q m) i)
  · exfalso
    have h1 : ∀ i, i < 25 → kperm (tr L) i = kperm (tr (flip L q m)) i := tr_inj fun i hi => ln_inj (h i hi)
    have h2 := tr_inj (kperm_inj h1) q hq
    rw [show flip L q m q = L q ^^^ bitL m from if_pos rfl] at h2
    exact bitL_ne (L q) m hm h2
  · obtain ⟨i, hi⟩ := Classical.not_forall.1 h
    obtain ⟨hi, hne⟩ := Classical.not_imp.1 hi
    exact eqB_false hi hne

set_option maxHeartbeats 4000000 in
theorem walk' (H : Prog6) (a b c : Lane) (bit : Int) (w : World) (hb0 : 0 ≤ bit) (hb1 : bit ≤ 65535) :
    Calls Try.prog 7 #[.agg #[.int .u64 (ln a), .int .u64 (ln b), .int .u64 (ln c)], .int .u16 bit] w fun e w' => e = .returned (.bool true) ∧ Past w w' := by
  have HA := Lib.hid (awake_any H)
  have HS := Lib.hid (spread_any a b c)
  obtain ⟨k, hk⟩ : ∃ k : Nat, bit % 1600 = (k : Int) := ⟨(bit % 1600).toNat, by omega⟩
  obtain ⟨q, hq⟩ : ∃ q, k / 64 = q := ⟨_, rfl⟩
  obtain ⟨m, hm⟩ : ∃ m, k % 64 = m := ⟨_, rfl⟩
  have hqi : (k : Int) / 64 = (q : Int) := by omega
  have hmi : (k : Int) % 64 = (m : Int) := by omega
  have hq25 : q < 25 := by omega
  have hm64 : m < 64 := by omega
  have hq25i : (q : Int) < 25 := by omega
  have hq0i : 0 ≤ (q : Int) := by omega
  have hbw := bitL_wrap m hm64
  clear hq hm
  go_enter Try.func7, Try.ntmps7
  go_wp2_with fail
  refine (HA.out _).mono ?_
  rintro e w1 ⟨rfl, hp⟩
  have H1 : Hid (Past w w1 ∧ Row w1 w.heap.size 23 #[.int .u64 (ln a), .int .u64 (ln b), .int .u64 (ln c)]) := ⟨(past_alloc6 _ _).trans' hp, (Row.new w _ _).past hp⟩
  clear hp
  have k0 := H1.out.2.cell 0
  have k1 := H1.out.2.cell 1
  have k2 := H1.out.2.cell 2
  simp at k0 k1 k2
  go_wp2_with fail
  refine (HS.out _).mono ?_
  rintro e w2 ⟨L, rfl, hp⟩
  have H2 := Lib.hid (H1.out.1.trans' hp)
  have HPL := H.perm L
  have HPT := H.perm (flip L q m)
  unfold fl at HPL HPT
  have HPl := Lib.hid HPL
  have HPt := Lib.hid HPT
  have hx : bits .xor .u64 (ln (L q)) (ln (bitL m)) = ln (L q ^^^ bitL m) := xor_ln _ _
  have hT : Hid ((arr .u64 25 fun i => ln (L i)).setIfInBounds q (.int .u64 (ln (L q ^^^ bitL m))) = arr .u64 25 fun i => ln (flip L q m i)) := by
    show _ = _
    rw [arr_set .u64 25 _ q _ hq25]
    exact arr_ext fun i _ => flip_upd L q m i
  have hcq : Hid ((arr .u64 25 fun i => ln (L i))[q]? = some (.int .u64 (ln (L q)))) := arr_get .u64 25 _ q hq25
  clear H1 hp k0 k1 k2 HPL HPT
  have hiL : (Try.prog.info? 27).map (·.size) = some (arr .u64 25 fun i => ln (L i)).size := by rw [arr_size]; kernel_rfl
  have hsL : (arr .u64 25 fun _ => 0).size = (arr .u64 25 fun i => ln (L i)).size := by rw [arr_size, arr_size]
  have hoL := arr_one .u64 25 fun i => ln (L i)
  have hiT : (Try.prog.info? 27).map (·.size) = some (arr .u64 25 fun i => ln (flip L q m i)).size := by rw [arr_size]; kernel_rfl
  have hiP : (Try.prog.info? 27).map (·.size) = some (arr .u64 25 fun i => ln (ppm L i)).size := by rw [arr_size]; kernel_rfl
  have hsP : (arr .u64 25 fun _ => 0).size = (arr .u64 25 fun i => ln (ppm L i)).size := by rw [arr_size, arr_size]
  have hoP := arr_one .u64 25 fun i => ln (ppm L i)
  have hiQ : (Try.prog.info? 27).map (·.size) = some (arr .u64 25 fun i => ln (ppm (flip L q m) i)).size := by rw [arr_size]; kernel_rfl
  have hsQ : (arr .u64 25 fun _ => 0).size = (arr .u64 25 fun i => ln (ppm (flip L q m) i)).size := by rw [arr_size, arr_size]
  have hoQ := arr_one .u64 25 fun i => ln (ppm (flip L q m) i)
  obtain ⟨i64, hi64, _, hz64, _⟩ := info_parts (show (Try.prog.info? 22).map (fun i => (i.zero, i.size, i.bytes)) = some (some (.int .u64 0), 1, 8) by kernel_rfl)
  have hqP := fun w => run_eq_arr (P := Try.prog) w (k := .u64) (n := 25) (f := fun i => ln (ppm L i)) (g := fun i => ln (ppm L i)) (t := 27) Try.underlying27 Try.underlying22 hi64 hz64
  have hqQ := fun w => run_eq_arr (P := Try.prog) w (k := .u64) (n := 25) (f := fun i => ln (ppm L i)) (g := fun i => ln (ppm (flip L q m) i)) (t := 27) Try.underlying27 Try.underlying22 hi64 hz64
  rw [eqB_true fun _ _ => rfl] at hqP
  rw [flip_apart L q m hq25 hm64] at hqQ
  have heT : Try.prog.eqGuardType Try.prog.depth 27 = false := by kernel_rfl
  clear hi64 hz64
  generalize (arr .u64 25 fun i => ln (ppm L i)) = cP at *
  generalize (arr .u64 25 fun i => ln (ppm (flip L q m) i)) = cQ at *
  generalize (arr .u64 25 fun i => ln (flip L q m i)) = cT at *
  generalize (arr .u64 25 fun i => ln (L i)) = cL at *
  generalize L q ^^^ bitL m = X at *
  generalize ln (L q) = Y at *
  -- the state
  have hn1 := heap_alloc_new w2 (.cells (arr .u64 25 fun _ => 0) 27)
  obtain ⟨w3, hw3⟩ : ∃ w3, w3 = w2.alloc (.cells cL 27) := ⟨_, rfl⟩
  have H3 : Hid (Past w w3 ∧ Row w3 w2.heap.size 27 cL) := by
    rw [hw3]
    exact ⟨H2.out.trans' (past_alloc6 _ _), Row.new _ _ _⟩
  have hr3 := H3.out.2
  have HW3 := Lib.hid hw3
  have hw2 : Hid (w.heap.size ≤ w2.heap.size) := H2.out.size
  clear hw3 H2
  -- its copy
  have hn2 := heap_alloc_new w3 (.cells (arr .u64 25 fun _ => 0) 27)
  obtain ⟨w4, hw4⟩ : ∃ w4, w4 = w3.alloc (.cells cL 27) := ⟨_, rfl⟩
  have H4 : Hid (Past w w4 ∧ Row w4 w2.heap.size 27 cL ∧ Row w4 w3.heap.size 27 cL ∧ w2.heap.size < w3.heap.size) := by
    rw [hw4]
    exact ⟨H3.out.1.trans' (past_alloc6 _ _), H3.out.2.alloc _, Row.new _ _ _, H3.out.2.lt⟩
  have HW4 := Lib.hid hw4
  clear hw4
  have kq : w4.cell? ⟨w3.heap.size, q, none⟩ = some (.int .u64 Y) := by rw [Row.cell H4.out.2.2.1, hcq.out]
  have kf : w4.frozen? ⟨w3.heap.size, q, none⟩ = false := Row.fr H4.out.2.2.1 q
  have H5 : Hid (Past w (w4.setCell ⟨w3.heap.size, q, none⟩ (.int .u64 (ln X))) ∧ Row (w4.setCell ⟨w3.heap.size, q, none⟩ (.int .u64 (ln X))) w2.heap.size 27 cL ∧ Row (w4.setCell ⟨w3.heap.size, q, none⟩ (.int .u64 (ln X))) w3.heap.size 27 cT) := by
    obtain ⟨h1, h2, h3, h4⟩ := H4.out
    refine ⟨Past.set h1 (by have := hw2.out; exact Nat.le_trans this (Nat.le_of_lt h4)) _, Row.setOther h2 (by omega) _ _, ?_⟩
    have := Row.set h3 q (.int .u64 (ln X))
    rwa [hT.out] at this
  have hr5 := H5.out.2.1
  go_wp2_with (first
    | (refine wpList_store_row rfl 27 _ _ rfl w2.heap.size _ rfl rfl _ _ hn1 hiL hsL hoL ?_; rw [World.setRow_alloc_new, ← HW3.out])
    | (refine wpList_load_row rfl 27 _ rfl w2.heap.size rfl _ _ (0, 0) _ hr3 Try.underlying27 rfl hiL ?_)
    | (refine wpList_store_row rfl 27 _ _ rfl w3.heap.size _ rfl rfl _ _ hn2 hiL hsL hoL ?_; rw [World.setRow_alloc_new, ← HW4.out])
    | (refine wpList_load_row rfl 27 _ rfl w2.heap.size rfl _ _ (0, 0) _ hr5 Try.underlying27 rfl hiL ?_))
  generalize hw5 : w4.setCell ⟨w3.heap.size, q, none⟩ (.int .u64 (ln X)) = w5 at *
  have h23 : Hid (w2.heap.size < w3.heap.size) := H4.out.2.2.2
  clear hw5 H3 H4 HW3 HW4 kq kf hr3 hn1 hn2 hx hbw hT hcq hqi hmi hsL hoL
  generalize w2.heap.size = s at *
  generalize w3.heap.size = t at *
  refine (HPl.out _).mono ?_
  rintro e w6 ⟨rfl, hp⟩
  have H6 : Hid (Past w w6 ∧ Row w6 s 27 cL ∧ Row w6 t 27 cT) := ⟨H5.out.1.trans' hp, H5.out.2.1.past hp, H5.out.2.2.past hp⟩
  clear H5 hr5 hp
  have hn1 := heap_alloc_new w6 (.cells (arr .u64 25 fun _ => 0) 27)
  obtain ⟨w7, hw7⟩ : ∃ w7, w7 = w6.alloc (.cells cP 27) := ⟨_, rfl⟩
  have H7 : Hid (Past w w7 ∧ Row w7 s 27 cL ∧ Row w7 t 27 cT ∧ Row w7 w6.heap.size 27 cP) := by
    rw [hw7]
    exact ⟨H6.out.1.trans' (past_alloc6 _ _), H6.out.2.1.alloc _, H6.out.2.2.alloc _, Row.new _ _ _⟩
  have HW7 := Lib.hid hw7
  have hr7 := H7.out.2.2.1
  clear hw7 H6
  go_wp2_with (first
    | (refine wpList_store_row rfl 27 _ _ rfl w6.heap.size _ rfl rfl _ _ hn1 hiP hsP hoP ?_; rw [World.setRow_alloc_new, ← HW7.out])
    | (refine wpList_load_row rfl 27 _ rfl t rfl _ _ (0, 0) _ hr7 Try.underlying27 rfl hiT ?_))
  clear hr7 hn1 HW7
  generalize w6.heap.size = u at *
  refine (HPt.out _).mono ?_
  rintro e w8 ⟨rfl, hp⟩
  have H8 : Hid (Past w w8 ∧ Row w8 s 27 cL ∧ Row w8 u 27 cP) := ⟨H7.out.1.trans' hp, H7.out.2.1.past hp, H7.out.2.2.2.past hp⟩
  clear H7 hp
  have hn1 := heap_alloc_new w8 (.cells (arr .u64 25 fun _ => 0) 27)
  obtain ⟨w9, hw9⟩ : ∃ w9, w9 = w8.alloc (.cells cQ 27) := ⟨_, rfl⟩
  have H9 : Hid (Past w w9 ∧ Row w9 s 27 cL ∧ Row w9 u 27 cP ∧ Row w9 w8.heap.size 27 cQ) := by
    rw [hw9]
    exact ⟨H8.out.1.trans' (past_alloc6 _ _), H8.out.2.1.alloc _, H8.out.2.2.alloc _, Row.new _ _ _⟩
  have HW9 := Lib.hid hw9
  clear hw9 H8
  go_wp2_with (first
    | (refine wpList_store_row rfl 27 _ _ rfl w8.heap.size _ rfl rfl _ _ hn1 hiQ hsQ hoQ ?_; rw [World.setRow_alloc_new, ← HW9.out]))
  obtain ⟨lP⟩ := cP
  obtain ⟨lQ⟩ := cQ
  obtain ⟨lL⟩ := cL
  have hu27 := Try.underlying27
  have hil : (Try.prog.info? 27).map (·.size) = some lL.length := hiL
  have hip : (Try.prog.info? 27).map (·.size) = some lP.length := hiP
  have hiq : (Try.prog.info? 27).map (·.size) = some lQ.length := hiQ
  have hs6 : w9.drew.rangeAt s 0 lL := H9.out.2.1.range
  have hp6 : w9.drew.rangeAt u 0 lP := H9.out.2.2.1.range
  have hq6 : w9.drew.rangeAt w8.heap.size 0 lQ := H9.out.2.2.2.range
  have HP6 := Lib.hid (H9.out.1.drewN 1)
  clear HW9 hn1
  generalize w8.heap.size = v at *
  have HX : Hid (∀ wx, Past w9.drew wx → wx.rangeAt s 0 lL ∧ wx.rangeAt u 0 lP ∧ wx.rangeAt v 0 lQ) := fun wx hp => ⟨range_past hs6 hp, range_past hp6 hp, range_past hq6 hp⟩
  refine wp_region_held_drew (S := fun w' => w'.rangeAt s 0 lL ∧ w'.rangeAt u 0 lP ∧ w'.rangeAt v 0 lQ) (by kernel_rfl) ⟨hs6, hp6, hq6⟩ (fun hH => ?_)
  refine wpAnyH_take (i := 0) rfl (by kernel_rfl) (by kernel_rfl) (by kernel_rfl) (fun _ _ _ h => h) (yieldsIf_load_mid rfl 27 (.tmp 8) rfl u 0 rfl lP _ (fun _ h => h.2.1) hu27 rfl hip) hH ?_
  refine wpAnyH_take (i := 1) rfl (by kernel_rfl) (by kernel_rfl) (by kernel_rfl) (fun _ _ _ h => h) (yieldsIf_load_mid rfl 27 (.tmp 9) rfl v 0 rfl lQ _ (fun _ h => h.2.2) hu27 rfl hiq) hH ?_
  refine wpAnyH_take (i := 2) (v := .bool true) rfl (by kernel_rfl) (by kernel_rfl) (by kernel_rfl) (fun _ _ _ h => h) (Or.inl ⟨by rfl, fun w _ => by go_simp⟩) hH ?_
  refine wpAnyH_take (i := 3) (v := .bool true) rfl (by kernel_rfl) (by kernel_rfl) (by kernel_rfl) (fun _ _ _ h => h) (Or.inl ⟨by rfl, fun w _ => by go_simp⟩) hH ?_
  refine wpAnyH_take (i := 4) rfl (by kernel_rfl) (by kernel_rfl) (by kernel_rfl) (fun _ _ _ h => h) (yieldsIf_load_mid rfl 27 (.tmp 5) rfl s 0 rfl lL _ (fun _ h => h.1) hu27 rfl hil) hH ?_
  refine wpAnyH_take (i := 6) rfl (by kernel_rfl) (by kernel_rfl) (by kernel_rfl) (fun _ _ _ h => h) (yieldsIf_load_mid rfl 27 (.tmp 8) rfl u 0 rfl lP _ (fun _ h => h.2.1) hu27 rfl hip) hH ?_
  refine wpAnyH_ready (rs := [5]) (by kernel_rfl) (by simp) ?_
  refine AllReadyH.cons rfl (fun K hK => ?_) AllReadyH.nil
  go_simp
  refine (HPl.out _).mono ?_
  rintro e wa ⟨rfl, hp⟩
  have HQ := Lib.hid hp
  refine hK.out _ _ (HX.out _ HQ.out) (fun hH => ?_)
  clear hp hK K
  refine wpAnyH_take (i := 7) (v := .bool true) rfl (by kernel_rfl) (by kernel_rfl) (by kernel_rfl) (fun _ _ _ h => h) (Or.inl ⟨by rfl, fun w _ => by go_simp⟩) hH ?_
  refine wpAnyH_take (i := 8) (v := .bool true) rfl (by kernel_rfl) (by kernel_rfl) (by kernel_rfl) (fun _ _ _ h => h) (Or.inl ⟨by rfl, fun w _ => by go_simp⟩) hH ?_
  refine wpAnyH_take (i := 9) (v := .bool true) rfl (by kernel_rfl) (by kernel_rfl) (by kernel_rfl) (fun _ _ _ h => h) (Or.inl ⟨by rfl, fun w _ => by go_simp⟩) hH ?_
  refine wpAnyH_done (by kernel_rfl) ?_ _
  go_wp2_with fail
  go_ret
  exact ⟨rfl, HP6.out.trans' HQ.out⟩

theorem walk (H : Prog6) (a b c : Int) (bit : Int) (w : World) (ha : (Lit.int .u64 a).wf = true) (hb : (Lit.int .u64 b).wf = true) (hc : (Lit.int .u64 c).wf = true) (hbit : (Lit.int .u16 bit).wf = true) :
    Calls Try.prog 7 #[.agg #[.int .u64 a, .int .u64 b, .int .u64 c], .int .u16 bit] w fun e w' => e = .returned (.bool true) ∧ Past w w' := by
  obtain ⟨a, rfl⟩ := lane_of ha
  obtain ⟨b, rfl⟩ := lane_of hb
  obtain ⟨c, rfl⟩ := lane_of hc
  exact walk' H a b c bit w (bounds_u16 hbit).1 (bounds_u16 hbit).2

set_option maxRecDepth 100000 in
theorem lifted (H6 : Prog6) (os : Os) (started : os.Started) (H : Type) (enc : TypeId × Value → H) :
    ReturnsInHanded {} Try.checked os 7 .any (Rows.keccakApartSpec.pre6 enc Try.prog Try.f7 Rows.keccakApartRow.domain false) (Rows.keccakApartSpec.post enc Try.prog Try.f7 false true false false) := by
  refine returnsInHanded_of_change (C := Try.checked) own started (by kernel_rfl) Try.func7
    (ChangeSpec.witness6 (enc := enc) (C := Try.checked) false ⟨#[], #[.agg #[.int .u64 0, .int .u64 0, .int .u64 0], .int .u16 0], []⟩ 8 (by kernel_rfl) (by kernel_rfl) (by kernel_rfl) (by kernel_rfl)) ?_
  intro W base args ds gs before hval0 hW hcnd _
  have hval : ∀ (j : Nat) t v, Try.f7.params[j]? = some t → args[j]? = some v → Value.okWide Try.prog W .any base t v := hval0
  have hW' := hW
  obtain ⟨p, q, hA0, hV, rfl, hfz, hnd⟩ := hW
  have hA : DataW.TrodAll enc Try.prog W 0 (fun _ => true) true Try.f7.params.toList args.toList ds p := hA0
  rw [Try.params7] at hA hval
  obtain ⟨v0, vs0, d0, ds0, p0, q0, hargs, rfl, rfl, h0, r0⟩ := trodAll_cons hA
  obtain ⟨v1, vs1, d1, ds1, p1, q1, rfl, rfl, rfl, h1, r1⟩ := trodAll_cons r0
  obtain ⟨rfl, rfl, rfl⟩ := trodAll_nil r1
  obtain rfl : args = #[v0, v1] := by cases args; simp_all
  obtain ⟨rfl, rfl⟩ := trodVars_none hV
  obtain ⟨a0, b0, c0, rfl, rfl, rfl, wa0, wb0, wc0⟩ := open3 (hval 0 23 v0 rfl rfl) h0
  obtain ⟨a1, rfl, rfl, rfl, w1⟩ := open_int Try.underlying51 (hval 1 51 v1 rfl rfl) h1
  clear hA0 hval0
  refine (walk H6 a0 b0 c0 a1 W wa0 wb0 wc0 w1).mono fun e W' ⟨he, bel⟩ => ?_
  subst he
  exact ⟨_, rfl, _, _, _, [], _, [], hW', trodAll_mk1 (shut_bool Try.underlying4 _), (trodAll_cons_mk (shut3 wa0 wb0 wc0) (trodAll_cons_mk (shut_int Try.underlying51 w1) trodAll_mk0)), rfl, bel.frame _, fun h => by cases h⟩

theorem over (H6 : Prog6) : Rows.keccakApartRow.holds Try.pinned (OpenSpec.ofChange Rows.keccakApartSpec) :=
  OpenClaim.holds_of_wide 7 Try.f7 rfl rfl rfl rfl rfl rfl rfl ⟨rfl, rfl, rfl, rfl, rfl⟩ rfl rfl rfl rfl rfl (by kernel_rfl) Try.func7 (by kernel_rfl)
    (of_decide_eq_true (by kernel_rfl)) (by unfold Func.isWrapper; first | (rw [if_pos (by decide +kernel)]; kernel_rfl) | (rw [if_neg (by decide +kernel)]; exact ⟨rfl, rfl⟩))
    (fun os started H enc _ => lifted H6 os started H enc)

theorem proved : Rows.KeccakApartSaid := over prog6

end Go.Proofs.Ytdnpmkhincdghaa.keccakApart
