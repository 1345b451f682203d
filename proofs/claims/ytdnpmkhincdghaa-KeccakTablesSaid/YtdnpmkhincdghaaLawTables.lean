/- For every number the law KeccakTables of package pyxlaw06 returns true; there is no further condition. -/
import Derived.Test.YtdnpmkhincdghaaAwake
import Derived.Test.YtdnpmkhincdghaaImp6F
import Derived.Deep.RegionHeld3
import Derived.Deep.MidRow
import Derived.IntWalk
namespace Go.Proofs.Ytdnpmkhincdghaa.keccakTables
open Go.ChangeShapes Go.WideShapes Go.ChangeAt Go.RowKit
set_option linter.unusedVariables false

theorem cell_past {w w' : World} {p : Addr} {v : Value} (h : w.cell? p = some v) (hp : Past w w') : w'.cell? p = some v := by
  rw [Below.cell hp (cell_lt h)]
  exact h

set_option maxHeartbeats 4000000 in
theorem walk (H : Prog6) (i : Int) (w : World) (wi : (Lit.int .u8 i).wf = true) :
    Calls Try.prog 5 #[.int .u8 i] w fun e w' => e = .returned (.bool true) ∧ Past w w' := by
  have hi := bounds_u8 wi
  have HA := Lib.hid (awake_any H)
  have HC := Lib.hid H.consts
  have HO := Lib.hid H.offs
  have HCr := Lib.hid constants_any
  have HOr := Lib.hid offsets_any
  obtain ⟨k, hk⟩ : ∃ k : Nat, i % 25 = (k : Int) := ⟨(i % 25).toNat, by omega⟩
  have hk25 : k < 25 := by omega
  obtain ⟨x, hx⟩ : ∃ x, k % 5 = x := ⟨_, rfl⟩
  obtain ⟨y, hy⟩ : ∃ y, k / 5 = y := ⟨_, rfl⟩
  obtain ⟨z, hz⟩ : ∃ z, k % 24 = z := ⟨_, rfl⟩
  have hxi : (k : Int) % 5 = (x : Int) := by omega
  have hyi : (k : Int) / 5 = (y : Int) := by omega
  have hzi : (k : Int) % 24 = (z : Int) := by omega
  have hx5 : x < 5 := by omega
  have hy5 : y < 5 := by omega
  have hz24 : z < 24 := by omega
  have b1 : (x : Int) < 5 := by omega
  have b2 : (y : Int) < 5 := by omega
  have b3 : (z : Int) < 24 := by omega
  have b4 : (k : Int) < 25 := by omega
  have b5 : (0 : Int) ≤ (x : Int) := by omega
  have b6 : (0 : Int) ≤ (y : Int) := by omega
  have b7 : (0 : Int) ≤ (z : Int) := by omega
  have b8 : (0 : Int) ≤ (k : Int) := by omega
  have hxt : (k : Int).tmod 5 = (x : Int) := by rw [Int.tmod_eq_emod_of_nonneg b8]; exact hxi
  have hyw : IntKind.i64.wrap (y : Int) = (y : Int) := IntWalk.i64_in _ (by omega)
  have hcz : Hid ((arr .u64 24 rcF)[z]? = some (.int .u64 (rcF z))) := arr_get .u64 24 rcF z hz24
  have hok : Hid ((arr .i64 25 poff)[k]? = some (.int .i64 (offF (x * 5 + y)))) := by
    show _ = _
    rw [arr_get .i64 25 poff k hk25, ← hx, ← hy]
    rfl
  have hrk : Hid ((arr .i64 25 offF)[x * 5 + y]? = some (.int .i64 (offF (x * 5 + y)))) := arr_get .i64 25 offF (x * 5 + y) (by omega)
  have hV : ∀ j, j < 25 → 0 ≤ offF j ∧ offF j < 64 := fun j hj => by
    have := offN_lt ⟨j, hj⟩
    simp only at this
    show 0 ≤ ((offN j : Nat) : Int) ∧ ((offN j : Nat) : Int) < 64
    omega
  have hV := hV (x * 5 + y) (by omega)
  clear hx hy hz
  obtain ⟨i64, hi64, _, hz64, _⟩ := info_parts (show (Try.prog.info? 22).map (fun i => (i.zero, i.size, i.bytes)) = some (some (.int .u64 0), 1, 8) by kernel_rfl)
  obtain ⟨ii, hii, _, hzii, _⟩ := info_parts (show (Try.prog.info? 3).map (fun i => (i.zero, i.size, i.bytes)) = some (some (.int .i64 0), 1, 8) by kernel_rfl)
  have heC : Try.prog.eqGuardType Try.prog.depth 38 = false := by kernel_rfl
  have hqC := fun w => run_eq_arr (P := Try.prog) w (k := .u64) (n := 24) (f := rcF) (g := rcF) (t := 38) Try.underlying38 Try.underlying22 hi64 hz64
  rw [eqB_true fun _ _ => rfl] at hqC
  have hix := fun w => run_index_cells w (t := 44) Try.underlying44 Try.underlying3 hii hzii (k : Int) b8 b4 (show (arr .i64 25 poff)[((k : Int)).toNat]? = _ by rw [Int.toNat_natCast]; exact hok.out)
  have hiC : (Try.prog.info? 38).map (·.size) = some (arr .u64 24 rcF).size := by rw [arr_size]; kernel_rfl
  have hsC : (arr .u64 24 fun _ => 0).size = (arr .u64 24 rcF).size := by rw [arr_size, arr_size]
  have hoC := arr_one .u64 24 rcF
  have hiO : (Try.prog.info? 44).map (·.size) = some (arr .i64 25 poff).size := by rw [arr_size]; kernel_rfl
  have hsO : (arr .i64 25 fun _ => 0).size = (arr .i64 25 poff).size := by rw [arr_size, arr_size]
  have hoO := arr_one .i64 25 poff
  have hiR : (Try.prog.info? 41).map (·.size) = some (arr .i64 25 offF).size := by rw [arr_size]; kernel_rfl
  have hsR : (arr .i64 25 fun _ => 0).size = (arr .i64 25 offF).size := by rw [arr_size, arr_size]
  have hoR := arr_one .i64 25 offF
  clear hi64 hz64 hii hzii
  generalize arr .u64 24 rcF = crc at *
  generalize arr .i64 25 poff = cpo at *
  generalize arr .i64 25 offF = cof at *
  generalize offF (x * 5 + y) = V at *
  generalize rcF z = Z at *
  go_enter Try.func5, Try.ntmps5
  go_wp2_with fail
  refine (HA.out _).mono ?_
  rintro e w1 ⟨rfl, hp⟩
  have H1 := Lib.hid hp
  clear hp
  go_wp2_with fail
  refine (HC.out _).mono ?_
  rintro e w2 ⟨rfl, hp⟩
  have H2 := Lib.hid (H1.out.trans' hp)
  clear hp H1
  have hn1 := heap_alloc_new w2 (.cells (arr .u64 24 fun _ => 0) 38)
  obtain ⟨w3, hw3⟩ : ∃ w3, w3 = w2.alloc (.cells crc 38) := ⟨_, rfl⟩
  have H3 : Hid (Past w w3 ∧ Row w3 w2.heap.size 38 crc ∧ w.heap.size ≤ w2.heap.size) := by
    rw [hw3]
    exact ⟨H2.out.trans' (past_alloc6 _ _), Row.new _ _ _, H2.out.size⟩
  have HW3 := Lib.hid hw3
  clear hw3 H2
  go_wp2_with (first | (refine wpList_store_row rfl 38 _ _ rfl w2.heap.size _ rfl rfl _ _ hn1 hiC hsC hoC ?_; rw [World.setRow_alloc_new, ← HW3.out]))
  generalize w2.heap.size = c at *
  refine (HO.out _).mono ?_
  rintro e w4 ⟨rfl, hp⟩
  have H4 : Hid (Past w w4 ∧ Row w4 c 38 crc ∧ w.heap.size ≤ c) := ⟨H3.out.1.trans' hp, H3.out.2.1.past hp, H3.out.2.2⟩
  clear H3 hp HW3 hn1
  have hn1 := heap_alloc_new w4 (.cells (arr .i64 25 fun _ => 0) 44)
  obtain ⟨w5, hw5⟩ : ∃ w5, w5 = w4.alloc (.cells cpo 44) := ⟨_, rfl⟩
  have H5 : Hid (Past w w5 ∧ Row w5 c 38 crc ∧ w.heap.size ≤ c ∧ Row w5 w4.heap.size 44 cpo ∧ c < w4.heap.size) := by
    rw [hw5]
    exact ⟨H4.out.1.trans' (past_alloc6 _ _), H4.out.2.1.alloc _, H4.out.2.2, Row.new _ _ _, H4.out.2.1.lt⟩
  have HW5 := Lib.hid hw5
  clear hw5 H4
  go_wp2_with (first | (refine wpList_store_row rfl 44 _ _ rfl w4.heap.size _ rfl rfl _ _ hn1 hiO hsO hoO ?_; rw [World.setRow_alloc_new, ← HW5.out]))
  generalize w4.heap.size = o at *
  refine (HOr.out _).mono ?_
  rintro e w6 ⟨rfl, hp⟩
  have H6 : Hid (Past w w6 ∧ Row w6 c 38 crc ∧ w.heap.size ≤ c ∧ Row w6 o 44 cpo ∧ c < o) := ⟨H5.out.1.trans' hp, H5.out.2.1.past hp, H5.out.2.2.1, H5.out.2.2.2.1.past hp, H5.out.2.2.2.2⟩
  clear H5 hp HW5 hn1
  have hn1 := heap_alloc_new w6 (.cells (arr .i64 25 fun _ => 0) 41)
  obtain ⟨w7, hw7⟩ : ∃ w7, w7 = w6.alloc (.cells cof 41) := ⟨_, rfl⟩
  have H7 : Hid (Past w w7 ∧ Row w7 c 38 crc ∧ w.heap.size ≤ c ∧ Row w7 o 44 cpo ∧ c < o ∧ Row w7 w6.heap.size 41 cof ∧ o < w6.heap.size) := by
    rw [hw7]
    exact ⟨H6.out.1.trans' (past_alloc6 _ _), H6.out.2.1.alloc _, H6.out.2.2.1, H6.out.2.2.2.1.alloc _, H6.out.2.2.2.2, Row.new _ _ _, H6.out.2.2.2.1.lt⟩
  have HW7 := Lib.hid hw7
  clear hw7 H6
  go_wp2_with (first | (refine wpList_store_row rfl 41 _ _ rfl w6.heap.size _ rfl rfl _ _ hn1 hiR hsR hoR ?_; rw [World.setRow_alloc_new, ← HW7.out]))
  clear hn1 HW7 hsC hoC hsO hoO hsR hoR
  generalize w6.heap.size = r at *
  obtain ⟨lC⟩ := crc
  have hu24 := Try.underlying38
  have hic : (Try.prog.info? 38).map (·.size) = some lC.length := hiC
  have c1 : w7.drew.rangeAt c 0 lC := H7.out.2.1.range
  have c2 : w7.drew.cell? ⟨o, k, none⟩ = some (.int .i64 V) := (Row.cell H7.out.2.2.2.1 k).trans hok.out
  have c3 : w7.drew.cell? ⟨r, x * 5 + y, none⟩ = some (.int .i64 V) := (Row.cell H7.out.2.2.2.2.2.1 _).trans hrk.out
  have HX : Hid (∀ wx, Past w7.drew wx → wx.rangeAt c 0 lC ∧ wx.cell? ⟨o, k, none⟩ = some (.int .i64 V) ∧ wx.cell? ⟨r, x * 5 + y, none⟩ = some (.int .i64 V)) := fun wx hp => ⟨range_past c1 hp, cell_past c2 hp, cell_past c3 hp⟩
  refine wp_region_held_drew (S := fun w' => w'.rangeAt c 0 lC ∧ w'.cell? ⟨o, k, none⟩ = some (.int .i64 V) ∧ w'.cell? ⟨r, x * 5 + y, none⟩ = some (.int .i64 V)) (by kernel_rfl) ⟨c1, c2, c3⟩ (fun hH => ?_)
  refine held_take 0 15 rfl rfl (by kernel_rfl) (by kernel_rfl) (by kernel_rfl) (fun _ _ _ h => h) (yieldsIf_load_mid rfl 38 (.tmp 3) rfl c 0 rfl lC _ (fun _ h => h.1) hu24 rfl hic) hH ?_
  simp only [List.setIfInBounds_toArray, List.set_cons_zero, List.set_cons_succ]
  refine wpAnyH_ready (rs := [1]) (by kernel_rfl) (by simp) ?_
  refine AllReadyH.cons rfl (fun K hK => ?_) AllReadyH.nil
  go_simp
  refine (HCr.out _).mono ?_
  rintro e w8 ⟨rfl, hp⟩
  have HQ := Lib.hid hp
  refine hK.out _ _ (HX.out _ HQ.out) (fun hH => ?_)
  clear hp hK K
  refine held_take 2 17 (v := .bool false) rfl rfl (by kernel_rfl) (by kernel_rfl) (by kernel_rfl) (fun _ _ _ h => h) (Or.inl ⟨by rfl, fun w _ => by go_simp⟩) hH ?_
  simp only [List.setIfInBounds_toArray, List.set_cons_zero, List.set_cons_succ]
  refine held_take 3 18 (v := .bool false) rfl rfl (by kernel_rfl) (by kernel_rfl) (by kernel_rfl) (fun _ _ _ h => h) (Or.inl ⟨by rfl, fun w _ => by go_simp⟩) hH ?_
  simp only [List.setIfInBounds_toArray, List.set_cons_zero, List.set_cons_succ]
  refine held_take 4 19 (v := .int .i64 (k : Int)) rfl rfl (by kernel_rfl) (by kernel_rfl) (by kernel_rfl) (fun _ _ _ h => h) (Or.inl ⟨by rfl, fun w _ => by go_simp⟩) hH ?_
  simp only [List.setIfInBounds_toArray, List.set_cons_zero, List.set_cons_succ]
  refine held_take 5 20 (v := .pointer (some ⟨o, k, none⟩)) rfl rfl (by kernel_rfl) (by kernel_rfl) (by kernel_rfl) (fun _ _ _ h => h) (Or.inl ⟨by rfl, fun w _ => by go_simp⟩) hH ?_
  simp only [List.setIfInBounds_toArray, List.set_cons_zero, List.set_cons_succ]
  refine held_take 6 21 (v := .int .i64 V) rfl rfl (by kernel_rfl) (by kernel_rfl) (by kernel_rfl) (fun _ _ _ h => h) (Or.inl ⟨by rfl, fun w hSw => by
    have hcell := hSw.2.1
    go_simp⟩) hH ?_
  simp only [List.setIfInBounds_toArray, List.set_cons_zero, List.set_cons_succ]
  refine held_take 7 22 (v := .int .i64 (k : Int)) rfl rfl (by kernel_rfl) (by kernel_rfl) (by kernel_rfl) (fun _ _ _ h => h) (Or.inl ⟨by rfl, fun w _ => by go_simp⟩) hH ?_
  simp only [List.setIfInBounds_toArray, List.set_cons_zero, List.set_cons_succ]
  refine held_take 8 23 (v := .int .i64 (x : Int)) rfl rfl (by kernel_rfl) (by kernel_rfl) (by kernel_rfl) (fun _ _ _ h => h) (Or.inl ⟨by rfl, fun w _ => by go_simp⟩) hH ?_
  simp only [List.setIfInBounds_toArray, List.set_cons_zero, List.set_cons_succ]
  refine held_take 9 24 (v := .int .i64 (k : Int)) rfl rfl (by kernel_rfl) (by kernel_rfl) (by kernel_rfl) (fun _ _ _ h => h) (Or.inl ⟨by rfl, fun w _ => by go_simp⟩) hH ?_
  simp only [List.setIfInBounds_toArray, List.set_cons_zero, List.set_cons_succ]
  refine held_take 10 25 (v := .int .i64 (y : Int)) rfl rfl (by kernel_rfl) (by kernel_rfl) (by kernel_rfl) (fun _ _ _ h => h) (Or.inl ⟨by rfl, fun w _ => by go_simp⟩) hH ?_
  simp only [List.setIfInBounds_toArray, List.set_cons_zero, List.set_cons_succ]
  refine held_take 11 26 (v := .pointer (some ⟨r, x * 5, none⟩)) rfl rfl (by kernel_rfl) (by kernel_rfl) (by kernel_rfl) (fun _ _ _ h => h) (Or.inl ⟨by rfl, fun w _ => by go_simp⟩) hH ?_
  simp only [List.setIfInBounds_toArray, List.set_cons_zero, List.set_cons_succ]
  refine held_take 12 27 (v := .pointer (some ⟨r, x * 5 + y, none⟩)) rfl rfl (by kernel_rfl) (by kernel_rfl) (by kernel_rfl) (fun _ _ _ h => h) (Or.inl ⟨by rfl, fun w _ => by go_simp⟩) hH ?_
  simp only [List.setIfInBounds_toArray, List.set_cons_zero, List.set_cons_succ]
  refine held_take 13 28 (v := .int .i64 V) rfl rfl (by kernel_rfl) (by kernel_rfl) (by kernel_rfl) (fun _ _ _ h => h) (Or.inl ⟨by rfl, fun w hSw => by
    have hcell := hSw.2.2
    go_simp⟩) hH ?_
  simp only [List.setIfInBounds_toArray, List.set_cons_zero, List.set_cons_succ]
  refine held_take 14 29 (v := .bool false) rfl rfl (by kernel_rfl) (by kernel_rfl) (by kernel_rfl) (fun _ _ _ h => h) (Or.inl ⟨by rfl, fun w _ => by go_simp⟩) hH ?_
  simp only [List.setIfInBounds_toArray, List.set_cons_zero, List.set_cons_succ]
  refine held_take 15 30 (v := .bool false) rfl rfl (by kernel_rfl) (by kernel_rfl) (by kernel_rfl) (fun _ _ _ h => h) (Or.inl ⟨by rfl, fun w _ => by go_simp⟩) hH ?_
  simp only [List.setIfInBounds_toArray, List.set_cons_zero, List.set_cons_succ]
  refine wpAnyH_done (by kernel_rfl) ?_ _
  have H8 : Hid (Past w w8 ∧ Row w8 c 38 ⟨lC⟩ ∧ w.heap.size ≤ c ∧ Row w8 o 44 cpo ∧ c < o ∧ Row w8 r 41 cof ∧ o < r) :=
    ⟨(H7.out.1.drewN 1).trans' HQ.out, Row.past (Row.drewN H7.out.2.1 1) HQ.out, H7.out.2.2.1, Row.past (Row.drewN H7.out.2.2.2.1 1) HQ.out, H7.out.2.2.2.2.1, Row.past (Row.drewN H7.out.2.2.2.2.2.1 1) HQ.out, H7.out.2.2.2.2.2.2⟩
  clear HX c1 c2 c3 H7 HQ hH
  have d1 : w8.cell? ⟨c, z, none⟩ = some (.int .u64 Z) := (Row.cell H8.out.2.1 z).trans hcz.out
  have d2 : w8.frozen? ⟨c, z, none⟩ = false := Row.fr H8.out.2.1 z
  have hne : c ≠ o := by have := H8.out.2.2.2.2.1; omega
  have d3 : ∀ v, (w8.setCell ⟨c, z, none⟩ v).cell? ⟨o, k, none⟩ = some (.int .i64 V) := fun v => by
    rw [(Row.setOther H8.out.2.2.2.1 hne z v).cell]
    exact hok.out
  have d4 : ∀ v, (w8.setCell ⟨c, z, none⟩ v).frozen? ⟨o, k, none⟩ = false := fun v => (Row.setOther H8.out.2.2.2.1 hne z v).fr k
  go_wp2_with fail
  have HB : Hid (∀ u v, Past w ((w8.setCell ⟨c, z, none⟩ u).setCell ⟨o, k, none⟩ v) ∧ ((w8.setCell ⟨c, z, none⟩ u).setCell ⟨o, k, none⟩ v).cell? ⟨r, x * 5 + y, none⟩ = some (.int .i64 V)) := fun u v => by
    obtain ⟨h1, _, h3, _, h5, h6, h7⟩ := H8.out
    refine ⟨Past.set (Past.set h1 h3 u) (Nat.le_trans h3 (Nat.le_of_lt h5)) v, ?_⟩
    exact (Row.cell (Row.setOther (Row.setOther h6 (by omega) z u) (by omega) k v) _).trans hrk.out
  have HB2 := HB.out (.int .u64 (IntKind.u64.wrap (Z + 1))) (.int .i64 (V + 1))
  clear HB d1 d2 d3 d4 H8
  generalize (w8.setCell ⟨c, z, none⟩ (.int .u64 (IntKind.u64.wrap (Z + 1)))).setCell ⟨o, k, none⟩ (.int .i64 (V + 1)) = w9 at *
  have c3 : w9.drew.cell? ⟨r, x * 5 + y, none⟩ = some (.int .i64 V) := HB2.2
  have HP9 := Lib.hid (HB2.1.drewN 1)
  clear HB2
  have HX : Hid (∀ wx, Past w9.drew wx → wx.cell? ⟨r, x * 5 + y, none⟩ = some (.int .i64 V)) := fun wx hp => cell_past c3 hp
  refine wp_region_held_drew (S := fun w' => w'.cell? ⟨r, x * 5 + y, none⟩ = some (.int .i64 V)) (by kernel_rfl) c3 (fun hH => ?_)
  refine wpAnyH_ready (rs := [0]) (by kernel_rfl) (by simp) ?_
  refine AllReadyH.cons rfl (fun K hK => ?_) AllReadyH.nil
  go_simp
  refine (HC.out _).mono ?_
  rintro e wa ⟨rfl, hp⟩
  have HQ := Lib.hid hp
  refine hK.out _ _ (HX.out _ HQ.out) (fun hH => ?_)
  clear hp hK K
  refine wpAnyH_ready (rs := [1]) (by kernel_rfl) (by simp) ?_
  refine AllReadyH.cons rfl (fun K hK => ?_) AllReadyH.nil
  go_simp
  refine (HCr.out _).mono ?_
  rintro e wb ⟨rfl, hp⟩
  replace HQ := Lib.hid (HQ.out.trans' hp)
  refine hK.out _ _ (HX.out _ HQ.out) (fun hH => ?_)
  clear hp hK K
  refine held_take 2 44 (v := .bool true) rfl rfl (by kernel_rfl) (by kernel_rfl) (by kernel_rfl) (fun _ _ _ h => h) (Or.inl ⟨by rfl, fun w _ => by go_simp⟩) hH ?_
  simp only [List.setIfInBounds_toArray, List.set_cons_zero, List.set_cons_succ]
  refine held_take 3 45 (v := .bool true) rfl rfl (by kernel_rfl) (by kernel_rfl) (by kernel_rfl) (fun _ _ _ h => h) (Or.inl ⟨by rfl, fun w _ => by go_simp⟩) hH ?_
  simp only [List.setIfInBounds_toArray, List.set_cons_zero, List.set_cons_succ]
  refine held_take 5 47 (v := .int .i64 (k : Int)) rfl rfl (by kernel_rfl) (by kernel_rfl) (by kernel_rfl) (fun _ _ _ h => h) (Or.inl ⟨by rfl, fun w _ => by go_simp⟩) hH ?_
  simp only [List.setIfInBounds_toArray, List.set_cons_zero, List.set_cons_succ]
  refine held_take 7 49 (v := .int .i64 (k : Int)) rfl rfl (by kernel_rfl) (by kernel_rfl) (by kernel_rfl) (fun _ _ _ h => h) (Or.inl ⟨by rfl, fun w _ => by go_simp⟩) hH ?_
  simp only [List.setIfInBounds_toArray, List.set_cons_zero, List.set_cons_succ]
  refine held_take 8 50 (v := .int .i64 (x : Int)) rfl rfl (by kernel_rfl) (by kernel_rfl) (by kernel_rfl) (fun _ _ _ h => h) (Or.inl ⟨by rfl, fun w _ => by go_simp⟩) hH ?_
  simp only [List.setIfInBounds_toArray, List.set_cons_zero, List.set_cons_succ]
  refine held_take 9 51 (v := .int .i64 (k : Int)) rfl rfl (by kernel_rfl) (by kernel_rfl) (by kernel_rfl) (fun _ _ _ h => h) (Or.inl ⟨by rfl, fun w _ => by go_simp⟩) hH ?_
  simp only [List.setIfInBounds_toArray, List.set_cons_zero, List.set_cons_succ]
  refine held_take 10 52 (v := .int .i64 (y : Int)) rfl rfl (by kernel_rfl) (by kernel_rfl) (by kernel_rfl) (fun _ _ _ h => h) (Or.inl ⟨by rfl, fun w _ => by go_simp⟩) hH ?_
  simp only [List.setIfInBounds_toArray, List.set_cons_zero, List.set_cons_succ]
  refine held_take 11 53 (v := .pointer (some ⟨r, x * 5, none⟩)) rfl rfl (by kernel_rfl) (by kernel_rfl) (by kernel_rfl) (fun _ _ _ h => h) (Or.inl ⟨by rfl, fun w _ => by go_simp⟩) hH ?_
  simp only [List.setIfInBounds_toArray, List.set_cons_zero, List.set_cons_succ]
  refine held_take 12 54 (v := .pointer (some ⟨r, x * 5 + y, none⟩)) rfl rfl (by kernel_rfl) (by kernel_rfl) (by kernel_rfl) (fun _ _ _ h => h) (Or.inl ⟨by rfl, fun w _ => by go_simp⟩) hH ?_
  simp only [List.setIfInBounds_toArray, List.set_cons_zero, List.set_cons_succ]
  refine held_take 13 55 (v := .int .i64 V) rfl rfl (by kernel_rfl) (by kernel_rfl) (by kernel_rfl) (fun _ _ _ h => h) (Or.inl ⟨by rfl, fun w hSw => by
    have hcell := hSw
    go_simp⟩) hH ?_
  simp only [List.setIfInBounds_toArray, List.set_cons_zero, List.set_cons_succ]
  refine wpAnyH_ready (rs := [4]) (by kernel_rfl) (by simp) ?_
  refine AllReadyH.cons rfl (fun K hK => ?_) AllReadyH.nil
  go_simp
  refine (HO.out _).mono ?_
  rintro e wc ⟨rfl, hp⟩
  replace HQ := Lib.hid (HQ.out.trans' hp)
  refine hK.out _ _ (HX.out _ HQ.out) (fun hH => ?_)
  clear hp hK K
  refine held_take 6 48 (v := .int .i64 V) rfl rfl (by kernel_rfl) (by kernel_rfl) (by kernel_rfl) (fun _ _ _ h => h) (Or.inl ⟨by rfl, fun w _ => by go_simp⟩) hH ?_
  simp only [List.setIfInBounds_toArray, List.set_cons_zero, List.set_cons_succ]
  refine held_take 14 56 (v := .bool true) rfl rfl (by kernel_rfl) (by kernel_rfl) (by kernel_rfl) (fun _ _ _ h => h) (Or.inl ⟨by rfl, fun w _ => by go_simp⟩) hH ?_
  simp only [List.setIfInBounds_toArray, List.set_cons_zero, List.set_cons_succ]
  refine held_take 15 57 (v := .bool true) rfl rfl (by kernel_rfl) (by kernel_rfl) (by kernel_rfl) (fun _ _ _ h => h) (Or.inl ⟨by rfl, fun w _ => by go_simp⟩) hH ?_
  simp only [List.setIfInBounds_toArray, List.set_cons_zero, List.set_cons_succ]
  refine held_take 16 2 (v := .bool true) rfl rfl (by kernel_rfl) (by kernel_rfl) (by kernel_rfl) (fun _ _ _ h => h) (Or.inl ⟨by rfl, fun w _ => by go_simp⟩) hH ?_
  simp only [List.setIfInBounds_toArray, List.set_cons_zero, List.set_cons_succ]
  refine wpAnyH_done (by kernel_rfl) ?_ _
  go_wp2_with fail
  go_ret
  exact ⟨rfl, HP9.out.trans' HQ.out⟩

set_option maxRecDepth 100000 in
theorem lifted (H6 : Prog6) (os : Os) (started : os.Started) (H : Type) (enc : TypeId × Value → H) :
    ReturnsInHanded {} Try.checked os 5 .any (Rows.keccakTablesSpec.pre6 enc Try.prog Try.f5 Rows.keccakTablesRow.domain false) (Rows.keccakTablesSpec.post enc Try.prog Try.f5 false true false false) := by
  refine returnsInHanded_of_change (C := Try.checked) own started (by kernel_rfl) Try.func5
    (ChangeSpec.witness6 (enc := enc) (C := Try.checked) false ⟨#[], #[.int .u8 0], []⟩ 8 (by kernel_rfl) (by kernel_rfl) (by kernel_rfl) (by kernel_rfl)) ?_
  intro W base args ds gs before hval0 hW hcnd _
  have hval : ∀ (j : Nat) t v, Try.f5.params[j]? = some t → args[j]? = some v → Value.okWide Try.prog W .any base t v := hval0
  have hW' := hW
  obtain ⟨p, q, hA0, hV, rfl, hfz, hnd⟩ := hW
  have hA : DataW.TrodAll enc Try.prog W 0 (fun _ => true) true Try.f5.params.toList args.toList ds p := hA0
  rw [Try.params5] at hA hval
  obtain ⟨v0, vs0, d0, ds0, p0, q0, hargs, rfl, rfl, h0, r0⟩ := trodAll_cons hA
  obtain ⟨rfl, rfl, rfl⟩ := trodAll_nil r0
  obtain rfl : args = #[v0] := by cases args; simp_all
  obtain ⟨rfl, rfl⟩ := trodVars_none hV
  obtain ⟨a0, rfl, rfl, rfl, w0⟩ := open_int Try.underlying5 (hval 0 5 v0 rfl rfl) h0
  clear hA0 hval0
  refine (walk H6 a0 W w0).mono fun e W' ⟨he, bel⟩ => ?_
  subst he
  exact ⟨_, rfl, _, _, _, [], _, [], hW', trodAll_mk1 (shut_bool Try.underlying4 _), (trodAll_cons_mk (shut_int Try.underlying5 w0) trodAll_mk0), rfl, bel.frame _, fun h => by cases h⟩

theorem over (H6 : Prog6) : Rows.keccakTablesRow.holds Try.pinned (OpenSpec.ofChange Rows.keccakTablesSpec) :=
  OpenClaim.holds_of_wide 5 Try.f5 rfl rfl rfl rfl rfl rfl rfl ⟨rfl, rfl, rfl, rfl, rfl⟩ rfl rfl rfl rfl rfl (by kernel_rfl) Try.func5 (by kernel_rfl)
    (of_decide_eq_true (by kernel_rfl)) (by unfold Func.isWrapper; first | (rw [if_pos (by decide +kernel)]; kernel_rfl) | (rw [if_neg (by decide +kernel)]; exact ⟨rfl, rfl⟩))
    (fun os started H enc _ => lifted H6 os started H enc)

theorem proved : Rows.KeccakTablesSaid := over prog6

end Go.Proofs.Ytdnpmkhincdghaa.keccakTables
