/- KcodePolys: any polynomial has the bytes of the reference implementation, which lead back to it, modulo q; for every input of the statement, with no condition beyond the card's. -/
import Derived.Test.YtfealllelacmiaaGreatDoorFrame15
import Derived.Test.YtfealllelacmiaaGreatDoorQ15I
import Derived.Test.YtfealllelacmiaaGreatDoorR15G
import Derived.WideKeyArr2
import Derived.Deep.RegionHeld
namespace Go.Proofs.YtfealllelacmiaaGreatDoor
open Go.RowKit Go.ChangeShapes Go.WideShapes Go.ChangeAt
set_option linter.unusedVariables false
set_option maxRecDepth 100000

theorem size3 (xs : Array Value) (h : xs.size = 3) : ∃ x y z, xs = #[x, y, z] := by
  obtain ⟨l⟩ := xs
  match l, h with
  | [x, y, z], _ => exact ⟨x, y, z, rfl⟩
theorem threeKey : WideMaps.ArrKey Tryz.prog 40 22 3 := ⟨by kernel_rfl, by kernel_rfl, by kernel_rfl, by kernel_rfl⟩
section
variable {H : Type} {enc : TypeId × Value → H} {W : World} {base : Nat} {sp : Nat → Bool} {held : Bool}
/-- An array of three numbers that came in. -/
theorem open3 {r : Reach} {b0 : Nat} {v : Value} {d : DataW H} {ps : List MemPlace} (hval : Value.okWide Tryz.prog W r b0 40 v) (hd : DataW.Trod enc Tryz.prog W base sp held 40 v d ps) :
    ∃ a b c : Int, v = .agg #[.int .u32 a, .int .u32 b, .int .u32 c] ∧ d = .agg [.lit (.int .u32 a), .lit (.int .u32 b), .lit (.int .u32 c)] ∧ ps = [] ∧ (Lit.int .u32 a).wf = true ∧ (Lit.int .u32 b).wf = true ∧ (Lit.int .u32 c).wf = true := by
  obtain ⟨xs, rfl, hn⟩ := WideMaps.okWide_arr threeKey hval
  obtain ⟨fuel, hf⟩ := hd
  obtain ⟨x, y, z, rfl⟩ := size3 xs hn
  cases fuel with
  | zero => simp [DataW.trod] at hf
  | succ m =>
    rw [DataW.trod_step] at hf
    unfold DataW.trodStep at hf
    simp only [threeKey.hu, Value.cells] at hf
    rw [if_pos (by rw [threeKey.size]; rfl)] at hf
    simp only [Option.map_eq_some_iff] at hf
    obtain ⟨ys, hy, e1⟩ := hf
    simp [threeKey.one, List.range_succ, List.range_zero, bind, Option.bind_eq_some_iff] at hy
    obtain ⟨d0, p0, h0, _, ⟨d1, p1, h1, _, ⟨d2, p2, h2, rfl⟩, rfl⟩, rfl⟩ := hy
    obtain ⟨a, ea, xa, wa⟩ := DataW.trod_int Tryz.underlying22 h0
    obtain ⟨b, eb, xb, wb⟩ := DataW.trod_int Tryz.underlying22 h1
    obtain ⟨c, ec, xc, wc⟩ := DataW.trod_int Tryz.underlying22 h2
    simp at ea eb ec xa xb xc
    obtain ⟨rfl, rfl⟩ := xa
    obtain ⟨rfl, rfl⟩ := xb
    obtain ⟨rfl, rfl⟩ := xc
    subst ea eb ec
    simp at e1
    exact ⟨a, b, c, rfl, e1.1.symm, e1.2, wa, wb, wc⟩
theorem shut3 {a b c : Int} (ha : (Lit.int .u32 a).wf = true) (hb : (Lit.int .u32 b).wf = true) (hc : (Lit.int .u32 c).wf = true) :
    DataW.Trod enc Tryz.prog W base sp held 40 (.agg #[.int .u32 a, .int .u32 b, .int .u32 c]) (.agg [.lit (.int .u32 a), .lit (.int .u32 b), .lit (.int .u32 c)]) [] := by
  refine ⟨2, ?_⟩
  rw [DataW.trod_step]
  unfold DataW.trodStep
  simp only [threeKey.hu, Value.cells]
  rw [if_pos (by rw [threeKey.size]; rfl)]
  simp [threeKey.one, List.range_succ, List.range_zero, DataW.trod, Tryz.underlying22, ha, hb, hc]
end

theorem eqA (f g : Nat → Int) (h : ∀ i, i < 256 → f i = g i) (w : World) : (Op.equalIn 10000 42 (.agg (arr .u16 256 f)) (.agg (arr .u16 256 g))).run Tryz.prog w = .ok true w := by
  obtain ⟨i, hi, hz⟩ : ∃ i, Tryz.prog.info? 41 = some i ∧ i.size = 1 := by
    cases hq : Tryz.prog.info? 41 with
    | none =>
      have : (Tryz.prog.info? 41).isSome = true := by kernel_rfl
      rw [hq] at this
      cases this
    | some i =>
      have : (Tryz.prog.info? 41).map (·.size) = some 1 := by kernel_rfl
      rw [hq] at this
      exact ⟨i, rfl, by simpa using this⟩
  rw [run_eq_arr w Tryz.underlying42 Tryz.underlying41 hi hz, eqB_true h]
theorem egA : Tryz.prog.eqGuardType Tryz.prog.depth 42 = false := by kernel_rfl
theorem n12_bytes (f : Nat → Int) (i : Nat) (hi : i < 256) : n12 (bytesL f) i = rdc f i := by
  have h := polL_rng f i
  have := n12_packs (polL f) 128 i (polL_len f) hi h.1 (by omega)
  rw [polL_at f i hi] at this
  exact this
theorem polyQ_bytes (f : Nat → Int) : polyQ (bytesL f) = (.agg (arr .u16 256 (rdc f)), true) := by
  unfold polyQ
  rw [if_pos ⟨bytesL_len f, (firstX_iff (bytesL_len f)).2 fun j hj => by rw [n12_bytes f j hj]; unfold rdc; omega⟩, arr_ext fun j hj => n12_bytes f j hj]
end Go.Proofs.YtfealllelacmiaaGreatDoor
namespace Go.Proofs.YtfealllelacmiaaGreatDoor.kcodePolys
open Go.RowKit Go.ChangeShapes Go.WideShapes Go.ChangeAt
set_option linter.unusedVariables false

set_option maxRecDepth 100000 in
set_option maxHeartbeats 4000000 in
theorem walk (a b d : Int) (w : World) (ha : (Lit.int .u32 a).wf = true) (hb : (Lit.int .u32 b).wf = true) (hd : (Lit.int .u32 d).wf = true) (hG : Glob15 w) :
    Calls Tryz.prog 5 #[.agg #[.int .u32 a, .int .u32 b, .int .u32 d]] w fun e w' => e = .returned (.bool true) ∧ Past w w' := by
  have HAW := Lib.hid (fun w' (h : Past w w') => awake15 w' (hG.past h))
  have HSP := Lib.hid (fun w => spread_any a b d (by have := bounds_u32 ha; omega) (by have := bounds_u32 hb; omega) (by have := bounds_u32 hd; omega) w)
  have hf : R16 (spr a b d) := spr_rng a b d
  generalize spr a b d = F at *
  have HKB := Lib.hid (fun w => kbytes_any F hf w)
  have HRB := Lib.hid (fun w => rbytes15_any F hf w)
  have HRD := Lib.hid (fun w => rreduced_any F hf w)
  have HKP := Lib.hid (fun A c w' (h : Sl w' A 384 c (bytesL F)) => kpoly_any A 384 c (bytesL F) w' h (by decide))
  rw [polyQ_bytes F] at HKP
  have HBL := Lib.hid (bytesL_len F)
  have HEQ := Lib.hid (eqA (rdc F) (rdc F) fun _ _ => rfl)
  have HEG := Lib.hid egA
  have HLF := Lib.hid (lst_len F).1
  have HLR := Lib.hid (lst_len (rdc F)).2
  have HSN : Hid ((arr .u16 256 fun _ => 0).size = (arr .u16 256 F).size) := Lib.hid (by rw [arr_size, arr_size])
  have HSN2 : Hid ((arr .u16 256 fun _ => 0).size = (arr .u16 256 (rdc F)).size) := Lib.hid (by rw [arr_size, arr_size])
  have HI2 := Lib.hid (inf256 F)
  have HI3 := Lib.hid (infP (rdc F))
  have HON := Lib.hid (arr_one .u16 256 F)
  have HON2 := Lib.hid (arr_one .u16 256 (rdc F))
  have HRL := Lib.hid (fun (w : World) (g : Nat) (h : Row w g 42 (arr .u16 256 F)) => row_lst h)
  have HRL2 := Lib.hid (fun (w : World) (g : Nat) (h : Row w g 45 (arr .u16 256 (rdc F))) => row_lst h)
  have HZ := Lib.hid zero256
  have HZ2 := Lib.hid zeroP
  simp only [arr_lst] at HSP HKB HRB HRD HKP HEQ HSN HSN2 HI2 HI3 HON HON2 HRL HRL2 HZ HZ2
  generalize bytesL F = bs at *
  generalize lst F = lf at *
  generalize lst (rdc F) = lr at *
  generalize (lst fun _ => 0) = lz at *
  clear hf hG ha hb hd
  go_enter Tryz.func5, Tryz.ntmps5
  obtain ⟨g, hg⟩ : ∃ g, w.heap.size = g := ⟨_, rfl⟩
  obtain ⟨w0, hw0⟩ : ∃ w', w.alloc (.cells #[.int .u32 a, .int .u32 b, .int .u32 d] 40) = w' := ⟨_, rfl⟩
  have hp0 : Past w w0 := by rw [← hw0]; exact (Below.refl _ w).alloc (Nat.le_refl _) _
  have hr0 : Row w0 g 40 #[.int .u32 a, .int .u32 b, .int .u32 d] := by rw [← hw0, ← hg]; exact Row.new _ _ _
  go_upto_region 1 with (fail)
  try rw [hw0]
  try rw [hg]
  clear hw0 hg
  have HP0 := Lib.hid hp0
  have HR0 := Lib.hid hr0
  clear hp0 hr0
  go_wp2_with fail
  refine (HAW.out w0 HP0.out).mono ?_
  rintro e w1 ⟨rfl, hp⟩
  have H1 : Hid (Past w w1) := Lib.hid (HP0.out.trans' hp)
  have hr1 := HR0.out.past hp
  have k0 := hr1.cell 0
  have k1 := hr1.cell 1
  have k2 := hr1.cell 2
  clear hp HAW HR0 HP0 hr1
  go_wp2_with fail
  refine (HSP.out w1).mono ?_
  rintro e w2 ⟨rfl, hp⟩
  have H2 : Hid (Past w w2) := Lib.hid (H1.out.trans' hp)
  clear hp k0 k1 k2 HSP H1
  obtain ⟨u, hu⟩ : ∃ u, w2.heap.size = u := ⟨_, rfl⟩
  have hfr := fresh_row w2 42 lz.toArray lf.toArray
  have hr0 := Row.new w2 42 lz.toArray
  have hsN := HSN.out
  have hoN := HON.out
  have hi2 := HI2.out
  have hz := HZ.out
  rw [hu] at hfr hr0
  obtain ⟨w3, hw3⟩ : ∃ w', (w2.alloc (.cells lz.toArray 42)).setRow u lf.toArray = w' := ⟨_, rfl⟩
  rw [hw3] at hfr
  have H3 : Hid (Past w w3) := Lib.hid (H2.out.trans' hfr.2)
  have HROW := Lib.hid hfr.1
  have HW3 := Lib.hid hw3
  clear hw3 H2 hfr
  go_upto_region 4 with (refine wpList_store_row rfl 42 _ _ rfl u _ rfl rfl _ _ hr0 hi2 hsN hoN ?_)
  rw [HW3.out]
  clear HW3 hr0 hsN hoN hu hz
  have hrw := HROW.out
  go_wp2_with (refine wpList_load_row rfl 42 _ rfl u rfl _ _ (0, 0) _ hrw Tryz.underlying42 rfl hi2 ?_)
  clear hi2 hrw
  refine (HKB.out w3).mono ?_
  rintro e w4 ⟨A, n, c, rfl, hS4, hp4⟩
  obtain rfl : n = 384 := by rw [← hS4.len, HBL.out]
  have H4 := Lib.hid (H3.out.trans' hp4)
  have HROW4 := Lib.hid (HROW.out.past hp4)
  have HS4 := Lib.hid hS4
  have HKP4 := Lib.hid (HKP.out A c w4 hS4)
  clear hp4 hS4 HKP HKB
  go_wp2_with fail
  refine HKP4.out.mono ?_
  rintro e w5 ⟨rfl, hp5⟩
  have H5 := Lib.hid (H4.out.trans' hp5)
  have HROW5 := Lib.hid (HROW4.out.past hp5)
  have HS5 := Lib.hid (HS4.out.past hp5)
  clear hp5 HKP4
  obtain ⟨u2, hu⟩ : ∃ u, w5.heap.size = u := ⟨_, rfl⟩
  have hfr := fresh_row w5 45 lz.toArray lr.toArray
  have hr0 := Row.new w5 45 lz.toArray
  have hsN := HSN2.out
  have hoN := HON2.out
  have hi2 := HI3.out
  have hz := HZ2.out
  rw [hu] at hfr hr0
  obtain ⟨w7, hw7⟩ : ∃ w', (w5.alloc (.cells lz.toArray 45)).setRow u2 lr.toArray = w' := ⟨_, rfl⟩
  rw [hw7] at hfr
  have HP7 : Hid (Past w w7) := Lib.hid (H5.out.trans' hfr.2)
  have HSK : Hid (∀ w', Past w7 w' → w'.rangeAt u 0 lf ∧ w'.rangeAt u2 0 lr) := Lib.hid (fun w' h => ⟨HRL.out _ _ ((HROW5.out.past hfr.2).past h), HRL2.out _ _ (Row.past hfr.1 h)⟩)
  have HSB : Hid (∀ w', Past w7 w' → Sl w' A 384 c bs) := Lib.hid (fun w' h => (HS5.out.past hfr.2).past h)
  have HW7 := Lib.hid hw7
  clear hw7 hfr
  go_upto_region 6 with (refine wpList_store_row rfl 45 _ _ rfl u2 _ rfl rfl _ _ hr0 hi2 hsN hoN ?_)
  rw [HW7.out]
  clear HW7 hr0 hsN hoN hu hz hi2
  obtain ⟨wd, hwd⟩ : ∃ W, W = w7.drew := ⟨_, rfl⟩
  have HPD : Hid (Past w7 wd) := Lib.hid (by rw [hwd]; exact Past.drewN (Below.refl _ w7) 1)
  refine wp_region_held_drew (S := fun w' => w'.rangeAt u 0 lf ∧ w'.rangeAt u2 0 lr) (by kernel_rfl) (by rw [← hwd]; exact HSK.out _ HPD.out) (fun hH => ?_)
  change wpAnyH _ _ _ _ _ _ _ _ (World.drew _)
  rw [← hwd]
  clear hH hwd
  have hH := HSK.out _ HPD.out
  refine held_take 0 18 (v := .slice A 384 c) rfl rfl (by kernel_rfl) (by kernel_rfl) (by kernel_rfl) (fun _ _ _ h => h) (Or.inl ⟨by kernel_rfl, fun w _ => by kernel_rfl⟩) hH ?_
  (try simp only [List.setIfInBounds_toArray, List.set_cons_zero, List.set_cons_succ])
  refine held_take 1 19 rfl rfl (by kernel_rfl) (by kernel_rfl) (by kernel_rfl) (fun _ _ _ h => h) (yieldsIf_load_mid (by kernel_rfl) 42 (.tmp 3) rfl u 0 rfl lf _ (fun _ h => h.1) Tryz.underlying42 rfl HLF.out) hH ?_
  (try simp only [List.setIfInBounds_toArray, List.set_cons_zero, List.set_cons_succ])
  refine wpAnyH_ready (rs := [2]) (by kernel_rfl) (by simp) ?_
  refine AllReadyH.cons (by simp only [List.getElem?_toArray, List.getElem?_cons_succ, List.getElem?_cons_zero]; rfl) (fun K hK => ?_) AllReadyH.nil
  go_simp
  refine (HRB.out wd).mono ?_
  rintro e8 w8 ⟨A8, n8, c8, rfl, hS8, hp8⟩
  obtain rfl : n8 = 384 := by rw [← hS8.len, HBL.out]
  have HP8 := Lib.hid (HPD.out.trans' hp8)
  have HS8 := Lib.hid hS8
  clear hp8 hS8
  refine hK.out _ _ (HSK.out _ HP8.out) (fun hH => ?_)
  clear hK K
  refine wpAnyH_ready (rs := [3]) (by kernel_rfl) (by simp) ?_
  refine AllReadyH.cons (by simp only [List.getElem?_toArray, List.getElem?_cons_succ, List.getElem?_cons_zero]; rfl) (fun K hK => ?_) AllReadyH.nil
  go_simp
  refine (rsame_self _ _ 384 c c8 _ w8 (HSB.out _ HP8.out) HS8.out).mono ?_
  rintro e9 w9 ⟨rfl, m9, hw9⟩
  have HP9 : Hid (Past w7 w9) := Lib.hid (by rw [hw9]; exact HP8.out.drewN m9)
  clear hw9
  refine hK.out _ _ (HSK.out _ HP9.out) (fun hH => ?_)
  clear hK K
  refine held_take 4 22 (v := .bool true) rfl rfl (by kernel_rfl) (by kernel_rfl) (by kernel_rfl) (fun _ _ _ h => h) (Or.inl ⟨by kernel_rfl, fun w _ => by kernel_rfl⟩) hH ?_
  (try simp only [List.setIfInBounds_toArray, List.set_cons_zero, List.set_cons_succ])
  refine held_take 5 23 (v := .bool true) rfl rfl (by kernel_rfl) (by kernel_rfl) (by kernel_rfl) (fun _ _ _ h => h) (Or.inl ⟨by kernel_rfl, fun w _ => by kernel_rfl⟩) hH ?_
  (try simp only [List.setIfInBounds_toArray, List.set_cons_zero, List.set_cons_succ])
  refine held_take 6 24 (v := .bool true) rfl rfl (by kernel_rfl) (by kernel_rfl) (by kernel_rfl) (fun _ _ _ h => h) (Or.inl ⟨by kernel_rfl, fun w _ => by go_simp⟩) hH ?_
  (try simp only [List.setIfInBounds_toArray, List.set_cons_zero, List.set_cons_succ])
  refine held_take 7 25 (v := .bool true) rfl rfl (by kernel_rfl) (by kernel_rfl) (by kernel_rfl) (fun _ _ _ h => h) (Or.inl ⟨by kernel_rfl, fun w _ => by kernel_rfl⟩) hH ?_
  (try simp only [List.setIfInBounds_toArray, List.set_cons_zero, List.set_cons_succ])
  refine held_take 8 26 rfl rfl (by kernel_rfl) (by kernel_rfl) (by kernel_rfl) (fun _ _ _ h => h) (yieldsIf_load_mid (by kernel_rfl) 45 (.tmp 5) rfl u2 0 rfl lr _ (fun _ h => h.2) Tryz.underlying45 rfl HLR.out) hH ?_
  (try simp only [List.setIfInBounds_toArray, List.set_cons_zero, List.set_cons_succ])
  refine held_take 9 27 rfl rfl (by kernel_rfl) (by kernel_rfl) (by kernel_rfl) (fun _ _ _ h => h) (yieldsIf_load_mid (by kernel_rfl) 42 (.tmp 3) rfl u 0 rfl lf _ (fun _ h => h.1) Tryz.underlying42 rfl HLF.out) hH ?_
  (try simp only [List.setIfInBounds_toArray, List.set_cons_zero, List.set_cons_succ])
  refine wpAnyH_ready (rs := [10]) (by kernel_rfl) (by simp) ?_
  refine AllReadyH.cons (by simp only [List.getElem?_toArray, List.getElem?_cons_succ, List.getElem?_cons_zero]; rfl) (fun K hK => ?_) AllReadyH.nil
  go_simp
  refine (HRD.out w9).mono ?_
  rintro e10 w10 ⟨rfl, hp10⟩
  have HP10 := Lib.hid (HP9.out.trans' hp10)
  clear hp10
  refine hK.out _ _ (HSK.out _ HP10.out) (fun hH => ?_)
  clear hK K
  refine held_take 11 29 (v := .bool true) rfl rfl (by kernel_rfl) (by kernel_rfl) (by kernel_rfl) (fun _ _ _ h => h) (Or.inl ⟨by kernel_rfl, fun w _ => by have heq := HEQ.out; have heg := HEG.out; go_simp⟩) hH ?_
  (try simp only [List.setIfInBounds_toArray, List.set_cons_zero, List.set_cons_succ])
  refine held_take 12 30 (v := .bool true) rfl rfl (by kernel_rfl) (by kernel_rfl) (by kernel_rfl) (fun _ _ _ h => h) (Or.inl ⟨by kernel_rfl, fun w _ => by go_simp⟩) hH ?_
  (try simp only [List.setIfInBounds_toArray, List.set_cons_zero, List.set_cons_succ])
  refine held_take 13 2 (v := .bool true) rfl rfl (by kernel_rfl) (by kernel_rfl) (by kernel_rfl) (fun _ _ _ h => h) (Or.inl ⟨by kernel_rfl, fun w _ => by kernel_rfl⟩) hH ?_
  refine wpAnyH_done (by kernel_rfl) ?_ _
  go_simp
  go_wp2_with fail
  go_ret
  exact ⟨rfl, HP7.out.trans' HP10.out⟩

def args0 : Array Value := #[.agg #[.int .u32 0, .int .u32 0, .int .u32 0]]
theorem laid_met (os : Os) : laidMetH Tryz.prog Rows.kcodePolysRow.laid ((laidWorld os).forCall (fun _ _ => 0) ⟨#[], args0, []⟩).memory :=
  laid_world os args0
theorem witness_row (os : Os) {H : Type} (enc : TypeId × Value → H) :
    (OpenSpec.ofChange Rows.kcodePolysSpec).preRow enc Tryz.prog Tryz.f5 Rows.kcodePolysRow.domain false Rows.kcodePolysRow.laid ((laidWorld os).forCall (fun _ _ => 0) ⟨#[], args0, []⟩).memory args0 := by
  have hw : (DataW.whole enc Tryz.prog ((laidWorld os).forCall (fun _ _ => 0) ⟨#[], args0, []⟩).memory Tryz.f5.params.toList (OpenSpec.ofChange Rows.kcodePolysSpec).vars false args0.toList 8).map (fun x => (x.1, x.2.1)) =
      some ([.agg [.lit (.int .u32 0), .lit (.int .u32 0), .lit (.int .u32 0)]], []) := by kernel_rfl
  obtain ⟨⟨x1, x2, x3⟩, hx, hx1⟩ := Option.map_eq_some_iff.1 hw
  simp only [Prod.mk.injEq] at hx1
  obtain ⟨rfl, rfl⟩ := hx1
  exact OpenSpec.preRow_of_cond 8 hx (by kernel_rfl) (fun k hk => by cases hk) (by kernel_rfl) (laid_met os)

set_option maxRecDepth 100000 in
set_option maxHeartbeats 2000000 in
theorem lifted (os : Os) (started : os.Started) (H : Type) (enc : TypeId × Value → H) (F : Stop.Interp) :
    ReturnsInHanded {} Tryz.checked os 5 .any ((OpenSpec.ofChange Rows.kcodePolysSpec).preRow enc Tryz.prog Tryz.f5 Rows.kcodePolysRow.domain false Rows.kcodePolysRow.laid) (((OpenSpec.ofChange Rows.kcodePolysSpec).at F).post enc Tryz.prog Tryz.f5 false true false false) := by
  refine returnsInHanded_of_row (C := Tryz.checked) (s := OpenSpec.ofChange Rows.kcodePolysSpec) own started (by kernel_rfl) Tryz.func5
    (witness_row_atRef (enc := enc) (C := Tryz.checked) false (laidWorld os) args0 rfl (by kernel_rfl) (by kernel_rfl) (by kernel_rfl) (witness_row os enc)) ?_
  intro W base args ds gs before hval0 hW _ hcnd _ hL hsh _
  have hval : ∀ (j : Nat) t v, Tryz.f5.params[j]? = some t → args[j]? = some v → Value.okWide Tryz.prog W .any base t v := hval0
  have hW' := hW
  obtain ⟨p, q, hA0, hV, rfl, hfz, hnd⟩ := hW
  have hA : DataW.TrodAll enc Tryz.prog W 0 (fun _ => true) true Tryz.f5.params.toList args.toList ds p := hA0
  rw [Tryz.params5] at hA hval
  obtain ⟨v0, vs0, d0, ds0, p0, q0, hargs, rfl, rfl, h0, r0⟩ := trodAll_cons hA
  obtain ⟨rfl, rfl, rfl⟩ := trodAll_nil r0
  obtain rfl : args = #[v0] := by cases args; simp_all
  obtain ⟨rfl, rfl⟩ := trodVars_none hV
  obtain ⟨a0, b0, c0, rfl, rfl, rfl, wa0, wb0, wc0⟩ := open3 (hval 0 40 v0 rfl rfl) h0
  have hG := glob_of_row hL hsh
  clear hA0 hval0
  refine (walk a0 b0 c0 W wa0 wb0 wc0 hG).mono fun e W' ⟨he, bel⟩ => ?_
  subst he
  exact ⟨_, rfl, _, _, _, [], _, [], hW', trodAll_mk1 (shut_bool Tryz.underlying4 _), (trodAll_cons_mk (shut3 wa0 wb0 wc0) trodAll_mk0), rfl, bel.frame _, fun h => by cases h⟩

theorem row_holds : Rows.KcodePolysSaid :=
  OpenClaim.holds_of_cond 5 Tryz.f5 rfl rfl rfl rfl rfl rfl rfl ⟨rfl, rfl, rfl, rfl, rfl⟩ rfl rfl rfl rfl rfl (by kernel_rfl) Tryz.func5 (by kernel_rfl)
    (of_decide_eq_true (by kernel_rfl)) (by unfold Func.isWrapper; first | (rw [if_pos (by decide +kernel)]; kernel_rfl) | (rw [if_neg (by decide +kernel)]; exact ⟨rfl, rfl⟩))
    (fun os started H enc _ F0 => by rw [OpenClaim.pre_eq_preRow]; exact lifted os started H enc F0)

theorem card : Rows.KcodePolysCardSaid :=
  Claim7.holds_tied_plain_at .later [] [.data, .data, .data, .data, .handle, .sentinel, .sentinel, .data, .data, .data, .data, .pinned] true Rows.kcodePolysCard.stood.harness true
    row_holds (fun _ h => by cases h) (by kernel_rfl) (fun _ h => by cases h) kcodePolys_row_tie rfl ⟨rfl, rfl⟩ (by kernel_rfl) rfl
    (fun f fn hf hfn => by
      obtain rfl : f = 5 := Option.some.inj ((show Tryz.prog.funcNamed "pyx/pyxlaw15.KcodePolys" = some 5 by kernel_rfl).symm.trans hf) |>.symm
      obtain rfl : fn = Tryz.f5 := (Option.some.inj (Tryz.func5.symm.trans hfn)).symm
      exact ⟨by kernel_rfl, fun j t ht => by
        rw [Tryz.params5] at ht
        obtain rfl : t = 40 := by
          rcases j with _ | j
          · simpa using ht.symm
          · simp at ht
        exact (show Tryz.prog.wantsStandIn 40 = false by kernel_rfl)⟩)
    (by kernel_rfl)

