/- The chapter's examples hold of the program's package dring, by its contracts. -/
import Derived.Test.YtngbmaojgfocgaaP17
namespace Go.Proofs.Ytngbmaojgfocgaa.dr
open Go.RowKit
set_option linter.unusedVariables false

theorem zeroP (w : World) : (zeroValue 27).run Try.prog w = .ok (.agg (arr .u32 256 fun _ => 0)) w := by kernel_rfl
theorem infP (f : Nat → Int) : (Try.prog.info? 27).map (·.size) = some (arr .u32 256 f).size := by rw [arr_size]; kernel_rfl
theorem setP (c : Int) : (arr .u32 256 fun _ => 0).setIfInBounds 0 (.int .u32 c) = arr .u32 256 (dlt c) := by
  rw [arr_set .u32 256 _ 0 c (by decide)]
  refine arr_ext fun i _ => ?_
  unfold upd dlt
  rfl
theorem builtP (c : Int) : Try.prog.built 27 [(0, .int .u32 c)] = some (arr .u32 256 (dlt c)) := by kernel_rfl
theorem eqP (f g : Nat → Int) (h : ∀ i, i < 256 → f i = g i) (w : World) : (Op.equalIn 10000 27 (.agg (arr .u32 256 f)) (.agg (arr .u32 256 g))).run Try.prog w = .ok true w := by
  obtain ⟨i, hi, hz⟩ : ∃ i, Try.prog.info? 22 = some i ∧ i.size = 1 := by
    cases hq : Try.prog.info? 22 with
    | none =>
      have : (Try.prog.info? 22).isSome = true := by kernel_rfl
      rw [hq] at this
      cases this
    | some i =>
      have : (Try.prog.info? 22).map (·.size) = some 1 := by kernel_rfl
      rw [hq] at this
      exact ⟨i, rfl, by simpa using this⟩
  rw [run_eq_arr w Try.underlying27 Try.underlying22 hi hz, eqB_true h]
theorem egP : Try.prog.eqGuardType Try.prog.depth 27 = false := by kernel_rfl
theorem wpList_build_oneP {P : Program} {ops : Array Oper} {rest : List Oper} {o : Oper} {a : Act} {w : World} {Q : Exit → Act → World → Prop} (hg : o.guard = none) (t : TypeId) (i : Nat) (x : Operand) (ho : o.op = .build t #[(i, x)]) (v : Value) (hx : a.eval x = v) (cs : Array Value)
    (hb : P.built t [(i, v)] = some cs) (h : wpList P ops Q rest (a.put o.dst (.agg cs)) w) : wpList P ops Q (o :: rest) a w := by
  have e : ((#[(i, x)] : Array (Nat × Operand)).map fun (i, x) => (i, a.eval x)).toList = [(i, v)] := by simp [hx]
  exact wpList_build hg t #[(i, x)] ho (by rw [e, hb]; rfl) (by rw [e, hb]; exact h)
/-- A new variable that is written at once. -/
theorem fresh_row (w : World) (t : TypeId) (c0 cs : Array Value) : Row ((w.alloc (.cells c0 t)).setRow w.heap.size cs) w.heap.size t cs ∧ Past w ((w.alloc (.cells c0 t)).setRow w.heap.size cs) :=
  ⟨setRow_heap _ _ c0 cs t (0, 0) (Row.new w t c0), below_setRow ((Below.refl w.heap.size w).alloc (Nat.le_refl _) _) (Nat.le_refl _) _⟩
theorem builtF : Try.prog.built 27 [(0, .int .u32 8380415), (1, .int .u32 1), (2, .int .u32 1)] = some (arr .u32 256 exF) := by kernel_rfl
theorem wpList_build_threeP {P : Program} {ops : Array Oper} {rest : List Oper} {o : Oper} {a : Act} {w : World} {Q : Exit → Act → World → Prop} (hg : o.guard = none) (t : TypeId) (i j k : Nat) (x y z : Operand) (ho : o.op = .build t #[(i, x), (j, y), (k, z)]) (vx vy vz : Value) (hx : a.eval x = vx) (hy : a.eval y = vy) (hz : a.eval z = vz) (cs : Array Value)
    (hb : P.built t [(i, vx), (j, vy), (k, vz)] = some cs) (h : wpList P ops Q rest (a.put o.dst (.agg cs)) w) : wpList P ops Q (o :: rest) a w := by
  have e : ((#[(i, x), (j, y), (k, z)] : Array (Nat × Operand)).map fun (i, x) => (i, a.eval x)).toList = [(i, vx), (j, vy), (k, vz)] := by simp [hx, hy, hz]
  exact wpList_build hg t #[(i, x), (j, y), (k, z)] ho (by rw [e, hb]; rfl) (by rw [e, hb]; exact h)
set_option maxHeartbeats 8000000 in
set_option maxRecDepth 100000 in
theorem awake17 (H : Prog17) (w : World) : Calls Try.prog 8 #[] w fun e w' => e = .returned (.bool true) ∧ Past w w' := by
  have hrt : rt 0 = 1753 := by decide +kernel
  have HR0 := Lib.hid (fun w => H.rootIn 0 w (by decide))
  rw [hrt] at HR0
  have HR1 := Lib.hid (fun w => H.rootOut 256 w (by decide))
  have HN := Lib.hid (fun w => H.ntt (dlt 1) w (dlt_rng (by decide) (by decide)))
  have HI := Lib.hid (fun w => H.intt (ntt (dlt 1)) w (R32.of_low (ntt_low _)))
  rw [intt_ntt, rdc_dlt] at HI
  have HNO := Lib.hid (fun w => H.norm exF w exF_rng)
  rw [nrm_ex] at HNO
  have HRE := Lib.hid (fun w => H.reduce (-1) w (by decide) (by decide))
  rw [show (-1 : Int) % 8380417 = 8380416 by decide] at HRE
  have hb1 := builtP 1
  have HBF := Lib.hid builtF
  have HEQ := Lib.hid (eqP (dlt 1) (dlt 1) fun _ _ => rfl)
  have HEG := Lib.hid egP
  have g0 : (arr .u32 256 (ntt (dlt 1)))[0]? = some (.int .u32 1) := by rw [arr_get .u32 256 _ 0 (by decide)]; exact congrArg (fun x => some (Value.int .u32 x)) (ntt_dlt 0 (by decide))
  have g255 : (arr .u32 256 (ntt (dlt 1)))[255]? = some (.int .u32 1) := by rw [arr_get .u32 256 _ 255 (by decide)]; exact congrArg (fun x => some (Value.int .u32 x)) (ntt_dlt 255 (by decide))
  have HI2 := Lib.hid (infP (ntt (dlt 1)))
  have HIF := Lib.hid (infP exF)
  have HSN : Hid ((arr .u32 256 fun _ => 0).size = (arr .u32 256 (ntt (dlt 1))).size) := Lib.hid (by rw [arr_size, arr_size])
  have HSF : Hid ((arr .u32 256 fun _ => 0).size = (arr .u32 256 exF).size) := Lib.hid (by rw [arr_size, arr_size])
  have HON := Lib.hid (arr_one .u32 256 (ntt (dlt 1)))
  have HOF := Lib.hid (arr_one .u32 256 exF)
  have HZ := Lib.hid zeroP
  have HS1 := Lib.hid (setP 1)
  have HSZ : Hid ((arr .u32 256 fun _ => 0).size = 256) := Lib.hid (arr_size _ _ _)
  have HG := Lib.hid (And.intro g0 g255)
  clear hrt H g0 g255
  generalize arr .u32 256 (ntt (dlt 1)) = cN at *
  generalize arr .u32 256 (dlt 1) = cD at *
  generalize arr .u32 256 exF = cF at *
  generalize arr .u32 256 (fun _ => 0) = cz at *
  go_enter Try.func8, Try.ntmps8
  go_wp2_with fail
  refine (HR0.out w).mono ?_
  rintro e w1 ⟨rfl, hp⟩
  have H1 := Lib.hid hp
  clear hp
  go_wp2_with fail
  refine (HR1.out w1).mono ?_
  rintro e w2 ⟨rfl, hp⟩
  have H2 := Lib.hid (H1.out.trans' hp)
  clear hp
  go_wp2_with (refine wpList_build_oneP rfl 27 0 _ rfl _ rfl _ hb1 ?_)
  refine (HN.out w2).mono ?_
  rintro e w3 ⟨rfl, hp⟩
  have H3 := Lib.hid (H2.out.trans' hp)
  clear hp hb1
  obtain ⟨u, hu⟩ : ∃ u, w3.heap.size = u := ⟨_, rfl⟩
  have hz := HZ.out
  have hi2 := HI2.out
  have hfr := fresh_row w3 27 cz cN
  have hr0 := Row.new w3 27 cz
  have hsN := HSN.out
  have hoN := HON.out
  rw [hu] at hfr hr0
  obtain ⟨w4, hw4⟩ : ∃ w', (w3.alloc (.cells cz 27)).setRow u cN = w' := ⟨_, rfl⟩
  rw [hw4] at hfr
  have HROW := Lib.hid hfr.1
  have H4 : Hid (Past w w4) := Lib.hid (H3.out.trans' hfr.2)
  have HW4 := Lib.hid hw4
  clear hw4 hfr
  go_upto_region 4 with (refine wpList_store_row rfl 27 _ _ rfl u _ rfl rfl _ _ hr0 hi2 hsN hoN ?_)
  rw [HW4.out]
  clear HW4 hr0 hsN hoN hu hi2 hz
  obtain ⟨v, hv⟩ : ∃ u, w4.heap.size = u := ⟨_, rfl⟩
  have hz := HZ.out
  have hi2 := HIF.out
  have hfr := fresh_row w4 27 cz cF
  have hr0 := Row.new w4 27 cz
  have hsN := HSF.out
  have hoN := HOF.out
  have hbf := HBF.out
  rw [hv] at hfr hr0
  obtain ⟨w5, hw5⟩ : ∃ w', (w4.alloc (.cells cz 27)).setRow v cF = w' := ⟨_, rfl⟩
  rw [hw5] at hfr
  have HROF := Lib.hid hfr.1
  have HRON := Lib.hid (HROW.out.past hfr.2)
  have H5 : Hid (Past w w5) := Lib.hid (H4.out.trans' hfr.2)
  have HW5 := Lib.hid hw5
  clear hw5 hfr HROW
  go_upto_region 5 with (first | (refine wpList_build_threeP rfl 27 0 1 2 _ _ _ rfl _ _ _ rfl rfl rfl _ hbf ?_) | (refine wpList_store_row rfl 27 _ _ rfl v _ rfl rfl _ _ hr0 hi2 hsN hoN ?_))
  rw [HW5.out]
  clear HW5 hr0 hsN hoN hv hi2 hz hbf
  have k0 : w5.cell? ⟨u, 0, none⟩ = some (.int .u32 1) := by rw [HRON.out.cell]; exact HG.out.1
  have k255 : w5.cell? ⟨u, 255, none⟩ = some (.int .u32 1) := by rw [HRON.out.cell]; exact HG.out.2
  have hrow := HRON.out
  have hi2 := HI2.out
  go_wp2_with (refine wpList_load_row_want (by kernel_rfl) 27 _ rfl u rfl _ _ _ _ hrow Try.underlying27 rfl hi2 ?_)
  clear k0 k255 hrow hi2
  refine (HI.out w5).mono ?_
  rintro e w6 ⟨rfl, hp⟩
  have H6 : Hid (Past w w6) := Lib.hid (H5.out.trans' hp)
  have hrow := HROF.out.past hp
  have hi2 := HIF.out
  have hz := HZ.out
  have hs1 := HS1.out
  have hsz := HSZ.out
  have hne : ¬ cz = #[] := by intro e; rw [e] at hsz; simp at hsz
  have heq := HEQ.out
  have heg := HEG.out
  clear hp
  go_wp2_with (first | (refine wpList_load_row_want (by kernel_rfl) 27 _ rfl v rfl _ _ _ _ hrow Try.underlying27 rfl hi2 ?_))
  clear hrow hi2 heq heg hz hs1 hsz hne
  refine (HNO.out w6).mono ?_
  rintro e w7 ⟨rfl, hp⟩
  have H7 : Hid (Past w w7) := Lib.hid (H6.out.trans' hp)
  clear hp
  go_wp2_with fail
  refine (HRE.out w7).mono ?_
  rintro e w8 ⟨rfl, hp⟩
  have H8 : Hid (Past w w8) := Lib.hid (H7.out.trans' hp)
  clear hp
  go_wp2_with fail
  go_ret
  exact ⟨rfl, H8.out⟩
end Go.Proofs.Ytngbmaojgfocgaa.dr
