/- The chapter's examples hold of the program's package kring, by its contracts. -/
import Derived.Test.YtmhhkhbdjkbklaaP14
namespace Go.Proofs.Ytmhhkhbdjkbklaa
open Go.RowKit
set_option linter.unusedVariables false

theorem zeroP (w : World) : (zeroValue 28).run Try.prog w = .ok (.agg (arr .u16 256 fun _ => 0)) w := by kernel_rfl
theorem infP (f : Nat → Int) : (Try.prog.info? 28).map (·.size) = some (arr .u16 256 f).size := by rw [arr_size]; kernel_rfl
theorem setP (c : Int) : (arr .u16 256 fun _ => 0).setIfInBounds 0 (.int .u16 c) = arr .u16 256 (dlt c) := by
  rw [arr_set .u16 256 _ 0 c (by decide)]
  refine arr_ext fun i _ => ?_
  unfold upd dlt
  rfl
theorem builtP (c : Int) : Try.prog.built 28 [(0, .int .u16 c)] = some (arr .u16 256 (dlt c)) := by kernel_rfl
theorem eqP (f g : Nat → Int) (h : ∀ i, i < 256 → f i = g i) (w : World) : (Op.equalIn 10000 28 (.agg (arr .u16 256 f)) (.agg (arr .u16 256 g))).run Try.prog w = .ok true w := by
  obtain ⟨i, hi, hz⟩ : ∃ i, Try.prog.info? 25 = some i ∧ i.size = 1 := by
    cases hq : Try.prog.info? 25 with
    | none =>
      have : (Try.prog.info? 25).isSome = true := by kernel_rfl
      rw [hq] at this
      cases this
    | some i =>
      have : (Try.prog.info? 25).map (·.size) = some 1 := by kernel_rfl
      rw [hq] at this
      exact ⟨i, rfl, by simpa using this⟩
  rw [run_eq_arr w Try.underlying28 Try.underlying25 hi hz, eqB_true h]
theorem egP : Try.prog.eqGuardType Try.prog.depth 28 = false := by kernel_rfl
theorem wpList_build_oneP {P : Program} {ops : Array Oper} {rest : List Oper} {o : Oper} {a : Act} {w : World} {Q : Exit → Act → World → Prop} (hg : o.guard = none) (t : TypeId) (i : Nat) (x : Operand) (ho : o.op = .build t #[(i, x)]) (v : Value) (hx : a.eval x = v) (cs : Array Value)
    (hb : P.built t [(i, v)] = some cs) (h : wpList P ops Q rest (a.put o.dst (.agg cs)) w) : wpList P ops Q (o :: rest) a w := by
  have e : ((#[(i, x)] : Array (Nat × Operand)).map fun (i, x) => (i, a.eval x)).toList = [(i, v)] := by simp [hx]
  exact wpList_build hg t #[(i, x)] ho (by rw [e, hb]; rfl) (by rw [e, hb]; exact h)
/-- A new variable that is written at once. -/
theorem fresh_row (w : World) (t : TypeId) (c0 cs : Array Value) : Row ((w.alloc (.cells c0 t)).setRow w.heap.size cs) w.heap.size t cs ∧ Past w ((w.alloc (.cells c0 t)).setRow w.heap.size cs) :=
  ⟨setRow_heap _ _ c0 cs t (0, 0) (Row.new w t c0), below_setRow ((Below.refl w.heap.size w).alloc (Nat.le_refl _) _) (Nat.le_refl _) _⟩
set_option maxHeartbeats 8000000 in
set_option maxRecDepth 100000 in
theorem awake14 (H : Prog14) (w : World) : Calls Try.prog 8 #[] w fun e w' => e = .returned (.bool true) ∧ Past w w' := by
  have HH := Lib.hid H
  have hrt : rt 0 = 17 := by decide +kernel
  have HR0 := Lib.hid (fun w => H.rootIn 0 w (by decide))
  rw [hrt] at HR0
  have HR1 := Lib.hid (fun w => H.rootOut 128 w (by decide))
  have HN := Lib.hid (fun w => H.ntt (dlt 1) w (dlt_rng (by decide) (by decide)))
  have HI := Lib.hid (fun w => H.intt (ntt (dlt 1)) w (R16.of_low (ntt_low _)))
  rw [intt_ntt, rdc_dlt] at HI
  have HV := Lib.hid (fun w => H.validT (ntt (dlt 1)) w (ntt_low _))
  have HVF := Lib.hid (fun w => H.validF (dlt 3329) w (dlt_rng (by decide) (by decide)) 0 (by decide) (by decide))
  have HRE := Lib.hid (fun w => H.reduce (-1) w (by decide) (by decide))
  rw [show (-1 : Int) % 3329 = 3328 by decide] at HRE
  have hs1 := setP 1
  have hs3 := setP 3329
  have hb1 := builtP 1
  have heq := eqP (dlt 1) (dlt 1) fun _ _ => rfl
  have heg := egP
  have g0 : (arr .u16 256 (ntt (dlt 1)))[0]? = some (.int .u16 1) := by rw [arr_get .u16 256 _ 0 (by decide)]; exact congrArg (fun x => some (Value.int .u16 x)) (ntt_dlt 0 (by decide)).1
  have g1 : (arr .u16 256 (ntt (dlt 1)))[1]? = some (.int .u16 0) := by rw [arr_get .u16 256 _ 1 (by decide)]; exact congrArg (fun x => some (Value.int .u16 x)) (ntt_dlt 0 (by decide)).2
  have g254 : (arr .u16 256 (ntt (dlt 1)))[254]? = some (.int .u16 1) := by rw [arr_get .u16 256 _ 254 (by decide)]; exact congrArg (fun x => some (Value.int .u16 x)) (ntt_dlt 127 (by decide)).1
  have hi2 := infP (ntt (dlt 1))
  have HSN : Hid ((arr .u16 256 fun _ => 0).size = (arr .u16 256 (ntt (dlt 1))).size) := Lib.hid (by rw [arr_size, arr_size])
  have HON := Lib.hid (arr_one .u16 256 (ntt (dlt 1)))
  clear hrt H
  generalize arr .u16 256 (ntt (dlt 1)) = cN at *
  have hsz : (arr .u16 256 fun _ => 0).size = 256 := arr_size _ _ _
  generalize arr .u16 256 (dlt 1) = cD at *
  generalize arr .u16 256 (dlt 3329) = cB at *
  go_enter Try.func8, Try.ntmps8
  go_wp2_with fail
  refine (HR0.out w).mono ?_
  rintro e w1 ⟨rfl, hp⟩
  have H1 := Lib.hid hp
  clear hp
  go_wp2_with fail
  refine (HR1.out w1).mono ?_
  rintro e w2 ⟨rfl, hp⟩
  have H2 := Lib.hid (H1.out.trans' hp)
  clear hp
  go_wp2_with (refine wpList_build_oneP rfl 28 0 _ rfl _ rfl _ hb1 ?_)
  refine (HN.out w2).mono ?_
  rintro e w3 ⟨rfl, hp⟩
  obtain ⟨u, hu⟩ : ∃ u, w3.heap.size = u := ⟨_, rfl⟩
  have hz := zeroP
  have hfr := fresh_row w3 28 (arr .u16 256 fun _ => 0) cN
  have hr0 := Row.new w3 28 (arr .u16 256 fun _ => 0)
  have hsN : (arr .u16 256 fun _ => 0).size = cN.size := HSN.out
  have hoN := HON.out
  rw [hu] at hfr hr0
  generalize arr .u16 256 (fun _ => 0) = cz at *
  obtain ⟨w4, hw4⟩ : ∃ w', (w3.alloc (.cells cz 28)).setRow u cN = w' := ⟨_, rfl⟩
  rw [hw4] at hfr
  have hne : ¬ cz = #[] := by intro e; rw [e] at hsz; simp at hsz
  have hrow := hfr.1
  have H4 : Hid (Past w w4) := Lib.hid ((H2.out.trans' hp).trans' hfr.2)
  have HW4 := Lib.hid hw4
  have HU := Lib.hid hu
  clear hw4 hp H1 H2 hfr
  go_upto_region 4 with (refine wpList_store_row rfl 28 _ _ rfl u _ rfl rfl _ _ hr0 hi2 hsN hoN ?_)
  rw [HW4.out]
  clear HW4 HU hr0 hsN hoN hu
  have k0 : w4.cell? ⟨u, 0, none⟩ = some (.int .u16 1) := by rw [hrow.cell]; exact g0
  have k1 : w4.cell? ⟨u, 1, none⟩ = some (.int .u16 0) := by rw [hrow.cell]; exact g1
  have k254 : w4.cell? ⟨u, 254, none⟩ = some (.int .u16 1) := by rw [hrow.cell]; exact g254
  go_wp2_with (refine wpList_load_row_want (by kernel_rfl) 28 _ rfl u rfl _ _ _ _ hrow Try.underlying28 rfl hi2 ?_)
  refine (HI.out w4).mono ?_
  rintro e w5 ⟨rfl, hp⟩
  have H5 : Hid (Past w w5) := Lib.hid (H4.out.trans' hp)
  have hrow5 := hrow.past hp
  clear hp hrow k0 k1 k254
  go_wp2_with fail
  refine (HRE.out w5).mono ?_
  rintro e w6 ⟨rfl, rfl⟩
  go_wp2_with (refine wpList_load_row_want (by kernel_rfl) 28 _ rfl u rfl _ _ _ _ hrow5 Try.underlying28 rfl hi2 ?_)
  refine (HV.out w6).mono ?_
  rintro e w7 ⟨rfl, hp⟩
  have H7 := Lib.hid (H5.out.trans' hp)
  clear hp hrow5
  go_wp2_with fail
  refine (HVF.out w7).mono ?_
  rintro e w8 ⟨rfl, hp⟩
  have H8 := Lib.hid (H7.out.trans' hp)
  clear hp
  go_wp2_with fail
  go_ret
  exact ⟨rfl, H8.out⟩
end Go.Proofs.Ytmhhkhbdjkbklaa
