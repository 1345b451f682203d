/- The program's Pack and Unpack (package dcode). -/
import Derived.Test.YteflpbkdnebopaaGreatDoorD18A
import Derived.Laws.Cover3
namespace Go.Proofs.YteflpbkdnebopaaGreatDoor
open Go.RowKit
set_option linter.unusedVariables false
set_option maxRecDepth 100000

/-- The numbers below a top, as a list. -/
def blL (top : Int) (f : Nat → Int) : List Int := (List.range 256).map fun i => blw top (f i)
theorem blL_len (top : Int) (f : Nat → Int) : (blL top f).length = 256 := by simp [blL]
theorem blL_at (top : Int) (f : Nat → Int) (i : Nat) (h : i < 256) : (blL top f).getD i 0 = blw top (f i) := by simp [blL, List.getD, h]
theorem blL_rng (top : Int) (f : Nat → Int) (i : Nat) : 0 ≤ (blL top f).getD i 0 ∧ (blL top f).getD i 0 < 4294967296 := by
  by_cases h : i < 256
  · rw [blL_at _ _ i h]
    have := blw_rng top (f i)
    omega
  · rw [List.getD_eq_getElem?_getD, List.getElem?_eq_none (by rw [blL_len]; omega)]
    exact ⟨Int.le_refl _, by decide⟩
/-- A whole array as a slice. -/
theorem sliceAll (g : Nat) (w : World) : (Instr.sliceAt 57 (.pointer (some ⟨g, 0, none⟩)) none none none).run Tryz.prog w = .ok (.slice (some ⟨g, 0, none⟩) 256 256) w := by
  have hl : Tryz.prog.arrayLen 57 = 256 := by kernel_rfl
  rw [run_sliceAt_array_all w 57 ⟨g, 0, none⟩ Tryz.underlying57]
  have hs : (sizeOf (Tryz.prog.elem 57)).run Tryz.prog w = .ok 1 w := by kernel_rfl
  simp only [hs, Result.andThen, slicedAt, hl]
  simp [add_none]
theorem load_poly (w : World) (g : Nat) (cs : Array Value) (hg : w.heap[g]? = some (.cells cs 57)) (h : (Tryz.prog.info? 57).map (·.size) = some cs.size) : (loadVar 57 ⟨g, 0, none⟩).run Tryz.prog w = .ok (.agg cs) w :=
  run_loadVar_row w g 57 57 cs (0, 0) _ hg Tryz.underlying57 rfl h
theorem ROpt.past {o : Option (List Int)} {w0 w w' : World} {e : Ending} (hp : Past w0 w) (h : ROpt o w e w') : ROpt o w0 e w' := by
  cases o with
  | none => exact ⟨h.1, hp.trans' h.2⟩
  | some xs =>
    obtain ⟨A, n, c, h1, h2, h3⟩ := h
    exact ⟨A, n, c, h1, h2, hp.trans' h3⟩
theorem ROpt.any {o : Option (List Int)} {w : World} {e : Ending} {w' : World} (h : ROpt o w e w') :
    ∃ A c, e = .returned (.tuple #[.slice A (o.getD []).length c, .bool o.isSome]) ∧ Sl w' A (o.getD []).length c (o.getD []) ∧ Past w w' ∧ (o = none → A = none ∧ c = 0) := by
  cases o with
  | none => exact ⟨none, 0, h.1, Sl.nil _, h.2, fun _ => ⟨rfl, rfl⟩⟩
  | some xs =>
    obtain ⟨A, n, c, h1, h2, h3⟩ := h
    have := h2.len
    subst this
    exact ⟨A, c, h1, h2, h3, fun e => by cases e⟩
theorem ROpt.mk {o : Option (List Int)} {w w' : World} {A : Option Addr} {c : Nat} (h1 : Sl w' A (o.getD []).length c (o.getD [])) (h2 : Past w w') (h3 : o = none → A = none ∧ c = 0) : ROpt o w (.returned (.tuple #[.slice A (o.getD []).length c, .bool o.isSome])) w' := by
  cases o with
  | none =>
    obtain ⟨rfl, rfl⟩ := h3 rfl
    exact ⟨rfl, h2⟩
  | some xs => exact ⟨A, _, c, rfl, h1, h2⟩
set_option maxHeartbeats 4000000 in
theorem pack18_any (f : Nat → Int) (hf : R32 f) (top d : Int) (h0 : 0 ≤ top) (h1 : top < 4294967296) (w : World) :
    Calls Tryz.prog 24 #[.agg (arr .u32 256 f), .int .u32 top, .int .i64 d] w (ROpt (rpack d (blL top f)) w) := by
  have hif := infP f
  have HB := Lib.hid (fun w => below_any top h0 h1 f hf w)
  have HPK := Lib.hid (fun A (w' : World) (h : SlK .u32 w' A 256 256 (blL top f)) => ppack_any d A 256 256 (blL top f) w' h (blL_rng top f) (by decide))
  have HSL := Lib.hid (fun (w' : World) g (h : LM .u32 w' g 57 256 fun j => blw top (f j)) => LM.slK h (blL top f) (blL_len _ _) (fun i hi => blL_at _ _ i hi) (by unfold maxLen; omega))
  have hcr : arr .u32 256 (fun j => blw top (f j)) = arr .u32 256 (fun j => blw top (f j)) := rfl
  obtain ⟨g, hg⟩ : ∃ g, w.heap.size = g := ⟨_, rfl⟩
  obtain ⟨w1, hw1⟩ : ∃ W, w.alloc (.cells (arr .u32 256 f) 57) = W := ⟨_, rfl⟩
  have HP1 : Hid (Past w w1) := Lib.hid (by rw [← hw1]; exact (Below.refl _ _).alloc (Nat.le_refl _) _)
  have hr1 : Row w1 g 57 (arr .u32 256 f) := by rw [← hw1, ← hg]; exact Row.new _ _ _
  have HW1 := Lib.hid hw1
  clear hf hw1 hcr
  generalize arr .u32 256 f = cs at *
  go_enter Tryz.func24, Tryz.ntmps24
  go_upto_region 1 with (fail)
  rw [HW1.out]
  try rw [hg]
  clear HW1 hg
  go_wp2_with (refine wpList_load_row rfl 57 _ rfl g rfl _ _ (0, 0) _ hr1 Tryz.underlying57 rfl hif ?_)
  refine (HB.out w1).mono ?_
  rintro e w2 ⟨rfl, hp2⟩
  have HP2 := Lib.hid (HP1.out.trans' hp2)
  have hz := zeroP
  have hrz : Row (w2.alloc (.cells (arr .u32 256 fun _ => 0) 57)) w2.heap.size 57 (arr .u32 256 fun _ => 0) := Row.new _ _ _
  have hsz : (arr .u32 256 fun _ => 0).size = (arr .u32 256 (fun j => blw top (f j))).size := by rw [arr_size, arr_size]
  have ho2 := arr_one .u32 256 (fun j => blw top (f j))
  have hi2 := infP (fun j => blw top (f j))
  obtain ⟨u, hu⟩ : ∃ u, w2.heap.size = u := ⟨_, rfl⟩
  rw [hu] at hrz
  obtain ⟨w3, hw3⟩ : ∃ W, (w2.alloc (.cells (arr .u32 256 fun _ => 0) 57)).setRow u (arr .u32 256 (fun j => blw top (f j))) = W := ⟨_, rfl⟩
  have HP3 : Hid (Past w w3) := Lib.hid (by rw [← hw3]; exact below_setRow (HP2.out.alloc HP2.out.size _) (by rw [← hu]; exact HP2.out.size) _)
  have hr3 : Row w3 u 57 (arr .u32 256 (fun j => blw top (f j))) := by rw [← hw3]; exact setRow_heap _ u _ _ _ _ hrz
  have HS3 := Lib.hid (HSL.out w3 u hr3)
  have HC3 := Lib.hid (HPK.out _ w3 HS3.out)
  have HW3 := Lib.hid hw3
  clear hp2 hw3 hr1 hif hr3 HB HSL HPK
  generalize arr .u32 256 (fun j => blw top (f j)) = c2 at *
  generalize arr .u32 256 (fun _ => 0) = c0 at *
  go_upto_region 2 with (first | (refine wpList_store_row rfl 57 _ _ rfl u _ rfl rfl _ _ hrz hi2 hsz ho2 ?_) | fail)
  rw [HW3.out]
  try rw [hu]
  clear HW3 hu hz hrz
  have hsa := sliceAll u w3
  go_wp2_with fail
  refine HC3.out.mono ?_
  intro e w4 h
  obtain ⟨A, c, rfl, h2, h3, h4⟩ := h.any
  have HE := Lib.hid (ROpt.mk h2 (HP3.out.trans' h3) h4)
  clear h h2 h3 h4 HC3 HS3
  generalize (rpack d (blL top f)).getD [] = L at *
  go_wp2_with fail
  go_ret2
  exact HE.out
end Go.Proofs.YteflpbkdnebopaaGreatDoor
