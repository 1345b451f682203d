/- The program's Bytes. -/
import Derived.Test.YtalhdalmafhofaaGreatDoorR15A
import Derived.Test.YtalhdalmafhofaaGreatDoorImp5A
import Derived.Test.YtalhdalmafhofaaGreatDoorP14
namespace Go.Proofs.YtalhdalmafhofaaGreatDoor
open Go.RowKit
set_option linter.unusedVariables false
set_option maxRecDepth 100000

/-- The coefficients modulo q, and their bytes. -/
def polL (f : Nat → Int) : List Int := (List.range 256).map fun i => f i % 3329
def bytesL (f : Nat → Int) : List Int := packs 12 (polL f) 384
theorem polL_len (f : Nat → Int) : (polL f).length = 256 := by simp [polL]
theorem polL_at (f : Nat → Int) (i : Nat) (h : i < 256) : (polL f).getD i 0 = f i % 3329 := by simp [polL, List.getD, h]
theorem polL_rng (f : Nat → Int) (i : Nat) : 0 ≤ (polL f).getD i 0 ∧ (polL f).getD i 0 < 3329 := by
  by_cases h : i < 256
  · rw [polL_at f i h]; omega
  · rw [List.getD_eq_getElem?_getD, List.getElem?_eq_none (by rw [polL_len]; omega)]
    exact ⟨Int.le_refl _, by decide⟩
theorem bytesL_len (f : Nat → Int) : (bytesL f).length = 384 := packs_len _ _ _
theorem runIndexP (f : Nat → Int) (j : Nat) (hj : j < 256) (w : World) : (Instr.index 30 (.agg (arr .u16 256 f)) (.int .i64 (j : Int))).run Tryz.prog w = .ok (.int .u16 (f j)) w := by
  obtain ⟨i, hi, hz⟩ : ∃ i, Tryz.prog.info? 28 = some i ∧ i.size = 1 := by
    cases hq : Tryz.prog.info? 28 with
    | none =>
      have : (Tryz.prog.info? 28).isSome = true := by kernel_rfl
      rw [hq] at this
      cases this
    | some i =>
      have : (Tryz.prog.info? 28).map (·.size) = some 1 := by kernel_rfl
      rw [hq] at this
      exact ⟨i, rfl, by simpa using this⟩
  exact run_index_cells w Tryz.underlying30 Tryz.underlying28 hi hz (j : Int) (by omega) (by omega) (arr_get .u16 256 f j hj)
theorem made32 (n : Nat) : madeCells #[.int .u32 0] n = arr .u32 n fun _ => 0 := by
  refine arr_of _ (size_madeCells _ _) fun i hi => ?_
  simp [madeCells, hi, Nat.mod_one]
theorem LM.slK {k : IntKind} {w : World} {g : Nat} {t : TypeId} {n : Nat} {f : Nat → Int} (h : LM k w g t n f) (ls : List Int) (hl : ls.length = n) (hx : ∀ i, i < n → ls.getD i 0 = f i) (hb : n ≤ maxLen) : SlK k w (some ⟨g, 0, none⟩) n n ls :=
  ⟨hl, Nat.le_refl _, hb, fun _ => ⟨g, 0, rfl, fun i hi => by rw [Nat.zero_add, h.at i hi, hx i hi]⟩, fun e => by cases e⟩
set_option maxHeartbeats 2000000 in
theorem kbytes_any (f : Nat → Int) (hf : R16 f) (w : World) : Calls Tryz.prog 41 #[.agg (arr .u16 256 f)] w fun e w' => ∃ A n c, e = .returned (.slice A n c) ∧ Sl w' A n c (bytesL f) ∧ Past w w' := by
  obtain ⟨g, hg⟩ : ∃ g, w.heap.size = g := ⟨_, rfl⟩
  obtain ⟨cs, hcs⟩ : ∃ x, arr .u16 256 f = x := ⟨_, rfl⟩
  obtain ⟨w1, hw1⟩ : ∃ W, w.alloc (.cells cs 30) = W := ⟨_, rfl⟩
  have hp1 : Past w w1 := by rw [← hw1]; exact (Below.refl _ _).alloc (Nat.le_refl _) _
  have hr1 : Row w1 g 30 cs := by rw [← hw1, ← hg]; exact Row.new _ _ _
  have hs1 : w1.heap.size = g + 1 := by rw [← hw1, World.size_alloc, hg]
  have hmk := make32 256 (by decide) w1
  rw [made32] at hmk
  obtain ⟨C0, hC0⟩ : ∃ x, arr .u32 256 (fun _ => (0 : Int)) = x := ⟨_, rfl⟩
  rw [hC0, hs1] at hmk
  obtain ⟨g2, hg2⟩ : ∃ g2, g + 1 = g2 := ⟨_, rfl⟩
  rw [hg2] at hmk
  obtain ⟨w2, hw2⟩ : ∃ W, w1.alloc (.cells C0 22) = W := ⟨_, rfl⟩
  have H0 : Hid (Fx [(g, 30, cs)] .u32 256 w w2 g2 22 fun _ => 0) := Lib.hid (by
    have r2 := Row.new w1 22 C0
    rw [hs1, hg2, hw2] at r2
    refine ⟨by rw [← hw2]; exact hp1.alloc hp1.size _, ?_, by unfold LM; rw [hC0]; exact r2⟩
    intro x hx
    rcases List.mem_cons.1 hx with rfl | hx
    · rw [← hw2]; exact hr1.alloc _
    · cases hx)
  have HMK : Hid ((Instr.makeSlice 44 (.int .i64 256) (.int .i64 256)).run Tryz.prog w1 = .ok (.slice (some ⟨g2, 0, none⟩) 256 256) (w1.alloc (.cells C0 22))) := Lib.hid hmk
  have HI1 : Hid ((Tryz.prog.info? 30).map (·.size) = some cs.size) := Lib.hid (by rw [← hcs]; exact infP f)
  have HGE : Hid (w.heap.size = g ∧ g < g2) := Lib.hid ⟨hg, by omega⟩
  have HIX : Hid (∀ j : Nat, j < 256 → ∀ w : World, (Instr.index 30 (.agg cs) (.int .i64 (j : Int))).run Tryz.prog w = .ok (.int .u16 (f j)) w) := Lib.hid (fun j hj w => by rw [← hcs]; exact runIndexP f j hj w)
  have HF := Lib.hid hf
  have HW1 := Lib.hid hw1
  have HW2 := Lib.hid hw2
  clear hp1 hr1 hs1 hmk hC0 hg2 hw1 hw2 hf
  rw [hcs]
  clear hcs
  go_enter Tryz.func41, Tryz.ntmps41
  go_upto_region 1 with (fail)
  rw [HW1.out]
  try rw [hg]
  have hmk := HMK.out
  clear hg
  go_upto_region 2 with (fail)
  clear hmk
  rw [HW2.out]
  have hr2 := H0.out.2.1 (g, 30, cs) (by simp)
  simp only at hr2
  have hi1 := HI1.out
  go_wp2_with (refine wpList_load_row rfl 30 _ rfl g rfl _ _ (0, 0) _ hr2 Tryz.underlying30 rfl hi1 ?_)
  clear hr2 hi1
  go_loopg [4, 5, 10] 256 (fun q s4 s5 s10 wx => ∃ i : Nat, i ≤ 256 ∧ q = 256 - i ∧ s10 = .int .i64 (i : Int) ∧ Hid (∃ F, Fx [(g, 30, cs)] .u32 256 w wx g2 22 F ∧ ∀ j, j < i → F j = f j % 3329))
  case atStart => exact ⟨0, Nat.zero_le _, rfl, rfl, Lib.hid ⟨_, H0.out, fun j hj => absurd hj (Nat.not_lt_zero _)⟩⟩
  case round =>
    clear H0
    obtain ⟨i, hi, hq, rfl, HQ⟩ := hrel
    have HGQ := Lib.hid hq
    clear hq
    have hi0 : (0 : Int) ≤ (i : Int) := by omega
    by_cases hlt : i < 256
    · have hii : (i : Int) < 256 := by omega
      have HLT := Lib.hid hlt
      have HII := Lib.hid (And.intro hi0 hii)
      have hix := HIX.out i hlt
      obtain ⟨p0, p1⟩ := HF.out i
      obtain ⟨p, hp⟩ : ∃ p, f i = p := ⟨_, rfl⟩
      rw [hp] at hix p0 p1
      obtain ⟨q, hqq⟩ : ∃ q, p % 3329 = q := ⟨_, rfl⟩
      have HRE := Lib.hid (fun w => reduce_any p w (by omega) (by omega))
      rw [hqq] at HRE
      have HWP : Hid (IntKind.i64.wrap p = p) := Lib.hid (by rw [IntKind.wrap_i64]; omega)
      have HWQ : Hid (IntKind.u32.wrap q = q) := Lib.hid (by rw [IntKind.wrap_u32]; omega)
      obtain ⟨F, hT, hFF⟩ := HQ.out
      have hT0 := hT
      have HC9 : Hid (wr.cell? ⟨g2, i, none⟩ = some (.int .u32 (F i)) ∧ wr.frozen? ⟨g2, i, none⟩ = false) := Lib.hid ⟨hT0.2.2.at i hlt, hT0.2.2.fr i⟩
      have hT1 := hT0.put (by have := HGE.out; omega) (by intro x hx; have := HGE.out; simp at hx; rcases hx with rfl; simp; omega) i hlt q
      have HT := Lib.hid (show ∃ F', Fx _ _ _ _ _ _ _ F' ∧ ∀ j, j < i + 1 → F' j = f j % 3329 from ⟨_, hT1, fun j hj => by
        by_cases k1 : j = i
        · subst k1
          rw [upd_at, hp, hqq]
        · rw [upd_ne _ _ k1]
          exact hFF j (by omega)⟩)
      clear hT hT0 hT1 hFF hlt hi hp hqq p0 p1 HQ
      obtain ⟨hc9, hf9⟩ := HC9.out
      have hwp := HWP.out
      have hwq := HWQ.out
      go_wp2_with fail
      refine (HRE.out wr).mono ?_
      rintro e9 w9 ⟨rfl, hw9⟩
      rw [hw9]
      clear hw9
      go_wp2_with fail
      go_roundg (256 - (i + 1))
      case rel => exact ⟨i + 1, HLT.out, rfl, by go_num, HT⟩
      case measure => have := HGQ.out; have := HLT.out; omega
    · obtain rfl : i = 256 := by omega
      obtain ⟨F, hT, hFF⟩ := HQ.out
      have hSL := hT.2.2.slK (polL f) (polL_len f) (fun j hj => by rw [polL_at f j hj, hFF j hj]) (by unfold maxLen; omega)
      have HPK := Lib.hid (ppack_any 12 _ 256 256 (polL f) wr hSL (fun j => by have := polL_rng f j; omega) (by decide))
      rw [pack12 (polL f) 128 (polL_len f) (fun j _ => by have := polL_rng f j; omega)] at HPK
      have HPW := Lib.hid hT.1
      clear hT hFF hSL HQ
      go_wp2_with fail
      refine HPK.out.mono ?_
      rintro e w5 ⟨A, n, c, rfl, hS5, hp5⟩
      have HS5 := Lib.hid hS5
      have HP5 := Lib.hid (HPW.out.trans' hp5)
      clear hS5 hp5
      go_wp2_with fail
      go_ret
      exact ⟨A, n, c, rfl, HS5.out, HP5.out⟩
end Go.Proofs.YtalhdalmafhofaaGreatDoor
