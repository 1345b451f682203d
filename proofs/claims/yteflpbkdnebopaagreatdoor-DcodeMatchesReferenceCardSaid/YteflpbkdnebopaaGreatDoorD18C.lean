/- The program's Unpack, and the methods of packing. -/
import Derived.Test.YteflpbkdnebopaaGreatDoorD18B
namespace Go.Proofs.YteflpbkdnebopaaGreatDoor
open Go.RowKit
set_option linter.unusedVariables false
set_option maxRecDepth 100000

/-- Arrays as lists of cells. -/
def lst (f : Nat → Int) : List Value := (List.range 256).map fun i => Value.int .u32 (f i)
theorem arr_lst (f : Nat → Int) : arr .u32 256 f = (lst f).toArray := rfl
theorem lst_len (f : Nat → Int) : (lst f).length = 256 := by unfold lst; simp
theorem lst_at (f : Nat → Int) (j : Nat) (v : Value) (h : (lst f)[j]? = some v) : j < 256 ∧ v = .int .u32 (f j) := by
  have hj : j < (lst f).length := (List.getElem?_eq_some_iff.1 h).1
  rw [lst_len] at hj
  refine ⟨hj, ?_⟩
  unfold lst at h
  simp [hj] at h
  exact h.symm
theorem inf_lst (f : Nat → Int) : (Tryz.prog.info? 57).map (·.size) = some (lst f).length := by rw [lst_len]; kernel_rfl
theorem lst_congr {f g : Nat → Int} (h : ∀ j, j < 256 → f j = g j) : lst f = lst g := by
  unfold lst
  exact List.map_congr_left fun i hi => by rw [h i (List.mem_range.1 hi)]
set_option maxHeartbeats 4000000 in
theorem punpack18_any (D : Nat) (d1 : 1 ≤ D) (d2 : D ≤ 32) (top : Int) (t0 : 0 ≤ top) (t1 : top < 4294967296) (A : Option Addr) (L c : Nat) (xs : List Int) (w : World) (hS : Sl w A L c xs) (hL : L ≤ 10000) :
    Calls Tryz.prog 22 #[.slice A L c, .int .u32 top, .int .i64 (D : Int)] w fun e w' => e = .returned (.tuple #[.agg (arr .u32 256 (unpF D top xs)), .bool (decide (xs.length = 32 * D))]) ∧ Past w w' := by
  obtain ⟨g, hg⟩ : ∃ g, w.heap.size = g := ⟨_, rfl⟩
  obtain ⟨w0, hw0⟩ : ∃ W, w.alloc (.cells (arr .u32 256 fun _ => 0) 57) = W := ⟨_, rfl⟩
  have hp0 : Past w w0 := by rw [← hw0]; exact (Below.refl _ _).alloc (Nat.le_refl _) _
  have HR0 : Hid (Row w0 g 57 (arr .u32 256 fun _ => 0)) := Lib.hid (by rw [← hw0, ← hg]; exact Row.new _ _ _)
  have HP0 := Lib.hid hp0
  have HU := Lib.hid (punpack_any (D : Int) 256 A L c xs w0 (hS.past hp0) hL)
  rw [unpackW D d1 d2 xs] at HU
  have HW0 := Lib.hid hw0
  have HGS : Hid (w.heap.size ≤ g) := Lib.hid (by omega)
  have HB := Lib.hid (fun w (h : R32 (nW D xs)) => below_any top t0 t1 (nW D xs) h w)
  have HZ := Lib.hid zeroP
  have HI0 := Lib.hid (infP fun _ => 0)
  have HO0 := Lib.hid (arr_one .u32 256 fun _ => 0)
  have HR32 : Hid (R32 (nW D xs)) := Lib.hid (fun j => by
    have h := nW_rng D xs j
    have h2 := pow_le2 d2
    omega)
  obtain ⟨zs, hzs⟩ : ∃ zs, arr .u32 256 (fun _ => (0 : Int)) = zs := ⟨_, rfl⟩
  have HZS := Lib.hid hzs
  rw [hzs] at HZ HI0 HO0
  clear hw0 hS hL d1 d2 t0 t1 hzs hp0
  go_enter Tryz.func22, Tryz.ntmps22
  have hz := HZ.out
  go_upto_region 1 with (fail)
  rw [← HZS.out, HW0.out]
  try rw [hg]
  clear HW0 hg hz
  go_wp2_with fail
  refine HU.out.mono ?_
  intro e w1 h
  clear HU
  by_cases hl : xs.length = 32 * D
  · rw [if_pos hl] at h
    obtain ⟨A2, n2, c2, rfl, hS2, hp2⟩ := h
    have hn2 := hS2.len
    rw [nums_len] at hn2
    subst hn2
    have hb2 := hS2.cap
    obtain ⟨b2, o2, rfl, hc2⟩ := hS2.cells (by decide)
    have hrg : w1.rangeAt b2 o2 (lst (nW D xs)) := fun j v hj => by
      obtain ⟨h1, rfl⟩ := lst_at _ _ _ hj
      rw [hc2 j h1, numsW D xs 256 j h1]
    have hr1 := HR0.out.past hp2
    have HP1 := Lib.hid (HP0.out.trans' hp2)
    have hBC := HB.out
    have HE : Hid (unpF D top xs = fun j => blw top (nW D xs j)) := Lib.hid (by unfold unpF; rw [if_pos hl]; rfl)
    have HDC : Hid (decide (xs.length = 32 * D) = true) := Lib.hid (decide_eq_true hl)
    have hil := inf_lst (nW D xs)
    have HBB := Lib.hid (fun w => HB.out w HR32.out)
    rw [arr_lst] at HBB
    have hAR := fun w => run_arrayAt (P := Tryz.prog) w 57 22 256 (some ⟨b2, o2, none⟩) 256 c2 Tryz.underlying57 (Nat.le_refl _)
    have hi2 := infP (fun j => blw top (nW D xs j))
    have ho2 := arr_one .u32 256 (fun j => blw top (nW D xs j))
    have hs2 : (arr .u32 256 fun _ => (0 : Int)).size = (arr .u32 256 (fun j => blw top (nW D xs j))).size := by rw [arr_size, arr_size]
    have HR1 := Lib.hid hr1
    clear hS2 hc2 hp2 hl hb2 hBC HB hr1
    generalize lst (nW D xs) = lN at *
    generalize hcn : arr .u32 256 (fun j => blw top (nW D xs j)) = cN at *
    have HCN := Lib.hid hcn
    clear hcn
    go_wp2_with (refine wpList_load_mid rfl 57 _ rfl b2 o2 rfl lN _ hrg Tryz.underlying57 rfl hil ?_)
    refine (HBB.out w1).mono ?_
    rintro e w2 ⟨rfl, hp2⟩
    have hr2 := HR1.out.past hp2
    have HP2 := Lib.hid (HP1.out.trans' hp2)
    clear hp2 hAR hrg
    go_wp2_with (refine wpList_store_row rfl 57 _ _ rfl g _ rfl rfl _ _ hr2 hi2 hs2 ho2 ?_)
    refine bodyPost_ret (results_cr rfl _ _ ⟨g, 0, none⟩ _ rfl (load_poly _ g _ (setRow_heap _ g _ _ _ _ hr2) hi2)) (by rfl) ?_
    exact ⟨by rw [HE.out, HDC.out, HCN.out]; rfl, below_setRow HP2.out HGS.out _⟩
  · rw [if_neg hl] at h
    obtain ⟨rfl, hp2⟩ := h
    have hr1 := HR0.out.past hp2
    have HP1 := Lib.hid (HP0.out.trans' hp2)
    have HE : Hid (arr .u32 256 (unpF D top xs) = zs) := Lib.hid (by unfold unpF; rw [if_neg hl]; exact HZS.out)
    have HDC : Hid (decide (xs.length = 32 * D) = false) := Lib.hid (decide_eq_false hl)
    rw [HZS.out] at hr1
    have hi2 := HI0.out
    have ho2 := HO0.out
    have hz := HZ.out
    clear hl hp2
    go_wp2_with (refine wpList_store_row rfl 57 _ _ rfl g _ rfl rfl _ _ hr1 hi2 (by rfl) ho2 ?_)
    refine bodyPost_ret (results_cr rfl _ _ ⟨g, 0, none⟩ _ rfl (load_poly _ g _ (setRow_heap _ g _ _ _ _ hr1) hi2)) (by rfl) ?_
    exact ⟨by rw [HE.out, HDC.out]; rfl, below_setRow HP1.out HGS.out _⟩
/-- A packing in memory. -/
def pkV (e D : Int) : Array Value := #[.int .u32 e, .int .i64 D]
theorem infK (e D : Int) : (Tryz.prog.info? 85).map (·.size) = some (pkV e D).size := by
  have h : (Tryz.prog.info? 85).map (·.size) = some 2 := by kernel_rfl
  exact h
theorem pksize_any (e D : Int) (w : World) : Calls Tryz.prog 38 #[.agg (pkV e D)] w fun r w' => r = .returned (.int .i64 (sizeI D 256)) ∧ Past w w' := by
  have HS := Lib.hid (fun w => psize_any D 256 w)
  obtain ⟨g, hg⟩ : ∃ g, w.heap.size = g := ⟨_, rfl⟩
  obtain ⟨w1, hw1⟩ : ∃ W, w.alloc (.cells (pkV e D) 85) = W := ⟨_, rfl⟩
  have HP1 : Hid (Past w w1) := Lib.hid (by rw [← hw1]; exact (Below.refl _ _).alloc (Nat.le_refl _) _)
  have hr1 : Row w1 g 85 (pkV e D) := by rw [← hw1, ← hg]; exact Row.new _ _ _
  have k1 : w1.cell? ⟨g, 1, none⟩ = some (.int .i64 D) := by rw [hr1.cell]; rfl
  have HW1 := Lib.hid hw1
  clear hw1 hr1
  generalize sizeI D 256 = z at *
  generalize pkV e D = cs at *
  go_enter Tryz.func38, Tryz.ntmps38
  go_upto_region 1 with (fail)
  rw [HW1.out]
  try rw [hg]
  clear HW1 hg
  go_wp2_with fail
  refine (HS.out w1).mono ?_
  rintro r w2 ⟨rfl, rfl⟩
  go_wp2_with fail
  go_ret
  exact ⟨rfl, HP1.out⟩
theorem packS_any (a : Int) (ha : a = 4 ∨ a = 5 ∨ a = 6) (w : World) : Calls Tryz.prog 42 #[.int .i64 (eD a : Int)] w fun r w' => r = .returned (.agg (pkV (eD a : Int) (wD a : Int))) ∧ Past w w' := by
  have h : ((eD a : Int) = 2 ∧ (wD a : Int) = 3) ∨ ((eD a : Int) = 4 ∧ (wD a : Int) = 4) := by
    rcases ha with rfl | rfl | rfl
    · exact .inl ⟨rfl, rfl⟩
    · exact .inr ⟨rfl, rfl⟩
    · exact .inl ⟨rfl, rfl⟩
  rcases h with ⟨h1, h2⟩ | ⟨h1, h2⟩
  · rw [h1, h2]
    clear h1 h2
    go_enter Tryz.func42, Tryz.ntmps42
    go_wp2_with fail
    go_returns
    exact ⟨rfl, ((Below.refl _ _).alloc (Nat.le_refl _) _).alloc (by simp) _⟩
  · rw [h1, h2]
    clear h1 h2
    go_enter Tryz.func42, Tryz.ntmps42
    go_wp2_with fail
    go_returns
    exact ⟨rfl, ((Below.refl _ _).alloc (Nat.le_refl _) _).alloc (by simp) _⟩
theorem packT0_any (w : World) : Calls Tryz.prog 43 #[] w fun r w' => r = .returned (.agg (pkV 4096 13)) ∧ Past w w' := by
  go_enter Tryz.func43, Tryz.ntmps43
  go_wp2_with fail
  go_returns
  exact ⟨rfl, (Below.refl _ _).alloc (Nat.le_refl _) _⟩
end Go.Proofs.YteflpbkdnebopaaGreatDoor
