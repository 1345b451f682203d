/- The program's tables of constants and offsets. -/
import Derived.Test.YtalhdalmafhofaaGreatDoorRef6F
namespace Go.Proofs.YtalhdalmafhofaaGreatDoor
set_option maxRecDepth 100000
open Go.RowKit

/-- Two blocks of a call's own: the result, and the table. -/
def Two (k : IntKind) (n : Nat) (w wx : World) (g : Nat) (t : TypeId) (c1 : Array Value) (f : Nat → Int) : Prop :=
  Past w wx ∧ Row wx g t c1 ∧ LM k wx (g + 1) t n f
theorem Two.new (k : IntKind) (n : Nat) (w : World) (t : TypeId) (c1 : Array Value) (f : Nat → Int) :
    Two k n w ((w.alloc (.cells c1 t)).alloc (.cells (arr k n f) t)) w.heap.size t c1 f := by
  refine ⟨((Below.refl _ _).alloc (Nat.le_refl _) _).alloc (by simp) _, (Row.new w t c1).alloc _, ?_⟩
  have := Row.new (w.alloc (.cells c1 t)) t (arr k n f)
  simpa using this
theorem Two.put {k : IntKind} {n : Nat} {w wx : World} {t : TypeId} {c1 : Array Value} {f : Nat → Int} {g : Nat} (h : Two k n w wx g t c1 f) (hg : w.heap.size ≤ g) (i : Nat) (hi : i < n) (v : Int) :
    Two k n w (wx.setCell ⟨g + 1, i, none⟩ (.int k v)) g t c1 (upd f i v) :=
  ⟨h.1.set (by show _ ≤ g + 1; omega) _, h.2.1.setOther (by omega) _ _, h.2.2.put i hi v⟩
theorem Two.drewN {k : IntKind} {n : Nat} {w wx : World} {t : TypeId} {c1 : Array Value} {f : Nat → Int} {g : Nat} (h : Two k n w wx g t c1 f) (m : Nat) : Two k n w (wx.drewN m) g t c1 f := ⟨h.1.drewN m, h.2.1, h.2.2⟩
theorem Two.same {k : IntKind} {n : Nat} {w wx : World} {t : TypeId} {c1 : Array Value} {f f' : Nat → Int} {g : Nat} (h : Two k n w wx g t c1 f) (he : ∀ i, i < n → f i = f' i) : Two k n w wx g t c1 f' := ⟨h.1, h.2.1, h.2.2.same he⟩

set_option maxHeartbeats 1000000 in
theorem index_any (x y : Int) (n : Nat) (w : World) (hx0 : 0 ≤ x) (hx1 : x ≤ 1000) (hy0 : 0 ≤ y) (hy1 : y ≤ 1000) (h : x % 5 + y % 5 * 5 = (n : Int)) :
    Calls Tryz.prog 84 #[.int .i64 x, .int .i64 y] w fun e w' => e = .returned (.int .i64 (n : Int)) ∧ w = w' := by
  have H := Lib.hid h
  clear h
  go_enter Tryz.func84, Tryz.ntmps84
  go_wp2
  go_ret
  exact ⟨congrArg (fun z => Ending.returned (Value.int .i64 z)) H.out, rfl⟩

def pstep (s : Nat × List Nat) (t : Nat) : Nat × List Nat :=
  (if 256 ≤ 2 * s.1 then (2 * s.1) ^^^ 369 else 2 * s.1, s.2.set (t / 7) (s.2.getD (t / 7) 0 ||| ((s.1 &&& 1) <<< (2 ^ (t % 7) - 1))))
def pS (n : Nat) : Nat × List Nat := (List.range n).foldl pstep (1, List.replicate 24 0)
theorem pS_succ (n : Nat) : pS (n + 1) = pstep (pS n) n := by simp [pS, List.range_succ]
theorem pS_ok : ∀ t : Fin 168, (pS t.val).1 < 256 ∧ (pS t.val).2.length = 24 := by decide +kernel
theorem pS_all : (pS 168).2 = rcs := by decide +kernel
theorem pS_val : ∀ t : Fin 168, bits .or .u64 (((pS t.val).2.getD (t.val / 7) 0 : Nat) : Int) (IntKind.u64.wrap (bits .and .u64 (((pS t.val).1 : Nat) : Int) 1 * 2 ^ min (IntKind.u64.wrap (IntKind.u64.wrap (2 ^ (t.val % 7)) - 1)).toNat 64)) =
    (((pS t.val).2.getD (t.val / 7) 0 ||| (((pS t.val).1 &&& 1) <<< (2 ^ (t.val % 7) - 1)) : Nat) : Int) := by decide +kernel
theorem x369u : ∀ r : Fin 256, bits .xor .u64 ((r.val : Int) * 2) 369 = (((2 * r.val) ^^^ 369 : Nat) : Int) := by decide +kernel
theorem list_set_at {s : List Nat} {i : Nat} (hi : i < s.length) (v j : Nat) : upd (fun j => ((s.getD j 0 : Nat) : Int)) i (v : Int) j = (((s.set i v).getD j 0 : Nat) : Int) := by
  by_cases e : j = i
  · subst e
    rw [upd_at, List.getD_eq_getElem?_getD, List.getElem?_set_self hi]
    rfl
  · rw [upd_ne _ _ e, List.getD_eq_getElem?_getD, List.getD_eq_getElem?_getD, List.getElem?_set_ne (by omega)]

set_option maxHeartbeats 1000000 in
set_option maxRecDepth 100000 in
theorem pconstants_any (w : World) : Calls Tryz.prog 72 #[] w fun e w' => e = .returned (.agg (arr .u64 24 rcF)) ∧ Past w w' := by
  have H0 := Lib.hid (Two.new .u64 24 w 122 (arr .u64 24 fun _ => 0) fun _ => 0)
  go_enter Tryz.func72, Tryz.ntmps72
  go_wp2_with fail
  rw [arr_zero24]
  generalize (w.alloc (.cells (arr .u64 24 fun _ => 0) 122)).alloc (.cells (arr .u64 24 fun _ => 0) 122) = w3 at *
  obtain ⟨g, hg⟩ : ∃ g, w.heap.size = g := ⟨_, rfl⟩
  have hge : w.heap.size ≤ g := by omega
  rw [hg] at H0 ⊢
  clear hg
  go_loopg [2, 5] 24 (fun k s2 s5 wx => ∃ i : Nat, i ≤ 24 ∧ k = 24 - i ∧ s2 = .int .u64 (((pS (7 * i)).1 : Nat) : Int) ∧ s5 = .int .i64 (i : Int) ∧ Hid (Two .u64 24 w wx g 122 (arr .u64 24 fun _ => 0) fun j => (((pS (7 * i)).2.getD j 0 : Nat) : Int)))
  case atStart =>
    refine ⟨0, Nat.zero_le _, rfl, rfl, rfl, Lib.hid (H0.out.same fun j hj => ?_)⟩
    have h0 : (pS (7 * 0)).2 = List.replicate 24 0 := rfl
    rw [h0, List.getD_eq_getElem?_getD, List.getElem?_replicate, if_pos hj]
    rfl
  case round =>
    clear H0
    obtain ⟨i, hi, hgk, rfl, rfl, HQ⟩ := hrel
    have HGK := Lib.hid hgk
    clear hgk
    by_cases hlt : i < 24
    · have hii : (i : Int) < 24 := by omega
      go_wp2_with fail
      go_loopg [2, 8] 7 (fun k s2 s8 wx => ∃ j : Nat, j ≤ 7 ∧ k = 7 - j ∧ s2 = .int .u64 (((pS (7 * i + j)).1 : Nat) : Int) ∧ s8 = .int .i64 (j : Int) ∧ Hid (Two .u64 24 w wx g 122 (arr .u64 24 fun _ => 0) fun j' => (((pS (7 * i + j)).2.getD j' 0 : Nat) : Int)))
      case atStart => exact ⟨0, Nat.zero_le _, rfl, rfl, rfl, HQ⟩
      case round =>
        clear HQ
        obtain ⟨j, hj, hgk, rfl, rfl, HQ⟩ := hrel
        have HGK2 := Lib.hid hgk
        clear hgk
        by_cases hlt2 : j < 7
        · obtain ⟨k1, k2⟩ := pS_ok ⟨7 * i + j, by omega⟩
          have hval := pS_val ⟨7 * i + j, by omega⟩
          simp only at k1 k2 hval
          have e1 : (7 * i + j) / 7 = i := by omega
          have e2 : (7 * i + j) % 7 = j := by omega
          rw [e1, e2] at hval
          have HS := Lib.hid (pS_succ (7 * i + j))
          obtain ⟨v1, hv1⟩ : ∃ v1, ((pS (7 * i + j)).2.getD i 0 ||| (((pS (7 * i + j)).1 &&& 1) <<< (2 ^ j - 1))) = v1 := ⟨_, rfl⟩
          rw [hv1] at hval
          have hc1 := HQ.out.2.2.at i hlt
          have hf1 := HQ.out.2.2.fr i
          have HQ2 : Hid (Two .u64 24 w (wr.setCell ⟨g + 1, i, none⟩ (.int .u64 (v1 : Int))) g 122 (arr .u64 24 fun _ => 0) fun j' => (((pS (7 * i + (j + 1))).2.getD j' 0 : Nat) : Int)) := by
            refine Lib.hid ((HQ.out.put hge i hlt (v1 : Int)).same fun j' _ => ?_)
            rw [list_set_at (by omega), show 7 * i + (j + 1) = 7 * i + j + 1 by omega, HS.out]
            unfold pstep
            simp only
            rw [e1, e2, hv1]
          have HR : Hid ((pS (7 * i + (j + 1))).1 = if 256 ≤ 2 * (pS (7 * i + j)).1 then (2 * (pS (7 * i + j)).1) ^^^ 369 else 2 * (pS (7 * i + j)).1) := by
            refine Lib.hid ?_
            rw [show 7 * i + (j + 1) = 7 * i + j + 1 by omega, HS.out]
            rfl
          have hx := x369u ⟨(pS (7 * i + j)).1, k1⟩
          have hji : (j : Int) < 7 := by omega
          simp only at hx
          clear HQ e1 e2 hv1 HS k2
          generalize (pS (7 * i + j)).1 = r at *
          generalize (pS (7 * i + j)).2.getD i 0 = v at *
          have hri : (r : Int) < 256 := by omega
          by_cases h6 : 256 ≤ 2 * r
          · have HR2 : Hid ((pS (7 * i + (j + 1))).1 = (2 * r) ^^^ 369) := by
              refine Lib.hid ?_
              rw [HR.out, if_pos h6]
            have hb6 : decide (256 ≤ (r : Int) * 2) = true := by simp; omega
            clear h6 HR
            generalize (2 * r) ^^^ 369 = y at *
            go_wp2_with fail
            go_region
            go_wp2_with fail
            go_roundg (7 - (j + 1))
            case rel => exact ⟨j + 1, by omega, rfl, by rw [HR2.out], by go_num, Lib.hid (HQ2.out.drewN 1)⟩
            case measure => have := HGK2.out; omega
          · have HR2 : Hid ((pS (7 * i + (j + 1))).1 = 2 * r) := by
              refine Lib.hid ?_
              rw [HR.out, if_neg h6]
            have hb6 : decide (256 ≤ (r : Int) * 2) = false := by simp; omega
            clear h6 HR hx
            go_wp2_with fail
            go_region
            go_wp2_with fail
            go_roundg (7 - (j + 1))
            case rel => exact ⟨j + 1, by omega, rfl, by rw [HR2.out]; congr 1; omega, by go_num, Lib.hid (HQ2.out.drewN 1)⟩
            case measure => have := HGK2.out; omega
        · obtain rfl : j = 7 := by omega
          go_wp2_with fail
          go_roundg (24 - (i + 1))
          case rel => exact ⟨i + 1, by omega, rfl, by rw [show 7 * (i + 1) = 7 * i + 7 by omega], by go_num, by rw [show 7 * (i + 1) = 7 * i + 7 by omega]; exact HQ⟩
          case measure => have := HGK.out; omega
    · obtain rfl : i = 24 := by omega
      have hr2 := HQ.out.2.2
      have hr1 := HQ.out.2.1
      have HP := Lib.hid HQ.out.1
      unfold LM at hr2
      have hi2 : (Tryz.prog.info? 122).map (·.size) = some (arr .u64 24 rcF).size := by rw [arr_size]; kernel_rfl
      have hs2 : (arr .u64 24 fun _ => 0).size = (arr .u64 24 rcF).size := by rw [arr_size, arr_size]
      have ho2 := arr_one .u64 24 rcF
      have he : (arr .u64 24 fun j => (((pS (7 * 24)).2.getD j 0 : Nat) : Int)) = arr .u64 24 rcF := by
        rw [show 7 * 24 = 168 by omega, pS_all]
        rfl
      rw [he] at hr2
      clear he HQ
      generalize hcc : arr .u64 24 rcF = c2 at *
      have HCC := Lib.hid hcc
      clear hcc
      generalize arr .u64 24 (fun _ => 0) = c1 at *
      go_wp2_with (first | (refine wpList_load_row rfl 122 _ rfl (g + 1) rfl _ _ (0, 0) _ hr2 Tryz.underlying122 rfl hi2 ?_) | (refine wpList_store_row rfl 122 _ _ rfl g _ rfl rfl _ _ hr1 hi2 hs2 ho2 ?_))
      refine bodyPost_ret (results_cell_row rfl _ _ g _ c2 (0, 0) _ rfl (setRow_heap wr g c1 c2 _ _ hr1) Tryz.underlying122 rfl hi2) rfl ?_
      exact ⟨by rw [HCC.out], below_setRow HP.out (by omega) _⟩

def ofstep (s : Nat × Nat × List Nat) (t : Nat) : Nat × Nat × List Nat := (s.2.1, (2 * s.1 + 3 * s.2.1) % 5, s.2.2.set (s.1 + s.2.1 * 5) ((t + 1) * (t + 2) / 2 % 64))
def oT (n : Nat) : Nat × Nat × List Nat := (List.range n).foldl ofstep (1, 0, List.replicate 25 0)
theorem oT_succ (n : Nat) : oT (n + 1) = ofstep (oT n) n := by simp [oT, List.range_succ]
theorem oT_ok : ∀ t : Fin 24, (oT t.val).1 < 5 ∧ (oT t.val).2.1 < 5 ∧ (oT t.val).2.2.length = 25 := by decide +kernel
theorem oT_val : ∀ t : Fin 24, (wrap64 ((wrap64 ((((t.val : Nat) : Int) + 1) * (((t.val : Nat) : Int) + 2))).tdiv 2)).tmod 64 = (((t.val + 1) * (t.val + 2) / 2 % 64 : Nat) : Int) := by decide +kernel
theorem oT_all : ∀ i : Fin 25, (oT 24).2.2.getD i.val 0 = offN (i.val % 5 * 5 + i.val / 5) := by decide +kernel

set_option maxHeartbeats 1000000 in
set_option maxRecDepth 100000 in
theorem poffsets_any (w : World) : Calls Tryz.prog 71 #[] w fun e w' => e = .returned (.agg (arr .i64 25 fun i => (offN (i % 5 * 5 + i / 5) : Int))) ∧ Past w w' := by
  have H0 := Lib.hid (Two.new .i64 25 w 120 (arr .i64 25 fun _ => 0) fun _ => 0)
  go_enter Tryz.func71, Tryz.ntmps71
  go_wp2_with fail
  rw [arr_izero25]
  generalize (w.alloc (.cells (arr .i64 25 fun _ => 0) 120)).alloc (.cells (arr .i64 25 fun _ => 0) 120) = w3 at *
  obtain ⟨g, hg⟩ : ∃ g, w.heap.size = g := ⟨_, rfl⟩
  have hge : w.heap.size ≤ g := by omega
  rw [hg] at H0 ⊢
  clear hg
  go_loopg [2, 3, 5] 24 (fun k s2 s3 s5 wx => ∃ t : Nat, t ≤ 24 ∧ k = 24 - t ∧ s2 = .int .i64 (((oT t).1 : Nat) : Int) ∧ s3 = .int .i64 (((oT t).2.1 : Nat) : Int) ∧ s5 = .int .i64 (t : Int) ∧ Hid (Two .i64 25 w wx g 120 (arr .i64 25 fun _ => 0) fun j => (((oT t).2.2.getD j 0 : Nat) : Int)))
  case atStart =>
    refine ⟨0, Nat.zero_le _, rfl, rfl, rfl, rfl, Lib.hid (H0.out.same fun j hj => ?_)⟩
    have h0 : (oT 0).2.2 = List.replicate 25 0 := rfl
    rw [h0, List.getD_eq_getElem?_getD, List.getElem?_replicate, if_pos hj]
    rfl
  case round =>
    clear H0
    obtain ⟨t, ht, hgk, rfl, rfl, rfl, HQ⟩ := hrel
    have HGK := Lib.hid hgk
    clear hgk
    by_cases hlt : t < 24
    · obtain ⟨k1, k2, k3⟩ := oT_ok ⟨t, hlt⟩
      simp only at k1 k2 k3
      have hti : (t : Int) < 24 := by omega
      generalize hx : (oT t).1 = x at *
      generalize hy : (oT t).2.1 = y at *
      have HI := Lib.hid (fun w => index_any (x : Int) (y : Int) (x + y * 5) w (by omega) (by omega) (by omega) (by omega) (by omega))
      have HX := Lib.hid hx
      have HY := Lib.hid hy
      clear hx hy
      have hc1 := HQ.out.2.2.at (x + y * 5) (by omega)
      have hf1 := HQ.out.2.2.fr (x + y * 5)
      have hv := oT_val ⟨t, hlt⟩
      simp only at hv
      have HQ2 : Hid (Two .i64 25 w (wr.setCell ⟨g + 1, x + y * 5, none⟩ (.int .i64 (((t + 1) * (t + 2) / 2 % 64 : Nat) : Int))) g 120 (arr .i64 25 fun _ => 0) fun j => (((oT (t + 1)).2.2.getD j 0 : Nat) : Int)) := by
        refine Lib.hid ((HQ.out.put hge (x + y * 5) (by omega) _).same fun j _ => ?_)
        rw [list_set_at (by omega), oT_succ, ofstep, HX.out, HY.out]
      have HS : Hid ((oT (t + 1)).1 = y ∧ (oT (t + 1)).2.1 = (2 * x + 3 * y) % 5) := by
        refine Lib.hid ?_
        rw [oT_succ, ofstep, HX.out, HY.out]
        exact ⟨rfl, rfl⟩
      generalize (t + 1) * (t + 2) / 2 % 64 = v at *
      generalize (oT t).2.2.getD (x + y * 5) 0 = u at *
      have HV := Lib.hid hv
      clear HQ HX HY k3 hv
      go_wp2_with fail
      refine (HI.out _).mono ?_
      rintro e w' ⟨rfl, rfl⟩
      have hv := HV.out
      go_wp2_with fail
      go_roundg (24 - (t + 1))
      case rel => exact ⟨t + 1, by omega, rfl, by rw [HS.out.1], by rw [HS.out.2]; go_num, by go_num, HQ2⟩
      case measure => have := HGK.out; omega
    · obtain rfl : t = 24 := by omega
      have hr2 := HQ.out.2.2
      have hr1 := HQ.out.2.1
      have HP := Lib.hid HQ.out.1
      unfold LM at hr2
      have he : (arr .i64 25 fun j => (((oT 24).2.2.getD j 0 : Nat) : Int)) = arr .i64 25 fun i => (offN (i % 5 * 5 + i / 5) : Int) := arr_ext fun i hi => by rw [oT_all ⟨i, hi⟩]
      rw [he] at hr2
      clear he HQ
      have hi2 : (Tryz.prog.info? 120).map (·.size) = some (arr .i64 25 fun i => (offN (i % 5 * 5 + i / 5) : Int)).size := by rw [arr_size]; kernel_rfl
      have hs2 : (arr .i64 25 fun _ => 0).size = (arr .i64 25 fun i => (offN (i % 5 * 5 + i / 5) : Int)).size := by rw [arr_size, arr_size]
      have ho2 := arr_one .i64 25 fun i => (offN (i % 5 * 5 + i / 5) : Int)
      generalize hcc : arr .i64 25 (fun i => (offN (i % 5 * 5 + i / 5) : Int)) = c2 at *
      have HCC := Lib.hid hcc
      clear hcc
      generalize arr .i64 25 (fun _ => 0) = c1 at *
      go_wp2_with (first | (refine wpList_load_row rfl 120 _ rfl (g + 1) rfl _ _ (0, 0) _ hr2 Tryz.underlying120 rfl hi2 ?_) | (refine wpList_store_row rfl 120 _ _ rfl g _ rfl rfl _ _ hr1 hi2 hs2 ho2 ?_))
      refine bodyPost_ret (results_cell_row rfl _ _ g _ c2 (0, 0) _ rfl (setRow_heap wr g c1 c2 _ _ hr1) Tryz.underlying120 rfl hi2) rfl ?_
      exact ⟨by rw [HCC.out], below_setRow HP.out (by omega) _⟩

end Go.Proofs.YtalhdalmafhofaaGreatDoor
