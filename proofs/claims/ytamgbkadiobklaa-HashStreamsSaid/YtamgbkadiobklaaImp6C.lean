/- The program's second and third step of a round: lanes are rotated and placed anew; each is changed by the next two of its row. -/
import Derived.Test.YtamgbkadiobklaaImp6A
import Derived.Test.YtamgbkadiobklaaImp6B
import Derived.IntWalk
namespace Go.Proofs.Ytamgbkadiobklaa
open Go.RowKit

theorem arr_cells {cs : Array Value} {k : IntKind} {n : Nat} {f : Nat → Int} (h : arr k n f = cs) {i : Nat} (hi : i < n) : cs[i]? = some (.int k (f i)) := by rw [← h]; exact arr_get k n f i hi
def fillP (F : Nat → Int) (k i : Nat) : Int := if i < k then F i else 0
theorem fillP_put (F : Nat → Int) (k i : Nat) : upd (fillP F k) k (F k) i = fillP F (k + 1) i := by
  by_cases e : i = k
  · subst e
    rw [upd_at, fillP, if_pos (by omega)]
  · rw [upd_ne _ _ e, fillP, fillP]
    by_cases h : i < k
    · rw [if_pos h, if_pos (by omega)]
    · rw [if_neg h, if_neg (by omega)]
theorem Three.same {k : IntKind} {n : Nat} {w wx : World} {t0 t1 t2 : TypeId} {cs c1 : Array Value} {f f' : Nat → Int} {g : Nat} (h : Three k n w wx g t0 t1 t2 cs c1 f) (he : ∀ i, i < n → f i = f' i) : Three k n w wx g t0 t1 t2 cs c1 f' := ⟨h.1, h.2.1, h.2.2.1, h.2.2.2.same he⟩

set_option maxHeartbeats 4000000 in
set_option maxRecDepth 100000 in
theorem combined_any (B : Nat → Lane) (w : World) :
    Calls Try.prog 47 #[.agg (arr .u64 25 fun i => ln (B i))] w fun e w' => e = .returned (.agg (arr .u64 25 fun i => ln (fchi B i))) ∧ Past w w' := by
  have hsz := arr_size .u64 25 fun i => ln (B i)
  obtain ⟨cs, hcs⟩ : ∃ cs, arr .u64 25 (fun i => ln (B i)) = cs := ⟨_, rfl⟩
  have H0 := Lib.hid (Three.new .u64 25 w 61 61 61 cs (arr .u64 25 fun _ => 0) fun _ => 0)
  rw [hcs] at hsz ⊢
  have HC : Hid (∀ i, i < 25 → cs[i]? = some (.int .u64 (ln (B i)))) := Lib.hid fun i hi => arr_cells hcs hi
  clear hcs
  go_enter Try.func47, Try.ntmps47
  go_upto_region 2 with (fail)
  rw [arr_zero25]
  generalize ((w.alloc (.cells cs 61)).alloc (.cells (arr .u64 25 fun _ => 0) 61)).alloc (.cells (arr .u64 25 fun _ => 0) 61) = w3 at *
  obtain ⟨g, hg⟩ : ∃ g, w.heap.size = g := ⟨_, rfl⟩
  have hge : w.heap.size ≤ g := by omega
  rw [hg] at H0 ⊢
  clear hg
  go_wp2_with fail
  go_loopg [6] 5 (fun k s6 wx => ∃ y : Nat, y ≤ 5 ∧ k = 5 - y ∧ s6 = .int .i64 (y : Int) ∧ Hid (Three .u64 25 w wx g 61 61 61 cs (arr .u64 25 fun _ => 0) (fillP (fun i => ln (fchi B i)) (y * 5))))
  case atStart => exact ⟨0, Nat.zero_le _, rfl, rfl, Lib.hid (H0.out.same fun i _ => by unfold fillP; rw [if_neg (by omega)])⟩
  case round =>
    clear H0
    obtain ⟨y, hy, hgk, rfl, HQ⟩ := hrel
    have HGK := Lib.hid hgk
    clear hgk
    by_cases hlt : y < 5
    · have hyi : (y : Int) < 5 := by omega
      go_wp2_with fail
      go_loopg [9] 5 (fun k s9 wx => ∃ x : Nat, x ≤ 5 ∧ k = 5 - x ∧ s9 = .int .i64 (x : Int) ∧ Hid (Three .u64 25 w wx g 61 61 61 cs (arr .u64 25 fun _ => 0) (fillP (fun i => ln (fchi B i)) (y * 5 + x))))
      case atStart => exact ⟨0, Nat.zero_le _, rfl, rfl, HQ⟩
      case round =>
        clear HQ
        obtain ⟨x, hx, hgk, rfl, HQ⟩ := hrel
        have HGK2 := Lib.hid hgk
        clear hgk
        by_cases hlt2 : x < 5
        · have hxi : (x : Int) < 5 := by omega
          obtain ⟨n0, h0⟩ : ∃ n0, x + y * 5 = n0 := ⟨_, rfl⟩
          obtain ⟨n1, h1⟩ : ∃ n1, (x + 1) % 5 + y * 5 = n1 := ⟨_, rfl⟩
          obtain ⟨n2, h2⟩ : ∃ n2, (x + 2) % 5 + y * 5 = n2 := ⟨_, rfl⟩
          have HI0 := Lib.hid (fun w => (index_any (x : Int) (y : Int) n0 w (by omega) (by omega) (by omega) (by omega) (by omega)).mono (R' := fun e w' => e = .returned (.int .i64 (n0 : Int)) ∧ w' = w) fun _ _ h => ⟨h.1, h.2.symm⟩)
          have e1 : IntKind.i64.wrap ((x : Int) + 1) = (x : Int) + 1 := IntWalk.i64_in _ (by omega)
          have e2 : IntKind.i64.wrap ((x : Int) + 2) = (x : Int) + 2 := IntWalk.i64_in _ (by omega)
          have HI1 := Lib.hid (fun w => (index_any (IntKind.i64.wrap ((x : Int) + 1)) (y : Int) n1 w (by omega) (by omega) (by omega) (by omega) (by omega)).mono (R' := fun e w' => e = .returned (.int .i64 (n1 : Int)) ∧ w' = w) fun _ _ h => ⟨h.1, h.2.symm⟩)
          have HI2 := Lib.hid (fun w => (index_any (IntKind.i64.wrap ((x : Int) + 2)) (y : Int) n2 w (by omega) (by omega) (by omega) (by omega) (by omega)).mono (R' := fun e w' => e = .returned (.int .i64 (n2 : Int)) ∧ w' = w) fun _ _ h => ⟨h.1, h.2.symm⟩)
          have hn0 : (n0 : Int) < 25 := by omega
          have hn1 : (n1 : Int) < 25 := by omega
          have hn2 : (n2 : Int) < 25 := by omega
          have hc0 : wr.cell? ⟨g, n0, none⟩ = some (.int .u64 (ln (B n0))) := by rw [HQ.out.2.1.cell]; exact HC.out _ (by omega)
          have hc1 : wr.cell? ⟨g, n1, none⟩ = some (.int .u64 (ln (B n1))) := by rw [HQ.out.2.1.cell]; exact HC.out _ (by omega)
          have hc2 : wr.cell? ⟨g, n2, none⟩ = some (.int .u64 (ln (B n2))) := by rw [HQ.out.2.1.cell]; exact HC.out _ (by omega)
          have hc4 := HQ.out.2.2.2.at n0 (by omega)
          have hf4 := Row.fr HQ.out.2.2.2 n0
          have hch : fchi B n0 = B n0 ^^^ (~~~ B n1 &&& B n2) := by
            unfold fchi
            rw [show n0 % 5 = x by omega, show n0 / 5 = y by omega, show (x + 1) % 5 + 5 * y = n1 by omega, show (x + 2) % 5 + 5 * y = n2 by omega]
          have hx0 := not_ln (B n1)
          have hx1 := and_ln (~~~ B n1) (B n2)
          have hx2 := xor_ln (B n0) (~~~ B n1 &&& B n2)
          rw [← hch] at hx2
          have HQ1 : Hid (Three .u64 25 w (wr.setCell ⟨g + 1 + 1, n0, none⟩ (.int .u64 (ln (fchi B n0)))) g 61 61 61 cs (arr .u64 25 fun _ => 0) (fillP (fun i => ln (fchi B i)) (y * 5 + (x + 1)))) := by
            refine Lib.hid ((HQ.out.put hge n0 (by omega) _).same fun i _ => ?_)
            have := fillP_put (fun i => ln (fchi B i)) n0 i
            rw [show y * 5 + (x + 1) = n0 + 1 by omega, show y * 5 + x = n0 by omega]
            exact this
          clear hch h0 h1 h2 HQ e1 e2
          generalize fillP (fun i => ln (fchi B i)) (y * 5 + x) n0 = old at *
          generalize fchi B n0 = T at *
          generalize ~~~ B n1 &&& B n2 = U at *
          generalize ~~~ B n1 = nb at *
          generalize B n0 = b0 at *
          generalize B n1 = b1 at *
          generalize B n2 = b2 at *
          go_wp2_with fail
          go_still_tail 24, (by kernel_rfl)
          still_call (HI0.out _)
          repeat still_step
          still_call (HI0.out _)
          repeat still_step
          still_call (HI1.out _)
          repeat still_step
          still_call (HI2.out _)
          repeat still_step
          refine wpStill_nil ?_
          change wpList _ _ _ _ _ wr.drew
          have HQ2 := Lib.hid (HQ1.out.drewN 1)
          change Hid (Three .u64 25 w (wr.drew.setCell ⟨g + 1 + 1, n0, none⟩ (.int .u64 (ln T))) g _ _ _ _ _ _) at HQ2
          have hc4' : wr.drew.cell? ⟨g + 1 + 1, n0, none⟩ = some (.int .u64 old) := hc4
          have hf4' : wr.drew.frozen? ⟨g + 1 + 1, n0, none⟩ = false := hf4
          clear HQ1 hc0 hc1 hc2 hc4 hf4
          generalize wr.drew = wd at *
          go_wp2_with fail
          go_roundg (5 - (x + 1))
          case rel => exact ⟨x + 1, by omega, rfl, by go_num, HQ2⟩
          case measure => have := HGK2.out; omega
        · obtain rfl : x = 5 := by omega
          go_wp2_with fail
          go_roundg (5 - (y + 1))
          case rel => exact ⟨y + 1, by omega, rfl, by go_num, by rw [show (y + 1) * 5 = y * 5 + 5 by omega]; exact HQ⟩
          case measure => have := HGK.out; omega
    · obtain rfl : y = 5 := by omega
      have HQ3 : Hid (Three .u64 25 w wr g 61 61 61 cs (arr .u64 25 fun _ => 0) fun i => ln (fchi B i)) := Lib.hid (HQ.out.same fun i hi => by unfold fillP; rw [if_pos (by omega)])
      have hr2 := HQ3.out.2.2.2
      have hr1 := HQ3.out.2.2.1
      have HP := Lib.hid HQ3.out.1
      unfold LM at hr2
      clear HQ HQ3
      have hi2 : (Try.prog.info? 61).map (·.size) = some (arr .u64 25 fun i => ln (fchi B i)).size := by rw [arr_size]; kernel_rfl
      have hs2 : (arr .u64 25 fun _ => 0).size = (arr .u64 25 fun i => ln (fchi B i)).size := by rw [arr_size, arr_size]
      have ho2 := arr_one .u64 25 fun i => ln (fchi B i)
      generalize hcc : arr .u64 25 (fun i => ln (fchi B i)) = c2 at *
      have HCC := Lib.hid hcc
      clear hcc
      generalize arr .u64 25 (fun _ => 0) = c1 at *
      go_wp2_with (first | (refine wpList_load_row rfl 61 _ rfl (g + 1 + 1) rfl _ _ (0, 0) _ hr2 Try.underlying61 rfl hi2 ?_) | (refine wpList_store_row rfl 61 _ _ rfl (g + 1) _ rfl rfl _ _ hr1 hi2 hs2 ho2 ?_))
      refine bodyPost_ret (results_cell_row rfl _ _ (g + 1) _ c2 (0, 0) _ rfl (setRow_heap wr (g + 1) c1 c2 _ _ hr1) Try.underlying61 rfl hi2) rfl ?_
      exact ⟨by rw [HCC.out], below_setRow HP.out (by omega) _⟩

def frP (T : Nat → Lane) (k j : Nat) : Int := if fsrc j < k then ln (frho T j) else 0
theorem frP_put (T : Nat → Lane) (k j : Nat) (hk : k < 25) (hj : j < 25) : upd (frP T k) (fdst k) (ln (rotN (T k) (roff k))) j = frP T (k + 1) j := by
  have h1 := fsrc_fdst ⟨k, hk⟩
  have h2 := fdst_fsrc ⟨j, hj⟩
  simp only at h1 h2
  by_cases e : j = fdst k
  · subst e
    rw [upd_at]
    unfold frP frho
    rw [h1.1, if_pos (by omega)]
  · rw [upd_ne _ _ e]
    have hne : fsrc j ≠ k := fun h => e (by rw [← h, h2.1])
    unfold frP
    by_cases h : fsrc j < k
    · rw [if_pos h, if_pos (by omega)]
    · rw [if_neg h, if_neg (by omega)]
/-- The blocks of the second step: the lanes, the offsets, the result, the lanes anew. -/
def RH (w wx : World) (g : Nat) (cs co : Array Value) (f : Nat → Int) : Prop :=
  Past w wx ∧ Row wx g 61 cs ∧ Row wx (g + 1) 71 co ∧ Row wx (g + 1 + 1) 61 (arr .u64 25 fun _ => 0) ∧ LM .u64 wx (g + 1 + 1 + 1) 61 25 f
section
variable {w wx : World} {g : Nat} {cs co : Array Value} {f f' : Nat → Int}
theorem RH.new (w : World) (cs co : Array Value) : RH w ((((w.alloc (.cells cs 61)).alloc (.cells co 71)).alloc (.cells (arr .u64 25 fun _ => 0) 61)).alloc (.cells (arr .u64 25 fun _ => 0) 61)) w.heap.size cs co fun _ => 0 := by
  refine ⟨((((Below.refl _ _).alloc (Nat.le_refl _) _).alloc (by simp) _).alloc (by simp; omega) _).alloc (by simp; omega) _, (((Row.new w _ _).alloc _).alloc _).alloc _, ?_, ?_, ?_⟩
  · have := ((Row.new (w.alloc (.cells cs 61)) 71 co).alloc (.cells (arr .u64 25 fun _ => 0) 61)).alloc (.cells (arr .u64 25 fun _ => 0) 61)
    simpa using this
  · have := (Row.new ((w.alloc (.cells cs 61)).alloc (.cells co 71)) 61 (arr .u64 25 fun _ => 0)).alloc (.cells (arr .u64 25 fun _ => 0) 61)
    simpa using this
  · have := Row.new (((w.alloc (.cells cs 61)).alloc (.cells co 71)).alloc (.cells (arr .u64 25 fun _ => 0) 61)) 61 (arr .u64 25 fun _ => 0)
    simpa using this
theorem RH.put (h : RH w wx g cs co f) (hg : w.heap.size ≤ g) (i : Nat) (hi : i < 25) (v : Int) : RH w (wx.setCell ⟨g + 1 + 1 + 1, i, none⟩ (.int .u64 v)) g cs co (upd f i v) :=
  ⟨h.1.set (by show _ ≤ g + 1 + 1 + 1; omega) _, h.2.1.setOther (by omega) _ _, h.2.2.1.setOther (by omega) _ _, h.2.2.2.1.setOther (by omega) _ _, h.2.2.2.2.put i hi v⟩
theorem RH.drewN (h : RH w wx g cs co f) (m : Nat) : RH w (wx.drewN m) g cs co f := ⟨h.1.drewN m, h.2⟩
theorem RH.same (h : RH w wx g cs co f) (he : ∀ i, i < 25 → f i = f' i) : RH w wx g cs co f' := ⟨h.1, h.2.1, h.2.2.1, h.2.2.2.1, h.2.2.2.2.same he⟩
end

set_option maxHeartbeats 4000000 in
set_option maxRecDepth 100000 in
theorem moved_any (T : Nat → Lane) (w : World) :
    Calls Try.prog 48 #[.agg (arr .u64 25 fun i => ln (T i)), .agg (arr .i64 25 fun i => (offN (i % 5 * 5 + i / 5) : Int))] w fun e w' => e = .returned (.agg (arr .u64 25 fun i => ln (frho T i))) ∧ Past w w' := by
  have hsz := arr_size .u64 25 fun i => ln (T i)
  have hszo := arr_size .i64 25 fun i => (offN (i % 5 * 5 + i / 5) : Int)
  obtain ⟨cs, hcs⟩ : ∃ cs, arr .u64 25 (fun i => ln (T i)) = cs := ⟨_, rfl⟩
  obtain ⟨co, hco⟩ : ∃ co, arr .i64 25 (fun i => (offN (i % 5 * 5 + i / 5) : Int)) = co := ⟨_, rfl⟩
  have H0 := Lib.hid (RH.new w cs co)
  rw [hcs] at hsz ⊢
  rw [hco] at hszo ⊢
  have HC : Hid (∀ i, i < 25 → cs[i]? = some (.int .u64 (ln (T i)))) := Lib.hid fun i hi => arr_cells hcs hi
  have HO : Hid (∀ i, i < 25 → co[i]? = some (.int .i64 (roff i : Int))) := Lib.hid fun i hi => arr_cells hco hi
  clear hcs hco
  go_enter Try.func48, Try.ntmps48
  go_upto_region 2 with (fail)
  rw [arr_zero25]
  generalize (((w.alloc (.cells cs 61)).alloc (.cells co 71)).alloc (.cells (arr .u64 25 fun _ => 0) 61)).alloc (.cells (arr .u64 25 fun _ => 0) 61) = w3 at *
  obtain ⟨g, hg⟩ : ∃ g, w.heap.size = g := ⟨_, rfl⟩
  have hge : w.heap.size ≤ g := by omega
  rw [hg] at H0 ⊢
  clear hg
  go_wp2_with fail
  go_loopg [9] 5 (fun k s9 wx => ∃ y : Nat, y ≤ 5 ∧ k = 5 - y ∧ s9 = .int .i64 (y : Int) ∧ Hid (RH w wx g cs co (frP T (y * 5))))
  case atStart => exact ⟨0, Nat.zero_le _, rfl, rfl, Lib.hid (H0.out.same fun i _ => by unfold frP; rw [if_neg (by omega)])⟩
  case round =>
    clear H0
    obtain ⟨y, hy, hgk, rfl, HQ⟩ := hrel
    have HGK := Lib.hid hgk
    clear hgk
    by_cases hlt : y < 5
    · have hyi : (y : Int) < 5 := by omega
      go_wp2_with fail
      go_loopg [12] 5 (fun k s12 wx => ∃ x : Nat, x ≤ 5 ∧ k = 5 - x ∧ s12 = .int .i64 (x : Int) ∧ Hid (RH w wx g cs co (frP T (y * 5 + x))))
      case atStart => exact ⟨0, Nat.zero_le _, rfl, rfl, HQ⟩
      case round =>
        clear HQ
        obtain ⟨x, hx, hgk, rfl, HQ⟩ := hrel
        have HGK2 := Lib.hid hgk
        clear hgk
        by_cases hlt2 : x < 5
        · have hxi : (x : Int) < 5 := by omega
          obtain ⟨n0, h0⟩ : ∃ n0, x + y * 5 = n0 := ⟨_, rfl⟩
          obtain ⟨n1, h1⟩ : ∃ n1, y + (2 * x + 3 * y) % 5 * 5 = n1 := ⟨_, rfl⟩
          have HI0 := Lib.hid (fun w => index_any (x : Int) (y : Int) n0 w (by omega) (by omega) (by omega) (by omega) (by omega))
          have e1 : IntKind.i64.wrap (2 * (x : Int)) = 2 * (x : Int) := IntWalk.i64_in _ (by omega)
          have e2 : IntKind.i64.wrap (3 * (y : Int)) = 3 * (y : Int) := IntWalk.i64_in _ (by omega)
          have e3 : IntKind.i64.wrap (IntKind.i64.wrap (2 * (x : Int)) + IntKind.i64.wrap (3 * (y : Int))) = 2 * (x : Int) + 3 * (y : Int) := by rw [e1, e2]; exact IntWalk.i64_in _ (by omega)
          have e4 : (2 * (x : Int) + 3 * (y : Int)) % 5 = ((((2 * x + 3 * y) % 5 : Nat)) : Int) := by rw [show 2 * (x : Int) + 3 * (y : Int) = ((2 * x + 3 * y : Nat) : Int) by omega]; rfl
          have HI1 := Lib.hid (fun w => (index_any (y : Int) (IntKind.i64.wrap (IntKind.i64.wrap (2 * (x : Int)) + IntKind.i64.wrap (3 * (y : Int)))) n1 w (by omega) (by omega) (by rw [e3]; omega) (by rw [e3]; omega) (by rw [e3, e4]; omega)).mono (R' := fun e w' => e = .returned (.int .i64 (n1 : Int)) ∧ w' = w) fun _ _ h => ⟨h.1, h.2.symm⟩)
          have hn0 : (n0 : Int) < 25 := by omega
          have hn1 : (n1 : Int) < 25 := by omega
          have hc0 : wr.cell? ⟨g, n0, none⟩ = some (.int .u64 (ln (T n0))) := by rw [HQ.out.2.1.cell]; exact HC.out _ (by omega)
          have hc1 : wr.cell? ⟨g + 1, n0, none⟩ = some (.int .i64 (roff n0 : Int)) := by rw [HQ.out.2.2.1.cell]; exact HO.out _ (by omega)
          have hc4 := HQ.out.2.2.2.2.at n1 (by omega)
          have hf4 := Row.fr HQ.out.2.2.2.2 n1
          have HR1 := Lib.hid (fun w => (rotl_any (T n0) (roff n0) (roff_lt ⟨n0, by omega⟩) w).mono (R' := fun e w' => e = .returned (.int .u64 (ln (rotN (T n0) (roff n0)))) ∧ w' = w) fun _ _ h => ⟨h.1, h.2.symm⟩)
          have hda : fdst n0 = n1 := by
            unfold fdst
            rw [show n0 % 5 = x by omega, show n0 / 5 = y by omega]
            omega
          have HQ1 : Hid (RH w (wr.setCell ⟨g + 1 + 1 + 1, n1, none⟩ (.int .u64 (ln (rotN (T n0) (roff n0))))) g cs co (frP T (y * 5 + (x + 1)))) := by
            refine Lib.hid ((HQ.out.put hge n1 (by omega) _).same fun i hi => ?_)
            have := frP_put T n0 i (by omega) hi
            rw [show y * 5 + (x + 1) = n0 + 1 by omega, show y * 5 + x = n0 by omega, ← hda]
            exact this
          clear h0 h1 HQ e1 e2 e3 e4 hda
          generalize frP T (y * 5 + x) n1 = old at *
          generalize rotN (T n0) (roff n0) = R1 at *
          generalize roff n0 = rk at *
          generalize T n0 = T0 at *
          go_wp2_with fail
          refine (HI0.out _).mono ?_
          rintro e w' ⟨rfl, rfl⟩
          go_wp2_with fail
          go_still_tail 15, (by kernel_rfl)
          still_call (HI1.out _)
          repeat still_step
          still_call (HR1.out _)
          repeat still_step
          refine wpStill_nil ?_
          change wpList _ _ _ _ _ wr.drew
          have HQ2 := Lib.hid (HQ1.out.drewN 1)
          change Hid (RH w (wr.drew.setCell ⟨g + 1 + 1 + 1, n1, none⟩ (.int .u64 (ln R1))) g _ _ _) at HQ2
          have hc4' : wr.drew.cell? ⟨g + 1 + 1 + 1, n1, none⟩ = some (.int .u64 old) := hc4
          have hf4' : wr.drew.frozen? ⟨g + 1 + 1 + 1, n1, none⟩ = false := hf4
          clear HQ1 hc0 hc1 hc4 hf4
          generalize wr.drew = wd at *
          go_wp2_with fail
          go_roundg (5 - (x + 1))
          case rel => exact ⟨x + 1, by omega, rfl, by go_num, HQ2⟩
          case measure => have := HGK2.out; omega
        · obtain rfl : x = 5 := by omega
          go_wp2_with fail
          go_roundg (5 - (y + 1))
          case rel => exact ⟨y + 1, by omega, rfl, by go_num, by rw [show (y + 1) * 5 = y * 5 + 5 by omega]; exact HQ⟩
          case measure => have := HGK.out; omega
    · obtain rfl : y = 5 := by omega
      have HQ3 : Hid (RH w wr g cs co fun i => ln (frho T i)) := Lib.hid (HQ.out.same fun i hi => by
        have := (fdst_fsrc ⟨i, hi⟩).2
        simp only at this
        unfold frP
        rw [if_pos (by omega)])
      have hr2 := HQ3.out.2.2.2.2
      have hr1 := HQ3.out.2.2.2.1
      have HP := Lib.hid HQ3.out.1
      unfold LM at hr2
      clear HQ HQ3
      have hi2 : (Try.prog.info? 61).map (·.size) = some (arr .u64 25 fun i => ln (frho T i)).size := by rw [arr_size]; kernel_rfl
      have hs2 : (arr .u64 25 fun _ => 0).size = (arr .u64 25 fun i => ln (frho T i)).size := by rw [arr_size, arr_size]
      have ho2 := arr_one .u64 25 fun i => ln (frho T i)
      generalize hcc : arr .u64 25 (fun i => ln (frho T i)) = c2 at *
      have HCC := Lib.hid hcc
      clear hcc
      generalize arr .u64 25 (fun _ => 0) = c1 at *
      go_wp2_with (first | (refine wpList_load_row rfl 61 _ rfl (g + 1 + 1 + 1) rfl _ _ (0, 0) _ hr2 Try.underlying61 rfl hi2 ?_) | (refine wpList_store_row rfl 61 _ _ rfl (g + 1 + 1) _ rfl rfl _ _ hr1 hi2 hs2 ho2 ?_))
      refine bodyPost_ret (results_cell_row rfl _ _ (g + 1 + 1) _ c2 (0, 0) _ rfl (setRow_heap wr (g + 1 + 1) c1 c2 _ _ hr1) Try.underlying61 rfl hi2) rfl ?_
      exact ⟨by rw [HCC.out], below_setRow HP.out (by omega) _⟩

end Go.Proofs.Ytamgbkadiobklaa
