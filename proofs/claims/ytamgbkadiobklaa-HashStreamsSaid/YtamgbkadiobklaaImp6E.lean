/- The program's round and its permutation. -/
import Derived.Test.YtamgbkadiobklaaImp6D
import Derived.Test.YtamgbkadiobklaaEq
import Derived.Deep.RegionHeld3
namespace Go.Proofs.Ytamgbkadiobklaa
open Go.RowKit

/-- A step without a guard is wanted. -/
theorem step_wanted {P : Program} {ops : Array Oper} {o : Oper} {a : Act} {w : World} {K : Act → World → Prop} {Q : Exit → Act → World → Prop} {E : Prop} (hg : o.guard = none) (h : Oper.wp P o a w K Q) :
    if Region.wanted o (yielded ops a.tmps) = true then Oper.wp P o a w K Q else E := by
  rw [if_pos (by simp [Region.wanted, hg])]
  exact h

theorem state_size (S : Nat → Lane) : (Try.prog.info? 61).map (·.size) = some (arr .u64 25 fun i => ln (S i)).size := by rw [arr_size]; kernel_rfl

/-- The offsets as a value. -/
abbrev cofs : Array Value := arr .i64 25 fun i => (offN (i % 5 * 5 + i / 5) : Int)
/-- The blocks of a round: the state, the offsets, the result. -/
def RA (w wx : World) (g : Nat) (co cs : Array Value) : Prop := Past w wx ∧ Row wx g 61 cs ∧ Row wx (g + 1) 71 co ∧ Row wx (g + 2) 61 (arr .u64 25 fun _ => 0)
theorem RA.past {w wx wy : World} {g : Nat} {co cs : Array Value} (h : RA w wx g co cs) (hp : Past wx wy) : RA w wy g co cs := ⟨h.1.trans' hp, h.2.1.past hp, h.2.2.1.past hp, h.2.2.2.past hp⟩

set_option maxHeartbeats 4000000 in
theorem after_any (S : Nat → Lane) (c : Lane) (w : World) :
    Calls Try.prog 42 #[fl S, .agg cofs, .int .u64 (ln c)] w fun e w' => e = .returned (fl (fiota (fchi (frho (fth S))) c)) ∧ Past w w' := by
  have hM := fun w => mixed_any S w
  have hV := fun w => moved_any (fth S) w
  have hB := fun w => combined_any (frho (fth S)) w
  have hiS := state_size S
  have hiB := state_size (fchi (frho (fth S)))
  have hoB := arr_one .u64 25 fun i => ln (fchi (frho (fth S)) i)
  have hsB : (arr .u64 25 fun i => ln (S i)).size = (arr .u64 25 fun i => ln (fchi (frho (fth S)) i)).size := by rw [arr_size, arr_size]
  have hiO : (Try.prog.info? 71).map (·.size) = some cofs.size := by rw [arr_size]; kernel_rfl
  unfold fl
  have HM := Lib.hid hM
  have HV := Lib.hid hV
  have HB := Lib.hid hB
  clear hM hV hB
  obtain ⟨cs, hcs⟩ : ∃ cs, arr .u64 25 (fun i => ln (S i)) = cs := ⟨_, rfl⟩
  obtain ⟨cB, hcB⟩ : ∃ cB, arr .u64 25 (fun i => ln (fchi (frho (fth S)) i)) = cB := ⟨_, rfl⟩
  have HcB := Lib.hid hcB
  rw [hcs] at HM hiS hsB ⊢
  rw [hcB] at HB hiB hoB hsB
  clear hcs hcB
  generalize (arr .u64 25 fun i => ln (fth S i)) = cM at *
  generalize (arr .u64 25 fun i => ln (frho (fth S) i)) = cV at *
  generalize hco : cofs = co at *
  have HV' : Hid (∀ w, Calls Try.prog 48 #[.agg cM, .agg co] w fun e w' => e = .returned (.agg cV) ∧ Past w w') := by
    subst hco
    exact HV
  clear HV hco
  have H0 : Hid (RA w (((w.alloc (.cells cs 61)).alloc (.cells co 71)).alloc (.cells (arr .u64 25 fun _ => 0) 61)) w.heap.size co cs) := by
    refine Lib.hid ⟨((past_alloc6 _ _).trans' (past_alloc6 _ _)).trans' (past_alloc6 _ _), ((Row.new w _ _).alloc _).alloc _, ?_, ?_⟩
    · have := Row.new (w.alloc (.cells cs 61)) 71 co
      have h := this.alloc (.cells (arr .u64 25 fun _ => 0) 61)
      simpa using h
    · have := Row.new ((w.alloc (.cells cs 61)).alloc (.cells co 71)) 61 (arr .u64 25 fun _ => 0)
      simpa using this
  go_enter Try.func42, Try.ntmps42
  go_upto_region 1 with (fail)
  rw [arr_zero25]
  generalize ((w.alloc (.cells cs 61)).alloc (.cells co 71)).alloc (.cells (arr .u64 25 fun _ => 0) 61) = w2 at *
  obtain ⟨g, hg⟩ : ∃ g, w.heap.size = g := ⟨_, rfl⟩
  have hge : w.heap.size ≤ g := by omega
  rw [hg] at H0 ⊢
  clear hg
  obtain ⟨lO⟩ := co
  have hu25 := Try.underlying71
  have huS := Try.underlying61
  have hil : (Try.prog.info? 71).map (·.size) = some lO.length := hiO
  clear hiO
  have H1 : Hid (RA w w2.drew g ⟨lO⟩ cs) := Lib.hid ⟨H0.out.1.drewN 1, H0.out.2⟩
  clear H0
  refine wp_region_held_drew (S := fun w' => w'.rangeAt (g + 1) 0 lO) (by kernel_rfl) (Row.range H1.out.2.2.1) (fun hH => ?_)
  refine held_take 2 9 rfl rfl (by kernel_rfl) (by kernel_rfl) (by kernel_rfl) (fun _ _ _ h => h) (yieldsIf_load_mid rfl 71 (.tmp 4) rfl (g + 1) 0 rfl lO _ (fun _ h => h) hu25 rfl hil) hH ?_
  simp only [List.setIfInBounds_toArray, List.set_cons_zero, List.set_cons_succ]
  generalize w2.drew = w3 at *
  refine wpAnyH_ready (rs := [0]) (by kernel_rfl) (by simp) ?_
  refine AllReadyH.cons rfl (fun K hK => ?_) AllReadyH.nil
  refine step_wanted rfl ?_
  refine wp_load_row 61 (.tmp 3) rfl g rfl _ _ (0, 0) _ H1.out.2.1 huS rfl hiS ?_
  refine hK.out _ _ hH (fun hH => ?_)
  clear hK K
  refine wpAnyH_ready (rs := [1]) (by kernel_rfl) (by simp) ?_
  refine AllReadyH.cons rfl (fun K hK => ?_) AllReadyH.nil
  go_simp
  refine (HM.out _).mono ?_
  rintro e w4 ⟨rfl, hp⟩
  have H2 := Lib.hid (H1.out.past hp)
  refine hK.out _ _ (Row.range H2.out.2.2.1) (fun hH => ?_)
  clear hp hK K H1
  refine wpAnyH_ready (rs := [3]) (by kernel_rfl) (by simp) ?_
  refine AllReadyH.cons rfl (fun K hK => ?_) AllReadyH.nil
  go_simp
  refine (HV'.out _).mono ?_
  rintro e w5 ⟨rfl, hp⟩
  have H3 := Lib.hid (H2.out.past hp)
  refine hK.out _ _ (Row.range H3.out.2.2.1) (fun hH => ?_)
  clear hp hK K H2
  refine wpAnyH_ready (rs := [4]) (by kernel_rfl) (by simp) ?_
  refine AllReadyH.cons rfl (fun K hK => ?_) AllReadyH.nil
  go_simp
  refine (HB.out _).mono ?_
  rintro e w6 ⟨rfl, hp⟩
  have H4 := Lib.hid (H3.out.past hp)
  refine hK.out _ _ (Row.range H4.out.2.2.1) (fun hH => ?_)
  clear hp hK K H3
  have H5 : Hid (RA w (w6.setRow g cB) g ⟨lO⟩ cB) := by
    obtain ⟨h1, h2, h3, h4⟩ := H4.out
    exact Lib.hid ⟨below_setRow h1 hge _, setRow_heap w6 g _ _ _ _ h2, (setRow_other w6 g (g + 1) _ (by omega)).trans h3, (setRow_other w6 g (g + 2) _ (by omega)).trans h4⟩
  refine wpAnyH_ready (rs := [5]) (by kernel_rfl) (by simp) ?_
  refine AllReadyH.cons rfl (fun K hK => ?_) AllReadyH.nil
  refine step_wanted rfl ?_
  refine wp_store_row 61 (.tmp 3) (.tmp 11) rfl g cB rfl rfl _ _ H4.out.2.1 hiB hsB hoB ?_
  refine hK.out _ _ (Row.range H5.out.2.2.1) (fun hH => ?_)
  clear hK K H4 hH
  refine wpAnyH_done (by kernel_rfl) ?_ _
  generalize w6.setRow g cB = w7 at *
  have k0 : w7.cell? ⟨g, 0, none⟩ = some (.int .u64 (ln (fchi (frho (fth S)) 0))) := by
    have h := H5.out.2.1.cell 0
    rw [← HcB.out, arr_get .u64 25 _ 0 (by omega)] at h
    exact h
  have kf : w7.frozen? ⟨g, 0, none⟩ = false := Row.fr H5.out.2.1 0
  have hx := xor_ln (fchi (frho (fth S)) 0) c
  have H6 : Hid (Past w (w7.setCell ⟨g, 0, none⟩ (.int .u64 (ln (fchi (frho (fth S)) 0 ^^^ c)))) ∧ LM .u64 (w7.setCell ⟨g, 0, none⟩ (.int .u64 (ln (fchi (frho (fth S)) 0 ^^^ c)))) g 61 25 (fun i => ln (fiota (fchi (frho (fth S))) c i)) ∧
      Row (w7.setCell ⟨g, 0, none⟩ (.int .u64 (ln (fchi (frho (fth S)) 0 ^^^ c)))) (g + 2) 61 (arr .u64 25 fun _ => 0)) := by
    obtain ⟨h1, h2, h3, h4⟩ := H5.out
    have hl : LM .u64 w7 g 61 25 fun i => ln (fchi (frho (fth S)) i) := by
      unfold LM
      rw [HcB.out]
      exact h2
    refine Lib.hid ⟨h1.set hge _, (LM.put hl 0 (by omega) _).same fun i hi => ?_, h4.setOther (by omega) _ _⟩
    by_cases e : i = 0
    · subst e
      rw [upd_at]
      rfl
    · rw [upd_ne _ _ e]
      show _ = ln (fiota (fchi (frho (fth S))) c i)
      unfold fiota
      rw [if_neg e]
  clear H5 HcB HM HB HV' hiB hoB hsB hiS
  go_upto_region 3 with (fail)
  generalize w7.setCell ⟨g, 0, none⟩ (.int .u64 (ln (fchi (frho (fth S)) 0 ^^^ c))) = w9 at *
  have hr2 := H6.out.2.1
  have hr1 := H6.out.2.2
  have HP := Lib.hid H6.out.1
  unfold LM at hr2
  have hi2 := state_size (fiota (fchi (frho (fth S))) c)
  have hs2 : (arr .u64 25 fun _ => 0).size = (arr .u64 25 fun i => ln (fiota (fchi (frho (fth S))) c i)).size := by rw [arr_size, arr_size]
  have ho2 := arr_one .u64 25 fun i => ln (fiota (fchi (frho (fth S))) c i)
  clear H6
  generalize hcc : (arr .u64 25 fun i => ln (fiota (fchi (frho (fth S))) c i)) = c2 at *
  have HCC := Lib.hid hcc
  clear hcc
  generalize arr .u64 25 (fun _ => 0) = c1 at *
  go_wp2_with (first | (refine wpList_load_row rfl 61 _ rfl g rfl _ _ (0, 0) _ hr2 Try.underlying61 rfl hi2 ?_) | (refine wpList_store_row rfl 61 _ _ rfl (g + 2) _ rfl rfl _ _ hr1 hi2 hs2 ho2 ?_))
  refine bodyPost_ret (results_cell_row rfl _ _ (g + 2) _ c2 (0, 0) _ rfl (setRow_heap w9 (g + 2) c1 c2 _ _ hr1) Try.underlying61 rfl hi2) rfl ?_
  exact ⟨by rw [HCC.out], below_setRow HP.out (by omega) _⟩

theorem fl_ext {A B : Nat → Lane} (h : ∀ i, i < 25 → A i = B i) : fl A = fl B := by
  unfold fl
  rw [arr_ext fun j hj => by rw [h j hj]]
theorem after_prd (S : Nat → Lane) (n : Nat) (w : World) : Calls Try.prog 42 #[fl S, .agg cofs, .int .u64 (ln (rcL n))] w fun e w' => e = .returned (fl (prd S n)) ∧ Past w w' := by
  have e : fl (fiota (fchi (frho (fth S))) (rcL n)) = fl (prd S n) := fl_ext fun i hi => frnd_prd S n i hi
  rw [← e]
  exact after_any S (rcL n) w
theorem hci_of (n : Nat) (h : n < 24) (w : World) : (Instr.index 73 (.agg (arr .u64 24 rcF)) (.int .i64 (n : Int))).run Try.prog w = .ok (.int .u64 (ln (rcL n))) w := by
  obtain ⟨i64, hi64, _, hz64, _⟩ := info_parts (show (Try.prog.info? 55).map (fun i => (i.zero, i.size, i.bytes)) = some (some (.int .u64 0), 1, 8) by kernel_rfl)
  exact run_index_cells w Try.underlying73 Try.underlying55 hi64 hz64 (n : Int) (by omega) (by omega) (by rw [Int.toNat_natCast, arr_get .u64 24 rcF n h, rcF_ln ⟨n, h⟩])

/-- The blocks of the permutation: the state, the result, the offsets. -/
def RP (w wx : World) (g o : Nat) (co : Array Value) (f : Nat → Int) : Prop := Past w wx ∧ LM .u64 wx g 61 25 f ∧ Row wx (g + 1) 61 (arr .u64 25 fun _ => 0) ∧ Row wx o 71 co ∧ g + 1 < o
theorem RP.past {w wx wy : World} {g o : Nat} {co : Array Value} {f : Nat → Int} (h : RP w wx g o co f) (hp : Past wx wy) : RP w wy g o co f := ⟨h.1.trans' hp, Row.past h.2.1 hp, h.2.2.1.past hp, h.2.2.2.1.past hp, h.2.2.2.2⟩

set_option maxHeartbeats 2000000 in
theorem pperm_any (S : Nat → Lane) (w : World) : Calls Try.prog 35 #[fl S] w fun e w' => e = .returned (fl (ppm S)) ∧ Past w w' := by
  have HR := Lib.hid (fun i w => after_prd (prS S i) i w)
  have HO := Lib.hid (fun w => poffsets_any w)
  have HC := Lib.hid (fun w => pconstants_any w)
  have HCI := Lib.hid (fun n h w => hci_of n h w)
  have H0 : Hid (Past w ((w.alloc (.cells (arr .u64 25 fun i => ln (S i)) 61)).alloc (.cells (arr .u64 25 fun _ => 0) 61)) ∧ LM .u64 ((w.alloc (.cells (arr .u64 25 fun i => ln (S i)) 61)).alloc (.cells (arr .u64 25 fun _ => 0) 61)) w.heap.size 61 25 (fun i => ln (prS S 0 i)) ∧
      Row ((w.alloc (.cells (arr .u64 25 fun i => ln (S i)) 61)).alloc (.cells (arr .u64 25 fun _ => 0) 61)) (w.heap.size + 1) 61 (arr .u64 25 fun _ => 0)) := by
    refine Lib.hid ⟨(past_alloc6 _ _).trans' (past_alloc6 _ _), (Row.new w _ _).alloc _, ?_⟩
    have := Row.new (w.alloc (.cells (arr .u64 25 fun i => ln (S i)) 61)) 61 (arr .u64 25 fun _ => 0)
    simpa using this
  have hiO : (Try.prog.info? 71).map (·.size) = some cofs.size := by rw [arr_size]; kernel_rfl
  have hsO : (arr .i64 25 fun _ => 0).size = cofs.size := by rw [arr_size, arr_size]
  have hoO : cofs.all (·.oneCell') = true := arr_one .i64 25 _
  unfold fl
  unfold cofs at hiO hsO hoO HR
  have hsz := arr_size .u64 25 fun i => ln (S i)
  generalize arr .u64 25 (fun i => ln (S i)) = cs at *
  generalize arr .i64 25 (fun i => (offN (i % 5 * 5 + i / 5) : Int)) = cO at *
  generalize arr .u64 24 rcF = cC at *
  go_enter Try.func35, Try.ntmps35
  go_upto_region 1 with (fail)
  rw [arr_zero25]
  generalize (w.alloc (.cells cs 61)).alloc (.cells (arr .u64 25 fun _ => 0) 61) = w2 at *
  obtain ⟨g, hg⟩ : ∃ g, w.heap.size = g := ⟨_, rfl⟩
  have hge : w.heap.size ≤ g := by omega
  rw [hg] at H0 ⊢
  clear hg
  go_wp2_with fail
  refine (HO.out _).mono ?_
  rintro e w3 ⟨rfl, hp⟩
  have H3 : Hid (Past w w3 ∧ LM .u64 w3 g 61 25 (fun i => ln (prS S 0 i)) ∧ Row w3 (g + 1) 61 (arr .u64 25 fun _ => 0)) := Lib.hid ⟨H0.out.1.trans' hp, Row.past H0.out.2.1 hp, H0.out.2.2.past hp⟩
  clear hp H0
  have hn3 := heap_alloc_new w3 (.cells (arr .i64 25 fun _ => 0) 71)
  go_wp2_with (refine wpList_store_row rfl 71 _ _ rfl w3.heap.size _ rfl rfl _ _ hn3 hiO hsO hoO ?_)
  rw [World.setRow_alloc_new]
  have H4 : Hid (RP w (w3.alloc (.cells cO 71)) g w3.heap.size cO (fun i => ln (prS S 0 i))) := by
    obtain ⟨h1, h2, h3⟩ := H3.out
    exact Lib.hid ⟨h1.trans' (past_alloc6 _ _), Row.alloc h2 _, h3.alloc _, Row.new _ _ _, h3.lt⟩
  clear H3 hn3 hsO
  generalize w3.alloc (.cells cO 71) = w4 at *
  generalize w3.heap.size = o at *
  refine (HC.out _).mono ?_
  rintro e w5 ⟨rfl, hp⟩
  have H5 := Lib.hid (H4.out.past hp)
  clear hp H4 HC HO
  go_wp2_with fail
  go_loopg [8] 24 (fun k s8 wx => ∃ i : Nat, i ≤ 24 ∧ k = 24 - i ∧ s8 = .int .i64 (i : Int) ∧ Hid (RP w wx g o cO fun j => ln (prS S i j)))
  case atStart => exact ⟨0, Nat.zero_le _, rfl, rfl, H5⟩
  case round =>
    clear H5
    obtain ⟨i, hi, hgk, rfl, HQ⟩ := hrel
    have HGK := Lib.hid hgk
    clear hgk
    by_cases hlt : i < 24
    · have hii : (i : Int) < 24 := by omega
      have hci := fun w => HCI.out i hlt w
      have hr1 := HQ.out.2.1
      have hrO := HQ.out.2.2.2.1
      unfold LM at hr1
      have hi1 := state_size (prS S i)
      have hi2 := state_size (prS S (i + 1))
      have hs2 : (arr .u64 25 fun j => ln (prS S i j)).size = (arr .u64 25 fun j => ln (prS S (i + 1) j)).size := by rw [arr_size, arr_size]
      have ho2 := arr_one .u64 25 fun j => ln (prS S (i + 1) j)
      have HRi := Lib.hid (fun w => HR.out i w)
      have H2 : Hid (∀ wx, Past wr wx → Row wx g 61 (arr .u64 25 fun j => ln (prS S i j)) ∧ RP w (wx.setRow g (arr .u64 25 fun j => ln (prS S (i + 1) j))) g o cO fun j => ln (prS S (i + 1) j)) := by
        refine Lib.hid fun wx hp => ?_
        have hq := HQ.out.past hp
        have hr : Row wx g 61 (arr .u64 25 fun j => ln (prS S i j)) := hq.2.1
        have hlo := hq.2.2.2.2
        exact ⟨hr, below_setRow hq.1 hge _, setRow_heap wx g _ _ _ _ hr, (setRow_other wx g (g + 1) _ (by omega)).trans hq.2.2.1, (setRow_other wx g o _ (by omega)).trans hq.2.2.2.1, hlo⟩
      change Hid (∀ w, Calls Try.prog 42 #[.agg (arr .u64 25 fun j => ln (prS S i j)), .agg cO, .int .u64 (ln (rcL i))] w fun e w' => e = .returned (.agg (arr .u64 25 fun j => ln (prS S (i + 1) j))) ∧ Past w w') at HRi
      clear HQ
      generalize (arr .u64 25 fun j => ln (prS S i j)) = c1 at *
      generalize (arr .u64 25 fun j => ln (prS S (i + 1) j)) = c2 at *
      go_wp2_with (first | (refine wpList_load_row rfl 61 _ rfl g rfl _ _ (0, 0) _ hr1 Try.underlying61 rfl hi1 ?_) | (refine wpList_load_row rfl 71 _ rfl o rfl _ _ (0, 0) _ hrO Try.underlying71 rfl hiO ?_))
      refine (HRi.out _).mono ?_
      rintro e w6 ⟨rfl, hp⟩
      have H3 := Lib.hid (H2.out _ hp).2
      have hr5 := (H2.out _ hp).1
      clear H2 hp hr1 hrO
      go_wp2_with (refine wpList_store_row rfl 61 _ _ rfl g _ rfl rfl _ _ hr5 hi2 hs2 ho2 ?_)
      generalize w6.setRow g c2 = w7 at *
      clear hr5
      go_wp2_with fail
      go_roundg (24 - (i + 1))
      case rel => exact ⟨i + 1, by omega, rfl, by go_num, H3⟩
      case measure => have := HGK.out; omega
    · obtain rfl : i = 24 := by omega
      have he : (arr .u64 25 fun j => ln (prS S 24 j)) = arr .u64 25 fun j => ln (ppm S j) := arr_ext fun j hj => by rw [prS_ppm S j hj]
      have hr2 := HQ.out.2.1
      have hr1 := HQ.out.2.2.1
      have HP := Lib.hid HQ.out.1
      unfold LM at hr2
      rw [he] at hr2
      have hi2 := state_size (ppm S)
      have hs2 : (arr .u64 25 fun _ => 0).size = (arr .u64 25 fun i => ln (ppm S i)).size := by rw [arr_size, arr_size]
      have ho2 := arr_one .u64 25 fun i => ln (ppm S i)
      clear HQ he HR
      generalize hcc : arr .u64 25 (fun i => ln (ppm S i)) = c2 at *
      have HCC := Lib.hid hcc
      clear hcc
      generalize arr .u64 25 (fun _ => 0) = c1 at *
      go_wp2_with (first | (refine wpList_load_row rfl 61 _ rfl g rfl _ _ (0, 0) _ hr2 Try.underlying61 rfl hi2 ?_) | (refine wpList_store_row rfl 61 _ _ rfl (g + 1) _ rfl rfl _ _ hr1 hi2 hs2 ho2 ?_))
      refine bodyPost_ret (results_cell_row rfl _ _ (g + 1) _ c2 (0, 0) _ rfl (setRow_heap wr (g + 1) c1 c2 _ _ hr1) Try.underlying61 rfl hi2) rfl ?_
      exact ⟨by rw [HCC.out], below_setRow HP.out (by omega) _⟩

end Go.Proofs.Ytamgbkadiobklaa
