/- The program's first step of a round: each lane is changed by two columns. -/
import Derived.Test.YtamgbkadiobklaaRot
import Derived.Test.YtamgbkadiobklaaEq
import Derived.StillTailTactics
import Derived.Outline
import Derived.Deep.Cut
namespace Go.Proofs.Ytamgbkadiobklaa
open Go.RowKit

/-- The parity of the first n lanes of a column. -/
def gC (S : Nat → Lane) (x : Nat) : Nat → Lane
  | 0 => 0
  | n + 1 => gC S x n ^^^ S (x + 5 * n)
theorem gC_five (S : Nat → Lane) (x : Nat) : gC S x 5 = fC S x := by
  simp [gC, fC]
/-- The parities behind k lanes. -/
def gP (S : Nat → Lane) (k x : Nat) : Int := ln (gC S x (if x < k % 5 then k / 5 + 1 else k / 5))
theorem gP_zero (S : Nat → Lane) (x : Nat) : gP S 0 x = 0 := by
  unfold gP
  simp [gC, ln]
theorem gP_at (S : Nat → Lane) (k : Nat) : gP S k (k % 5) = ln (gC S (k % 5) (k / 5)) := by
  unfold gP
  rw [if_neg (by omega)]
theorem gP_put (S : Nat → Lane) (k x : Nat) (hx : x < 5) : upd (gP S k) (k % 5) (ln (gC S (k % 5) (k / 5) ^^^ S k)) x = gP S (k + 1) x := by
  by_cases e : x = k % 5
  · subst e
    rw [upd_at]
    unfold gP
    have h1 : (if k % 5 < (k + 1) % 5 then (k + 1) / 5 + 1 else (k + 1) / 5) = k / 5 + 1 := by split <;> omega
    rw [h1]
    show _ = ln (gC S (k % 5) (k / 5) ^^^ S (k % 5 + 5 * (k / 5)))
    rw [show k % 5 + 5 * (k / 5) = k by omega]
  · rw [upd_ne _ _ e]
    unfold gP
    congr 2
    split <;> split <;> omega
theorem gP_all (S : Nat → Lane) (x : Nat) (hx : x < 5) : gP S 25 x = ln (fC S x) := by
  unfold gP
  rw [if_neg (by omega), show 25 / 5 = 5 by omega, gC_five]
/-- What a column adds to a lane. -/
def fD (S : Nat → Lane) (x : Nat) : Lane := fC S ((x + 4) % 5) ^^^ rotN (fC S ((x + 1) % 5)) 1
theorem fth_fD (S : Nat → Lane) (j : Nat) : S j ^^^ fD S (j % 5) = fth S j := by
  unfold fD fth
  rw [BitVec.xor_assoc]

/-- The blocks of the step: the lanes, the result, the parities, what they add. -/
def MX (w wx : World) (g : Nat) (fa fc fd : Nat → Int) : Prop :=
  Past w wx ∧ LM .u64 wx g 61 25 fa ∧ Row wx (g + 1) 61 (arr .u64 25 fun _ => 0) ∧ LM .u64 wx (g + 1 + 1) 65 5 fc ∧ LM .u64 wx (g + 1 + 1 + 1) 65 5 fd
section
variable {w wx wy : World} {g : Nat} {fa fc fd : Nat → Int}
theorem MX.new (w : World) (fa : Nat → Int) : MX w ((((w.alloc (.cells (arr .u64 25 fa) 61)).alloc (.cells (arr .u64 25 fun _ => 0) 61)).alloc (.cells (arr .u64 5 fun _ => 0) 65)).alloc (.cells (arr .u64 5 fun _ => 0) 65)) w.heap.size fa (fun _ => 0) fun _ => 0 := by
  refine ⟨((((Below.refl _ _).alloc (Nat.le_refl _) _).alloc (by simp) _).alloc (by simp; omega) _).alloc (by simp; omega) _, (((Row.new w _ _).alloc _).alloc _).alloc _, ?_, ?_, ?_⟩
  · have := ((Row.new (w.alloc (.cells (arr .u64 25 fa) 61)) 61 (arr .u64 25 fun _ => 0)).alloc (.cells (arr .u64 5 fun _ => 0) 65)).alloc (.cells (arr .u64 5 fun _ => 0) 65)
    simpa using this
  · have := (Row.new ((w.alloc (.cells (arr .u64 25 fa) 61)).alloc (.cells (arr .u64 25 fun _ => 0) 61)) 65 (arr .u64 5 fun _ => 0)).alloc (.cells (arr .u64 5 fun _ => 0) 65)
    simpa using this
  · have := Row.new (((w.alloc (.cells (arr .u64 25 fa) 61)).alloc (.cells (arr .u64 25 fun _ => 0) 61)).alloc (.cells (arr .u64 5 fun _ => 0) 65)) 65 (arr .u64 5 fun _ => 0)
    simpa using this
theorem MX.putA (h : MX w wx g fa fc fd) (hg : w.heap.size ≤ g) (i : Nat) (hi : i < 25) (v : Int) : MX w (wx.setCell ⟨g, i, none⟩ (.int .u64 v)) g (upd fa i v) fc fd :=
  ⟨h.1.set hg _, h.2.1.put i hi v, h.2.2.1.setOther (by omega) _ _, h.2.2.2.1.setOther (by omega) _ _, h.2.2.2.2.setOther (by omega) _ _⟩
theorem MX.putC (h : MX w wx g fa fc fd) (hg : w.heap.size ≤ g) (i : Nat) (hi : i < 5) (v : Int) : MX w (wx.setCell ⟨g + 1 + 1, i, none⟩ (.int .u64 v)) g fa (upd fc i v) fd :=
  ⟨h.1.set (by show _ ≤ g + 1 + 1; omega) _, h.2.1.setOther (by omega) _ _, h.2.2.1.setOther (by omega) _ _, h.2.2.2.1.put i hi v, h.2.2.2.2.setOther (by omega) _ _⟩
theorem MX.putD (h : MX w wx g fa fc fd) (hg : w.heap.size ≤ g) (i : Nat) (hi : i < 5) (v : Int) : MX w (wx.setCell ⟨g + 1 + 1 + 1, i, none⟩ (.int .u64 v)) g fa fc (upd fd i v) :=
  ⟨h.1.set (by show _ ≤ g + 1 + 1 + 1; omega) _, h.2.1.setOther (by omega) _ _, h.2.2.1.setOther (by omega) _ _, h.2.2.2.1.setOther (by omega) _ _, h.2.2.2.2.put i hi v⟩
theorem MX.drewN (h : MX w wx g fa fc fd) (m : Nat) : MX w (wx.drewN m) g fa fc fd := ⟨h.1.drewN m, h.2⟩
theorem MX.same {fa' fc' fd' : Nat → Int} (h : MX w wx g fa fc fd) (ha : ∀ i, i < 25 → fa i = fa' i) (hc : ∀ i, i < 5 → fc i = fc' i) (hd : ∀ i, i < 5 → fd i = fd' i) : MX w wx g fa' fc' fd' :=
  ⟨h.1, h.2.1.same ha, h.2.2.1, h.2.2.2.1.same hc, h.2.2.2.2.same hd⟩
end
def fdP (S : Nat → Lane) (k x : Nat) : Int := if x < k then ln (fD S x) else 0
theorem fdP_put (S : Nat → Lane) (k x : Nat) : upd (fdP S k) k (ln (fD S k)) x = fdP S (k + 1) x := by
  by_cases e : x = k
  · subst e
    rw [upd_at, fdP, if_pos (by omega)]
  · rw [upd_ne _ _ e, fdP, fdP]
    by_cases h : x < k
    · rw [if_pos h, if_pos (by omega)]
    · rw [if_neg h, if_neg (by omega)]
def ftP (S : Nat → Lane) (k i : Nat) : Int := if i < k then ln (fth S i) else ln (S i)
theorem ftP_put (S : Nat → Lane) (k i : Nat) : upd (ftP S k) k (ln (fth S k)) i = ftP S (k + 1) i := by
  by_cases e : i = k
  · subst e
    rw [upd_at, ftP, if_pos (by omega)]
  · rw [upd_ne _ _ e, ftP, ftP]
    by_cases h : i < k
    · rw [if_pos h, if_pos (by omega)]
    · rw [if_neg h, if_neg (by omega)]

set_option maxHeartbeats 4000000 in
set_option maxRecDepth 100000 in
theorem mixed_any (S : Nat → Lane) (w : World) :
    Calls Try.prog 49 #[.agg (arr .u64 25 fun i => ln (S i))] w fun e w' => e = .returned (.agg (arr .u64 25 fun i => ln (fth S i))) ∧ Past w w' := by
  have hsz := arr_size .u64 25 fun i => ln (S i)
  have HC := Lib.hid (fun i (hi : i < 25) => arr_get .u64 25 (fun i => ln (S i)) i hi)
  have H0 := Lib.hid ((MX.new w fun i => ln (S i)).same (fun _ _ => rfl) (fun x _ => (gP_zero S x).symm) (fun _ _ => rfl))
  have hiS : (Try.prog.info? 61).map (·.size) = some (arr .u64 25 fun i => ln (S i)).size := by rw [arr_size]; kernel_rfl
  obtain ⟨i64, hi64, _, hz64, _⟩ := info_parts (show (Try.prog.info? 55).map (fun i => (i.zero, i.size, i.bytes)) = some (some (.int .u64 0), 1, 8) by kernel_rfl)
  have HIX : Hid (∀ (i : Nat), i < 25 → ∀ w, (Instr.index 61 (.agg (arr .u64 25 fun i => ln (S i))) (.int .i64 (i : Int))).run Try.prog w = .ok (.int .u64 (ln (S i))) w) :=
    fun i hi w => run_index_cells w Try.underlying61 Try.underlying55 hi64 hz64 (i : Int) (by omega) (by omega) (by rw [Int.toNat_natCast]; exact HC.out i hi)
  clear HC hi64 hz64
  generalize hcs : arr .u64 25 (fun i => ln (S i)) = cs at *
  have HCS := Lib.hid hcs
  clear hcs
  go_enter Try.func49, Try.ntmps49
  go_upto_region 2 with (fail)
  rw [arr_zero25, arr_zero5]
  generalize (((w.alloc (.cells cs 61)).alloc (.cells (arr .u64 25 fun _ => 0) 61)).alloc (.cells (arr .u64 5 fun _ => 0) 65)).alloc (.cells (arr .u64 5 fun _ => 0) 65) = w5 at *
  obtain ⟨g, hg⟩ : ∃ g, w.heap.size = g := ⟨_, rfl⟩
  have hge : w.heap.size ≤ g := by omega
  rw [hg] at H0 ⊢
  clear hg
  have hra : Row w5 g 61 cs := by
    have := H0.out.2.1
    unfold LM at this
    rwa [HCS.out] at this
  go_wp2_with (refine wpList_load_row rfl 61 _ rfl g rfl _ _ (0, 0) _ hra Try.underlying61 rfl hiS ?_)
  clear hra
  go_wp2_with fail
  go_loopg [10] 25 (fun k s10 wx => ∃ i : Nat, i ≤ 25 ∧ k = 25 - i ∧ s10 = .int .i64 (i : Int) ∧ Hid (MX w wx g (fun i => ln (S i)) (gP S i) fun _ => 0))
  case atStart => exact ⟨0, Nat.zero_le _, rfl, rfl, H0⟩
  case round =>
    clear H0
    obtain ⟨i, hi, hgk, rfl, HQ⟩ := hrel
    have HGK := Lib.hid hgk
    clear hgk
    by_cases hlt : i < 25
    · have hii : (i : Int) < 25 := by omega
      have hix := HIX.out i hlt
      obtain ⟨m, hm⟩ : ∃ m, i % 5 = m := ⟨_, rfl⟩
      have hmi : (i : Int) % 5 = (m : Int) := by omega
      have hml : m < 5 := by omega
      have hmb : (m : Int) < 5 := by omega
      have hc1 := HQ.out.2.2.2.1.at m hml
      have hf1 := HQ.out.2.2.2.1.fr m
      have e0 := gP_at S i
      rw [hm] at e0
      rw [e0] at hc1
      have hx := xor_ln (gC S m (i / 5)) (S i)
      have HQ2 : Hid (MX w (wr.setCell ⟨g + 1 + 1, m, none⟩ (.int .u64 (ln (gC S m (i / 5) ^^^ S i)))) g (fun i => ln (S i)) (gP S (i + 1)) fun _ => 0) := by
        refine Lib.hid ((HQ.out.putC hge m hml _).same (fun _ _ => rfl) (fun x hx => ?_) fun _ _ => rfl)
        have := gP_put S i x hx
        rw [hm] at this
        exact this
      clear e0 HQ hm
      generalize gC S m (i / 5) ^^^ S i = U at *
      generalize gC S m (i / 5) = V at *
      generalize S i = L at *
      go_wp2_with fail
      go_roundg (25 - (i + 1))
      case rel => exact ⟨i + 1, by omega, rfl, by go_num, HQ2⟩
      case measure => have := HGK.out; omega
    · obtain rfl : i = 25 := by omega
      have H1 : Hid (MX w wr g (fun i => ln (S i)) (fun x => ln (fC S x)) (fdP S 0)) := Lib.hid (HQ.out.same (fun _ _ => rfl) (fun x hx => gP_all S x hx) fun _ _ => rfl)
      clear HQ HGK hi hlt HIX
      go_wp2_with fail
      go_loopg [22] 5 (fun k s22 wx => ∃ i : Nat, i ≤ 5 ∧ k = 5 - i ∧ s22 = .int .i64 (i : Int) ∧ Hid (MX w wx g (fun i => ln (S i)) (fun x => ln (fC S x)) (fdP S i)))
      case atStart => exact ⟨0, Nat.zero_le _, rfl, rfl, H1⟩
      case round =>
        clear H1
        obtain ⟨x, hx, hgk, rfl, HQ⟩ := hrel
        have HGK := Lib.hid hgk
        clear hgk
        by_cases hlt : x < 5
        · have hxi : (x : Int) < 5 := by omega
          obtain ⟨m4, h4⟩ : ∃ m4, (x + 4) % 5 = m4 := ⟨_, rfl⟩
          obtain ⟨m1, h1⟩ : ∃ m1, (x + 1) % 5 = m1 := ⟨_, rfl⟩
          have hm4 : (IntKind.i64.wrap ((x : Int) + 4)).tmod 5 = (m4 : Int) := by rw [← h4]; exact tm4 ⟨x, hlt⟩
          have hm1 : (IntKind.i64.wrap ((x : Int) + 1)).tmod 5 = (m1 : Int) := by rw [← h1]; exact tm1 ⟨x, hlt⟩
          have hb4 : (m4 : Int) < 5 := by omega
          have hb1 : (m1 : Int) < 5 := by omega
          have hc2 : wr.cell? ⟨g + 1 + 1, m4, none⟩ = some (.int .u64 (ln (fC S m4))) := HQ.out.2.2.2.1.at m4 (by omega)
          have hc3 : wr.cell? ⟨g + 1 + 1, m1, none⟩ = some (.int .u64 (ln (fC S m1))) := HQ.out.2.2.2.1.at m1 (by omega)
          have hc4 := HQ.out.2.2.2.2.at x hlt
          have hf4 := Row.fr HQ.out.2.2.2.2 x
          have hx2 := xor_ln (fC S m4) (rotN (fC S m1) 1)
          have hfd : fD S x = fC S m4 ^^^ rotN (fC S m1) 1 := by unfold fD; rw [h4, h1]
          rw [← hfd] at hx2
          have HR1 := Lib.hid (fun w => (rotl_any (fC S m1) 1 (by omega) w).mono (R' := fun e w' => e = .returned (.int .u64 (ln (rotN (fC S m1) 1))) ∧ w' = w) fun _ _ h => ⟨h.1, h.2.symm⟩)
          have HQ1 : Hid (MX w (wr.setCell ⟨g + 1 + 1 + 1, x, none⟩ (.int .u64 (ln (fD S x)))) g (fun i => ln (S i)) (fun x => ln (fC S x)) (fdP S (x + 1))) :=
            Lib.hid ((HQ.out.putD hge x hlt _).same (fun _ _ => rfl) (fun _ _ => rfl) fun y _ => fdP_put S x y)
          clear hfd HQ h4 h1
          generalize fD S x = T at *
          generalize rotN (fC S m1) 1 = R1 at *
          generalize fC S m1 = C1 at *
          generalize fC S m4 = C4 at *
          generalize fdP S x x = old at *
          go_wp2_with fail
          go_still_tail 14, (by kernel_rfl)
          still_call (HR1.out _)
          repeat still_step
          refine wpStill_nil ?_
          change wpList _ _ _ _ _ wr.drew
          have HQ2 := Lib.hid (HQ1.out.drewN 1)
          change Hid (MX w (wr.drew.setCell ⟨g + 1 + 1 + 1, x, none⟩ (.int .u64 (ln T))) g _ _ _) at HQ2
          have hc4' : wr.drew.cell? ⟨g + 1 + 1 + 1, x, none⟩ = some (.int .u64 old) := hc4
          have hf4' : wr.drew.frozen? ⟨g + 1 + 1 + 1, x, none⟩ = false := hf4
          clear HQ1 hc2 hc3 hc4 hf4
          generalize wr.drew = wd at *
          go_wp2_with fail
          go_roundg (5 - (x + 1))
          case rel => exact ⟨x + 1, by omega, rfl, by go_num, HQ2⟩
          case measure => have := HGK.out; omega
        · obtain rfl : x = 5 := by omega
          have H1 : Hid (MX w wr g (ftP S 0) (fun x => ln (fC S x)) (fun x => ln (fD S x))) := Lib.hid (HQ.out.same (fun i _ => by unfold ftP; rw [if_neg (by omega)]) (fun _ _ => rfl) fun x hx => by unfold fdP; rw [if_pos hx])
          clear HQ HGK hx hlt
          go_wp2_with fail
          go_loopg [40] 25 (fun k s40 wx => ∃ i : Nat, i ≤ 25 ∧ k = 25 - i ∧ s40 = .int .i64 (i : Int) ∧ Hid (MX w wx g (ftP S i) (fun x => ln (fC S x)) (fun x => ln (fD S x))))
          case atStart => exact ⟨0, Nat.zero_le _, rfl, rfl, H1⟩
          case round =>
            clear H1
            obtain ⟨i, hi, hgk, rfl, HQ⟩ := hrel
            have HGK := Lib.hid hgk
            clear hgk
            by_cases hlt : i < 25
            · have hii : (i : Int) < 25 := by omega
              obtain ⟨m, hm⟩ : ∃ m, i % 5 = m := ⟨_, rfl⟩
              have hmi : (i : Int).tmod 5 = (m : Int) := by rw [← hm, Int.tmod_eq_emod_of_nonneg (by omega)]; omega
              have hml : m < 5 := by omega
              have hmb : (m : Int) < 5 := by omega
              have hc1 := HQ.out.2.1.at i hlt
              have hf1 := Row.fr HQ.out.2.1 i
              have hc2 : wr.cell? ⟨g + 1 + 1 + 1, m, none⟩ = some (.int .u64 (ln (fD S m))) := HQ.out.2.2.2.2.at m hml
              have e0 : ftP S i i = ln (S i) := by unfold ftP; rw [if_neg (by omega)]
              rw [e0] at hc1
              have hx := xor_ln (S i) (fD S m)
              have hft := fth_fD S i
              rw [hm] at hft
              rw [hft] at hx
              have HQ2 : Hid (MX w (wr.setCell ⟨g, i, none⟩ (.int .u64 (ln (fth S i)))) g (ftP S (i + 1)) (fun x => ln (fC S x)) (fun x => ln (fD S x))) :=
                Lib.hid ((HQ.out.putA hge i hlt _).same (fun j _ => ftP_put S i j) (fun _ _ => rfl) fun _ _ => rfl)
              clear e0 HQ hm hft
              generalize fth S i = T at *
              generalize fD S m = V at *
              generalize S i = L at *
              go_wp2_with fail
              go_region
              go_wp2_with fail
              go_roundg (25 - (i + 1))
              case rel => exact ⟨i + 1, by omega, rfl, by go_num, Lib.hid (HQ2.out.drewN 1)⟩
              case measure => have := HGK.out; omega
            · obtain rfl : i = 25 := by omega
              have HQ3 : Hid (MX w wr g (fun i => ln (fth S i)) (fun x => ln (fC S x)) (fun x => ln (fD S x))) := Lib.hid (HQ.out.same (fun i hi => by unfold ftP; rw [if_pos hi]) (fun _ _ => rfl) fun _ _ => rfl)
              have hr2 := HQ3.out.2.1
              have hr1 := HQ3.out.2.2.1
              have HP := Lib.hid HQ3.out.1
              unfold LM at hr2
              clear HQ HQ3
              have hi2 : (Try.prog.info? 61).map (·.size) = some (arr .u64 25 fun i => ln (fth S i)).size := by rw [arr_size]; kernel_rfl
              have hs2 : (arr .u64 25 fun _ => 0).size = (arr .u64 25 fun i => ln (fth S i)).size := by rw [arr_size, arr_size]
              have ho2 := arr_one .u64 25 fun i => ln (fth S i)
              generalize hcc : arr .u64 25 (fun i => ln (fth S i)) = c2 at *
              have HCC := Lib.hid hcc
              clear hcc
              generalize arr .u64 25 (fun _ => 0) = c1 at *
              go_wp2_with (first | (refine wpList_load_row rfl 61 _ rfl g rfl _ _ (0, 0) _ hr2 Try.underlying61 rfl hi2 ?_) | (refine wpList_store_row rfl 61 _ _ rfl (g + 1) _ rfl rfl _ _ hr1 hi2 hs2 ho2 ?_))
              refine bodyPost_ret (results_cell_row rfl _ _ (g + 1) _ c2 (0, 0) _ rfl (setRow_heap wr (g + 1) c1 c2 _ _ hr1) Try.underlying61 rfl hi2) rfl ?_
              exact ⟨by rw [HCC.out], below_setRow HP.out (by omega) _⟩

end Go.Proofs.Ytamgbkadiobklaa
