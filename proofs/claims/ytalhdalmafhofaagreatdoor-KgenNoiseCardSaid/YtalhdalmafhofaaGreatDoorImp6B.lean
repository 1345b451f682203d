/- The program's first step of a round: each lane is changed by two columns. The program's second and third step of a round: lanes are rotated and placed anew; each is changed by the next two of its row. The program's bytes of a state, and the state with given bytes. The program's round and its permutation. -/
import Derived.Test.YtalhdalmafhofaaGreatDoorRef6F
import Derived.Test.YtalhdalmafhofaaGreatDoorArr
import Derived.StillTailTactics
import Derived.Outline
import Derived.Deep.Cut
import Derived.Test.YtalhdalmafhofaaGreatDoorImp6A
import Derived.IntWalk
import Derived.Deep.RegionHeld3
namespace Go.Proofs.YtalhdalmafhofaaGreatDoor
set_option maxRecDepth 100000
open Go.RowKit

/-- The parity of the first n lanes of a column. -/
def gC (S : Nat → Lane) (x : Nat) : Nat → Lane
  | 0 => 0
  | n + 1 => gC S x n ^^^ S (x + 5 * n)
theorem gC_five (S : Nat → Lane) (x : Nat) : gC S x 5 = fC S x := by
  simp [gC, fC]
/-- The parities behind k lanes. -/
def gP (S : Nat → Lane) (k x : Nat) : Int := ln (gC S x (if x < k % 5 then k / 5 + 1 else k / 5))
theorem gP_zero (S : Nat → Lane) (x : Nat) : gP S 0 x = 0 := by
  unfold gP
  simp [gC, ln]
theorem gP_at (S : Nat → Lane) (k : Nat) : gP S k (k % 5) = ln (gC S (k % 5) (k / 5)) := by
  unfold gP
  rw [if_neg (by omega)]
theorem gP_put (S : Nat → Lane) (k x : Nat) (hx : x < 5) : upd (gP S k) (k % 5) (ln (gC S (k % 5) (k / 5) ^^^ S k)) x = gP S (k + 1) x := by
  by_cases e : x = k % 5
  · subst e
    rw [upd_at]
    unfold gP
    have h1 : (if k % 5 < (k + 1) % 5 then (k + 1) / 5 + 1 else (k + 1) / 5) = k / 5 + 1 := by split <;> omega
    rw [h1]
    show _ = ln (gC S (k % 5) (k / 5) ^^^ S (k % 5 + 5 * (k / 5)))
    rw [show k % 5 + 5 * (k / 5) = k by omega]
  · rw [upd_ne _ _ e]
    unfold gP
    congr 2
    split <;> split <;> omega
theorem gP_all (S : Nat → Lane) (x : Nat) (hx : x < 5) : gP S 25 x = ln (fC S x) := by
  unfold gP
  rw [if_neg (by omega), show 25 / 5 = 5 by omega, gC_five]
/-- What a column adds to a lane. -/
def fD (S : Nat → Lane) (x : Nat) : Lane := fC S ((x + 4) % 5) ^^^ rotN (fC S ((x + 1) % 5)) 1
theorem fth_fD (S : Nat → Lane) (j : Nat) : S j ^^^ fD S (j % 5) = fth S j := by
  unfold fD fth
  rw [BitVec.xor_assoc]

/-- The blocks of the step: the lanes, the result, the parities, what they add. -/
def MX (w wx : World) (g : Nat) (fa fc fd : Nat → Int) : Prop :=
  Past w wx ∧ LM .u64 wx g 98 25 fa ∧ Row wx (g + 1) 98 (arr .u64 25 fun _ => 0) ∧ LM .u64 wx (g + 1 + 1) 149 5 fc ∧ LM .u64 wx (g + 1 + 1 + 1) 149 5 fd
section
variable {w wx wy : World} {g : Nat} {fa fc fd : Nat → Int}
theorem MX.new (w : World) (fa : Nat → Int) : MX w ((((w.alloc (.cells (arr .u64 25 fa) 98)).alloc (.cells (arr .u64 25 fun _ => 0) 98)).alloc (.cells (arr .u64 5 fun _ => 0) 149)).alloc (.cells (arr .u64 5 fun _ => 0) 149)) w.heap.size fa (fun _ => 0) fun _ => 0 := by
  refine ⟨((((Below.refl _ _).alloc (Nat.le_refl _) _).alloc (by simp) _).alloc (by simp; omega) _).alloc (by simp; omega) _, (((Row.new w _ _).alloc _).alloc _).alloc _, ?_, ?_, ?_⟩
  · have := ((Row.new (w.alloc (.cells (arr .u64 25 fa) 98)) 98 (arr .u64 25 fun _ => 0)).alloc (.cells (arr .u64 5 fun _ => 0) 149)).alloc (.cells (arr .u64 5 fun _ => 0) 149)
    simpa using this
  · have := (Row.new ((w.alloc (.cells (arr .u64 25 fa) 98)).alloc (.cells (arr .u64 25 fun _ => 0) 98)) 149 (arr .u64 5 fun _ => 0)).alloc (.cells (arr .u64 5 fun _ => 0) 149)
    simpa using this
  · have := Row.new (((w.alloc (.cells (arr .u64 25 fa) 98)).alloc (.cells (arr .u64 25 fun _ => 0) 98)).alloc (.cells (arr .u64 5 fun _ => 0) 149)) 149 (arr .u64 5 fun _ => 0)
    simpa using this
theorem MX.putA (h : MX w wx g fa fc fd) (hg : w.heap.size ≤ g) (i : Nat) (hi : i < 25) (v : Int) : MX w (wx.setCell ⟨g, i, none⟩ (.int .u64 v)) g (upd fa i v) fc fd :=
  ⟨h.1.set hg _, h.2.1.put i hi v, h.2.2.1.setOther (by omega) _ _, h.2.2.2.1.setOther (by omega) _ _, h.2.2.2.2.setOther (by omega) _ _⟩
theorem MX.putC (h : MX w wx g fa fc fd) (hg : w.heap.size ≤ g) (i : Nat) (hi : i < 5) (v : Int) : MX w (wx.setCell ⟨g + 1 + 1, i, none⟩ (.int .u64 v)) g fa (upd fc i v) fd :=
  ⟨h.1.set (by show _ ≤ g + 1 + 1; omega) _, h.2.1.setOther (by omega) _ _, h.2.2.1.setOther (by omega) _ _, h.2.2.2.1.put i hi v, h.2.2.2.2.setOther (by omega) _ _⟩
theorem MX.putD (h : MX w wx g fa fc fd) (hg : w.heap.size ≤ g) (i : Nat) (hi : i < 5) (v : Int) : MX w (wx.setCell ⟨g + 1 + 1 + 1, i, none⟩ (.int .u64 v)) g fa fc (upd fd i v) :=
  ⟨h.1.set (by show _ ≤ g + 1 + 1 + 1; omega) _, h.2.1.setOther (by omega) _ _, h.2.2.1.setOther (by omega) _ _, h.2.2.2.1.setOther (by omega) _ _, h.2.2.2.2.put i hi v⟩
theorem MX.drewN (h : MX w wx g fa fc fd) (m : Nat) : MX w (wx.drewN m) g fa fc fd := ⟨h.1.drewN m, h.2⟩
theorem MX.same {fa' fc' fd' : Nat → Int} (h : MX w wx g fa fc fd) (ha : ∀ i, i < 25 → fa i = fa' i) (hc : ∀ i, i < 5 → fc i = fc' i) (hd : ∀ i, i < 5 → fd i = fd' i) : MX w wx g fa' fc' fd' :=
  ⟨h.1, h.2.1.same ha, h.2.2.1, h.2.2.2.1.same hc, h.2.2.2.2.same hd⟩
end
def fdP (S : Nat → Lane) (k x : Nat) : Int := if x < k then ln (fD S x) else 0
theorem fdP_put (S : Nat → Lane) (k x : Nat) : upd (fdP S k) k (ln (fD S k)) x = fdP S (k + 1) x := by
  by_cases e : x = k
  · subst e
    rw [upd_at, fdP, if_pos (by omega)]
  · rw [upd_ne _ _ e, fdP, fdP]
    by_cases h : x < k
    · rw [if_pos h, if_pos (by omega)]
    · rw [if_neg h, if_neg (by omega)]
def ftP (S : Nat → Lane) (k i : Nat) : Int := if i < k then ln (fth S i) else ln (S i)
theorem ftP_put (S : Nat → Lane) (k i : Nat) : upd (ftP S k) k (ln (fth S k)) i = ftP S (k + 1) i := by
  by_cases e : i = k
  · subst e
    rw [upd_at, ftP, if_pos (by omega)]
  · rw [upd_ne _ _ e, ftP, ftP]
    by_cases h : i < k
    · rw [if_pos h, if_pos (by omega)]
    · rw [if_neg h, if_neg (by omega)]

set_option maxHeartbeats 4000000 in
set_option maxRecDepth 100000 in
theorem mixed_any (S : Nat → Lane) (w : World) :
    Calls Tryz.prog 87 #[.agg (arr .u64 25 fun i => ln (S i))] w fun e w' => e = .returned (.agg (arr .u64 25 fun i => ln (fth S i))) ∧ Past w w' := by
  have hsz := arr_size .u64 25 fun i => ln (S i)
  have HC := Lib.hid (fun i (hi : i < 25) => arr_get .u64 25 (fun i => ln (S i)) i hi)
  have H0 := Lib.hid ((MX.new w fun i => ln (S i)).same (fun _ _ => rfl) (fun x _ => (gP_zero S x).symm) (fun _ _ => rfl))
  have hiS : (Tryz.prog.info? 98).map (·.size) = some (arr .u64 25 fun i => ln (S i)).size := by rw [arr_size]; kernel_rfl
  obtain ⟨i64, hi64, _, hz64, _⟩ := info_parts (show (Tryz.prog.info? 45).map (fun i => (i.zero, i.size, i.bytes)) = some (some (.int .u64 0), 1, 8) by kernel_rfl)
  have HIX : Hid (∀ (i : Nat), i < 25 → ∀ w, (Instr.index 98 (.agg (arr .u64 25 fun i => ln (S i))) (.int .i64 (i : Int))).run Tryz.prog w = .ok (.int .u64 (ln (S i))) w) :=
    fun i hi w => run_index_cells w Tryz.underlying98 Tryz.underlying45 hi64 hz64 (i : Int) (by omega) (by omega) (by rw [Int.toNat_natCast]; exact HC.out i hi)
  clear HC hi64 hz64
  generalize hcs : arr .u64 25 (fun i => ln (S i)) = cs at *
  have HCS := Lib.hid hcs
  clear hcs
  go_enter Tryz.func87, Tryz.ntmps87
  go_upto_region 2 with (fail)
  rw [arr_zero25, arr_zero5]
  generalize (((w.alloc (.cells cs 98)).alloc (.cells (arr .u64 25 fun _ => 0) 98)).alloc (.cells (arr .u64 5 fun _ => 0) 149)).alloc (.cells (arr .u64 5 fun _ => 0) 149) = w5 at *
  obtain ⟨g, hg⟩ : ∃ g, w.heap.size = g := ⟨_, rfl⟩
  have hge : w.heap.size ≤ g := by omega
  rw [hg] at H0 ⊢
  clear hg
  have hra : Row w5 g 98 cs := by
    have := H0.out.2.1
    unfold LM at this
    rwa [HCS.out] at this
  go_wp2_with (refine wpList_load_row rfl 98 _ rfl g rfl _ _ (0, 0) _ hra Tryz.underlying98 rfl hiS ?_)
  clear hra
  go_wp2_with fail
  go_loopg [10] 25 (fun k s10 wx => ∃ i : Nat, i ≤ 25 ∧ k = 25 - i ∧ s10 = .int .i64 (i : Int) ∧ Hid (MX w wx g (fun i => ln (S i)) (gP S i) fun _ => 0))
  case atStart => exact ⟨0, Nat.zero_le _, rfl, rfl, H0⟩
  case round =>
    clear H0
    obtain ⟨i, hi, hgk, rfl, HQ⟩ := hrel
    have HGK := Lib.hid hgk
    clear hgk
    by_cases hlt : i < 25
    · have hii : (i : Int) < 25 := by omega
      have hix := HIX.out i hlt
      obtain ⟨m, hm⟩ : ∃ m, i % 5 = m := ⟨_, rfl⟩
      have hmi : (i : Int) % 5 = (m : Int) := by omega
      have hml : m < 5 := by omega
      have hmb : (m : Int) < 5 := by omega
      have hc1 := HQ.out.2.2.2.1.at m hml
      have hf1 := HQ.out.2.2.2.1.fr m
      have e0 := gP_at S i
      rw [hm] at e0
      rw [e0] at hc1
      have hx := xor_ln (gC S m (i / 5)) (S i)
      have HQ2 : Hid (MX w (wr.setCell ⟨g + 1 + 1, m, none⟩ (.int .u64 (ln (gC S m (i / 5) ^^^ S i)))) g (fun i => ln (S i)) (gP S (i + 1)) fun _ => 0) := by
        refine Lib.hid ((HQ.out.putC hge m hml _).same (fun _ _ => rfl) (fun x hx => ?_) fun _ _ => rfl)
        have := gP_put S i x hx
        rw [hm] at this
        exact this
      clear e0 HQ hm
      generalize gC S m (i / 5) ^^^ S i = U at *
      generalize gC S m (i / 5) = V at *
      generalize S i = L at *
      go_wp2_with fail
      go_roundg (25 - (i + 1))
      case rel => exact ⟨i + 1, by omega, rfl, by go_num, HQ2⟩
      case measure => have := HGK.out; omega
    · obtain rfl : i = 25 := by omega
      have H1 : Hid (MX w wr g (fun i => ln (S i)) (fun x => ln (fC S x)) (fdP S 0)) := Lib.hid (HQ.out.same (fun _ _ => rfl) (fun x hx => gP_all S x hx) fun _ _ => rfl)
      clear HQ HGK hi hlt HIX
      go_wp2_with fail
      go_loopg [22] 5 (fun k s22 wx => ∃ i : Nat, i ≤ 5 ∧ k = 5 - i ∧ s22 = .int .i64 (i : Int) ∧ Hid (MX w wx g (fun i => ln (S i)) (fun x => ln (fC S x)) (fdP S i)))
      case atStart => exact ⟨0, Nat.zero_le _, rfl, rfl, H1⟩
      case round =>
        clear H1
        obtain ⟨x, hx, hgk, rfl, HQ⟩ := hrel
        have HGK := Lib.hid hgk
        clear hgk
        by_cases hlt : x < 5
        · have hxi : (x : Int) < 5 := by omega
          obtain ⟨m4, h4⟩ : ∃ m4, (x + 4) % 5 = m4 := ⟨_, rfl⟩
          obtain ⟨m1, h1⟩ : ∃ m1, (x + 1) % 5 = m1 := ⟨_, rfl⟩
          have hm4 : (IntKind.i64.wrap ((x : Int) + 4)).tmod 5 = (m4 : Int) := by rw [← h4]; exact tm4 ⟨x, hlt⟩
          have hm1 : (IntKind.i64.wrap ((x : Int) + 1)).tmod 5 = (m1 : Int) := by rw [← h1]; exact tm1 ⟨x, hlt⟩
          have hb4 : (m4 : Int) < 5 := by omega
          have hb1 : (m1 : Int) < 5 := by omega
          have hc2 : wr.cell? ⟨g + 1 + 1, m4, none⟩ = some (.int .u64 (ln (fC S m4))) := HQ.out.2.2.2.1.at m4 (by omega)
          have hc3 : wr.cell? ⟨g + 1 + 1, m1, none⟩ = some (.int .u64 (ln (fC S m1))) := HQ.out.2.2.2.1.at m1 (by omega)
          have hc4 := HQ.out.2.2.2.2.at x hlt
          have hf4 := Row.fr HQ.out.2.2.2.2 x
          have hx2 := xor_ln (fC S m4) (rotN (fC S m1) 1)
          have hfd : fD S x = fC S m4 ^^^ rotN (fC S m1) 1 := by unfold fD; rw [h4, h1]
          rw [← hfd] at hx2
          have HR1 := Lib.hid (fun w => (rotl_any (fC S m1) 1 (by omega) w).mono (R' := fun e w' => e = .returned (.int .u64 (ln (rotN (fC S m1) 1))) ∧ w' = w) fun _ _ h => ⟨h.1, h.2.symm⟩)
          have HQ1 : Hid (MX w (wr.setCell ⟨g + 1 + 1 + 1, x, none⟩ (.int .u64 (ln (fD S x)))) g (fun i => ln (S i)) (fun x => ln (fC S x)) (fdP S (x + 1))) :=
            Lib.hid ((HQ.out.putD hge x hlt _).same (fun _ _ => rfl) (fun _ _ => rfl) fun y _ => fdP_put S x y)
          clear hfd HQ h4 h1
          generalize fD S x = T at *
          generalize rotN (fC S m1) 1 = R1 at *
          generalize fC S m1 = C1 at *
          generalize fC S m4 = C4 at *
          generalize fdP S x x = old at *
          go_wp2_with fail
          go_still_tail 14, (by kernel_rfl)
          still_call (HR1.out _)
          repeat still_step
          refine wpStill_nil ?_
          change wpList _ _ _ _ _ wr.drew
          have HQ2 := Lib.hid (HQ1.out.drewN 1)
          change Hid (MX w (wr.drew.setCell ⟨g + 1 + 1 + 1, x, none⟩ (.int .u64 (ln T))) g _ _ _) at HQ2
          have hc4' : wr.drew.cell? ⟨g + 1 + 1 + 1, x, none⟩ = some (.int .u64 old) := hc4
          have hf4' : wr.drew.frozen? ⟨g + 1 + 1 + 1, x, none⟩ = false := hf4
          clear HQ1 hc2 hc3 hc4 hf4
          generalize wr.drew = wd at *
          go_wp2_with fail
          go_roundg (5 - (x + 1))
          case rel => exact ⟨x + 1, by omega, rfl, by go_num, HQ2⟩
          case measure => have := HGK.out; omega
        · obtain rfl : x = 5 := by omega
          have H1 : Hid (MX w wr g (ftP S 0) (fun x => ln (fC S x)) (fun x => ln (fD S x))) := Lib.hid (HQ.out.same (fun i _ => by unfold ftP; rw [if_neg (by omega)]) (fun _ _ => rfl) fun x hx => by unfold fdP; rw [if_pos hx])
          clear HQ HGK hx hlt
          go_wp2_with fail
          go_loopg [40] 25 (fun k s40 wx => ∃ i : Nat, i ≤ 25 ∧ k = 25 - i ∧ s40 = .int .i64 (i : Int) ∧ Hid (MX w wx g (ftP S i) (fun x => ln (fC S x)) (fun x => ln (fD S x))))
          case atStart => exact ⟨0, Nat.zero_le _, rfl, rfl, H1⟩
          case round =>
            clear H1
            obtain ⟨i, hi, hgk, rfl, HQ⟩ := hrel
            have HGK := Lib.hid hgk
            clear hgk
            by_cases hlt : i < 25
            · have hii : (i : Int) < 25 := by omega
              obtain ⟨m, hm⟩ : ∃ m, i % 5 = m := ⟨_, rfl⟩
              have hmi : (i : Int).tmod 5 = (m : Int) := by rw [← hm, Int.tmod_eq_emod_of_nonneg (by omega)]; omega
              have hml : m < 5 := by omega
              have hmb : (m : Int) < 5 := by omega
              have hc1 := HQ.out.2.1.at i hlt
              have hf1 := Row.fr HQ.out.2.1 i
              have hc2 : wr.cell? ⟨g + 1 + 1 + 1, m, none⟩ = some (.int .u64 (ln (fD S m))) := HQ.out.2.2.2.2.at m hml
              have e0 : ftP S i i = ln (S i) := by unfold ftP; rw [if_neg (by omega)]
              rw [e0] at hc1
              have hx := xor_ln (S i) (fD S m)
              have hft := fth_fD S i
              rw [hm] at hft
              rw [hft] at hx
              have HQ2 : Hid (MX w (wr.setCell ⟨g, i, none⟩ (.int .u64 (ln (fth S i)))) g (ftP S (i + 1)) (fun x => ln (fC S x)) (fun x => ln (fD S x))) :=
                Lib.hid ((HQ.out.putA hge i hlt _).same (fun j _ => ftP_put S i j) (fun _ _ => rfl) fun _ _ => rfl)
              clear e0 HQ hm hft
              generalize fth S i = T at *
              generalize fD S m = V at *
              generalize S i = L at *
              go_wp2_with fail
              go_region
              go_wp2_with fail
              go_roundg (25 - (i + 1))
              case rel => exact ⟨i + 1, by omega, rfl, by go_num, Lib.hid (HQ2.out.drewN 1)⟩
              case measure => have := HGK.out; omega
            · obtain rfl : i = 25 := by omega
              have HQ3 : Hid (MX w wr g (fun i => ln (fth S i)) (fun x => ln (fC S x)) (fun x => ln (fD S x))) := Lib.hid (HQ.out.same (fun i hi => by unfold ftP; rw [if_pos hi]) (fun _ _ => rfl) fun _ _ => rfl)
              have hr2 := HQ3.out.2.1
              have hr1 := HQ3.out.2.2.1
              have HP := Lib.hid HQ3.out.1
              unfold LM at hr2
              clear HQ HQ3
              have hi2 : (Tryz.prog.info? 98).map (·.size) = some (arr .u64 25 fun i => ln (fth S i)).size := by rw [arr_size]; kernel_rfl
              have hs2 : (arr .u64 25 fun _ => 0).size = (arr .u64 25 fun i => ln (fth S i)).size := by rw [arr_size, arr_size]
              have ho2 := arr_one .u64 25 fun i => ln (fth S i)
              generalize hcc : arr .u64 25 (fun i => ln (fth S i)) = c2 at *
              have HCC := Lib.hid hcc
              clear hcc
              generalize arr .u64 25 (fun _ => 0) = c1 at *
              go_wp2_with (first | (refine wpList_load_row rfl 98 _ rfl g rfl _ _ (0, 0) _ hr2 Tryz.underlying98 rfl hi2 ?_) | (refine wpList_store_row rfl 98 _ _ rfl (g + 1) _ rfl rfl _ _ hr1 hi2 hs2 ho2 ?_))
              refine bodyPost_ret (results_cell_row rfl _ _ (g + 1) _ c2 (0, 0) _ rfl (setRow_heap wr (g + 1) c1 c2 _ _ hr1) Tryz.underlying98 rfl hi2) rfl ?_
              exact ⟨by rw [HCC.out], below_setRow HP.out (by omega) _⟩

end Go.Proofs.YtalhdalmafhofaaGreatDoor

namespace Go.Proofs.YtalhdalmafhofaaGreatDoor
open Go.RowKit

theorem arr_cells {cs : Array Value} {k : IntKind} {n : Nat} {f : Nat → Int} (h : arr k n f = cs) {i : Nat} (hi : i < n) : cs[i]? = some (.int k (f i)) := by rw [← h]; exact arr_get k n f i hi
def fillP (F : Nat → Int) (k i : Nat) : Int := if i < k then F i else 0
theorem fillP_put (F : Nat → Int) (k i : Nat) : upd (fillP F k) k (F k) i = fillP F (k + 1) i := by
  by_cases e : i = k
  · subst e
    rw [upd_at, fillP, if_pos (by omega)]
  · rw [upd_ne _ _ e, fillP, fillP]
    by_cases h : i < k
    · rw [if_pos h, if_pos (by omega)]
    · rw [if_neg h, if_neg (by omega)]
theorem Three.same {k : IntKind} {n : Nat} {w wx : World} {t0 t1 t2 : TypeId} {cs c1 : Array Value} {f f' : Nat → Int} {g : Nat} (h : Three k n w wx g t0 t1 t2 cs c1 f) (he : ∀ i, i < n → f i = f' i) : Three k n w wx g t0 t1 t2 cs c1 f' := ⟨h.1, h.2.1, h.2.2.1, h.2.2.2.same he⟩

set_option maxHeartbeats 4000000 in
set_option maxRecDepth 100000 in
theorem combined_any (B : Nat → Lane) (w : World) :
    Calls Tryz.prog 85 #[.agg (arr .u64 25 fun i => ln (B i))] w fun e w' => e = .returned (.agg (arr .u64 25 fun i => ln (fchi B i))) ∧ Past w w' := by
  have hsz := arr_size .u64 25 fun i => ln (B i)
  obtain ⟨cs, hcs⟩ : ∃ cs, arr .u64 25 (fun i => ln (B i)) = cs := ⟨_, rfl⟩
  have H0 := Lib.hid (Three.new .u64 25 w 98 98 98 cs (arr .u64 25 fun _ => 0) fun _ => 0)
  rw [hcs] at hsz ⊢
  have HC : Hid (∀ i, i < 25 → cs[i]? = some (.int .u64 (ln (B i)))) := Lib.hid fun i hi => arr_cells hcs hi
  clear hcs
  go_enter Tryz.func85, Tryz.ntmps85
  go_upto_region 2 with (fail)
  rw [arr_zero25]
  generalize ((w.alloc (.cells cs 98)).alloc (.cells (arr .u64 25 fun _ => 0) 98)).alloc (.cells (arr .u64 25 fun _ => 0) 98) = w3 at *
  obtain ⟨g, hg⟩ : ∃ g, w.heap.size = g := ⟨_, rfl⟩
  have hge : w.heap.size ≤ g := by omega
  rw [hg] at H0 ⊢
  clear hg
  go_wp2_with fail
  go_loopg [6] 5 (fun k s6 wx => ∃ y : Nat, y ≤ 5 ∧ k = 5 - y ∧ s6 = .int .i64 (y : Int) ∧ Hid (Three .u64 25 w wx g 98 98 98 cs (arr .u64 25 fun _ => 0) (fillP (fun i => ln (fchi B i)) (y * 5))))
  case atStart => exact ⟨0, Nat.zero_le _, rfl, rfl, Lib.hid (H0.out.same fun i _ => by unfold fillP; rw [if_neg (by omega)])⟩
  case round =>
    clear H0
    obtain ⟨y, hy, hgk, rfl, HQ⟩ := hrel
    have HGK := Lib.hid hgk
    clear hgk
    by_cases hlt : y < 5
    · have hyi : (y : Int) < 5 := by omega
      go_wp2_with fail
      go_loopg [9] 5 (fun k s9 wx => ∃ x : Nat, x ≤ 5 ∧ k = 5 - x ∧ s9 = .int .i64 (x : Int) ∧ Hid (Three .u64 25 w wx g 98 98 98 cs (arr .u64 25 fun _ => 0) (fillP (fun i => ln (fchi B i)) (y * 5 + x))))
      case atStart => exact ⟨0, Nat.zero_le _, rfl, rfl, HQ⟩
      case round =>
        clear HQ
        obtain ⟨x, hx, hgk, rfl, HQ⟩ := hrel
        have HGK2 := Lib.hid hgk
        clear hgk
        by_cases hlt2 : x < 5
        · have hxi : (x : Int) < 5 := by omega
          obtain ⟨n0, h0⟩ : ∃ n0, x + y * 5 = n0 := ⟨_, rfl⟩
          obtain ⟨n1, h1⟩ : ∃ n1, (x + 1) % 5 + y * 5 = n1 := ⟨_, rfl⟩
          obtain ⟨n2, h2⟩ : ∃ n2, (x + 2) % 5 + y * 5 = n2 := ⟨_, rfl⟩
          have HI0 := Lib.hid (fun w => (index_any (x : Int) (y : Int) n0 w (by omega) (by omega) (by omega) (by omega) (by omega)).mono (R' := fun e w' => e = .returned (.int .i64 (n0 : Int)) ∧ w' = w) fun _ _ h => ⟨h.1, h.2.symm⟩)
          have e1 : IntKind.i64.wrap ((x : Int) + 1) = (x : Int) + 1 := IntWalk.i64_in _ (by omega)
          have e2 : IntKind.i64.wrap ((x : Int) + 2) = (x : Int) + 2 := IntWalk.i64_in _ (by omega)
          have HI1 := Lib.hid (fun w => (index_any (IntKind.i64.wrap ((x : Int) + 1)) (y : Int) n1 w (by omega) (by omega) (by omega) (by omega) (by omega)).mono (R' := fun e w' => e = .returned (.int .i64 (n1 : Int)) ∧ w' = w) fun _ _ h => ⟨h.1, h.2.symm⟩)
          have HI2 := Lib.hid (fun w => (index_any (IntKind.i64.wrap ((x : Int) + 2)) (y : Int) n2 w (by omega) (by omega) (by omega) (by omega) (by omega)).mono (R' := fun e w' => e = .returned (.int .i64 (n2 : Int)) ∧ w' = w) fun _ _ h => ⟨h.1, h.2.symm⟩)
          have hn0 : (n0 : Int) < 25 := by omega
          have hn1 : (n1 : Int) < 25 := by omega
          have hn2 : (n2 : Int) < 25 := by omega
          have hc0 : wr.cell? ⟨g, n0, none⟩ = some (.int .u64 (ln (B n0))) := by rw [HQ.out.2.1.cell]; exact HC.out _ (by omega)
          have hc1 : wr.cell? ⟨g, n1, none⟩ = some (.int .u64 (ln (B n1))) := by rw [HQ.out.2.1.cell]; exact HC.out _ (by omega)
          have hc2 : wr.cell? ⟨g, n2, none⟩ = some (.int .u64 (ln (B n2))) := by rw [HQ.out.2.1.cell]; exact HC.out _ (by omega)
          have hc4 := HQ.out.2.2.2.at n0 (by omega)
          have hf4 := Row.fr HQ.out.2.2.2 n0
          have hch : fchi B n0 = B n0 ^^^ (~~~ B n1 &&& B n2) := by
            unfold fchi
            rw [show n0 % 5 = x by omega, show n0 / 5 = y by omega, show (x + 1) % 5 + 5 * y = n1 by omega, show (x + 2) % 5 + 5 * y = n2 by omega]
          have hx0 := not_ln (B n1)
          have hx1 := and_ln (~~~ B n1) (B n2)
          have hx2 := xor_ln (B n0) (~~~ B n1 &&& B n2)
          rw [← hch] at hx2
          have HQ1 : Hid (Three .u64 25 w (wr.setCell ⟨g + 1 + 1, n0, none⟩ (.int .u64 (ln (fchi B n0)))) g 98 98 98 cs (arr .u64 25 fun _ => 0) (fillP (fun i => ln (fchi B i)) (y * 5 + (x + 1)))) := by
            refine Lib.hid ((HQ.out.put hge n0 (by omega) _).same fun i _ => ?_)
            have := fillP_put (fun i => ln (fchi B i)) n0 i
            rw [show y * 5 + (x + 1) = n0 + 1 by omega, show y * 5 + x = n0 by omega]
            exact this
          clear hch h0 h1 h2 HQ e1 e2
          generalize fillP (fun i => ln (fchi B i)) (y * 5 + x) n0 = old at *
          generalize fchi B n0 = T at *
          generalize ~~~ B n1 &&& B n2 = U at *
          generalize ~~~ B n1 = nb at *
          generalize B n0 = b0 at *
          generalize B n1 = b1 at *
          generalize B n2 = b2 at *
          go_wp2_with fail
          go_still_tail 24, (by kernel_rfl)
          still_call (HI0.out _)
          repeat still_step
          still_call (HI0.out _)
          repeat still_step
          still_call (HI1.out _)
          repeat still_step
          still_call (HI2.out _)
          repeat still_step
          refine wpStill_nil ?_
          change wpList _ _ _ _ _ wr.drew
          have HQ2 := Lib.hid (HQ1.out.drewN 1)
          change Hid (Three .u64 25 w (wr.drew.setCell ⟨g + 1 + 1, n0, none⟩ (.int .u64 (ln T))) g _ _ _ _ _ _) at HQ2
          have hc4' : wr.drew.cell? ⟨g + 1 + 1, n0, none⟩ = some (.int .u64 old) := hc4
          have hf4' : wr.drew.frozen? ⟨g + 1 + 1, n0, none⟩ = false := hf4
          clear HQ1 hc0 hc1 hc2 hc4 hf4
          generalize wr.drew = wd at *
          go_wp2_with fail
          go_roundg (5 - (x + 1))
          case rel => exact ⟨x + 1, by omega, rfl, by go_num, HQ2⟩
          case measure => have := HGK2.out; omega
        · obtain rfl : x = 5 := by omega
          go_wp2_with fail
          go_roundg (5 - (y + 1))
          case rel => exact ⟨y + 1, by omega, rfl, by go_num, by rw [show (y + 1) * 5 = y * 5 + 5 by omega]; exact HQ⟩
          case measure => have := HGK.out; omega
    · obtain rfl : y = 5 := by omega
      have HQ3 : Hid (Three .u64 25 w wr g 98 98 98 cs (arr .u64 25 fun _ => 0) fun i => ln (fchi B i)) := Lib.hid (HQ.out.same fun i hi => by unfold fillP; rw [if_pos (by omega)])
      have hr2 := HQ3.out.2.2.2
      have hr1 := HQ3.out.2.2.1
      have HP := Lib.hid HQ3.out.1
      unfold LM at hr2
      clear HQ HQ3
      have hi2 : (Tryz.prog.info? 98).map (·.size) = some (arr .u64 25 fun i => ln (fchi B i)).size := by rw [arr_size]; kernel_rfl
      have hs2 : (arr .u64 25 fun _ => 0).size = (arr .u64 25 fun i => ln (fchi B i)).size := by rw [arr_size, arr_size]
      have ho2 := arr_one .u64 25 fun i => ln (fchi B i)
      generalize hcc : arr .u64 25 (fun i => ln (fchi B i)) = c2 at *
      have HCC := Lib.hid hcc
      clear hcc
      generalize arr .u64 25 (fun _ => 0) = c1 at *
      go_wp2_with (first | (refine wpList_load_row rfl 98 _ rfl (g + 1 + 1) rfl _ _ (0, 0) _ hr2 Tryz.underlying98 rfl hi2 ?_) | (refine wpList_store_row rfl 98 _ _ rfl (g + 1) _ rfl rfl _ _ hr1 hi2 hs2 ho2 ?_))
      refine bodyPost_ret (results_cell_row rfl _ _ (g + 1) _ c2 (0, 0) _ rfl (setRow_heap wr (g + 1) c1 c2 _ _ hr1) Tryz.underlying98 rfl hi2) rfl ?_
      exact ⟨by rw [HCC.out], below_setRow HP.out (by omega) _⟩

def frP (T : Nat → Lane) (k j : Nat) : Int := if fsrc j < k then ln (frho T j) else 0
theorem frP_put (T : Nat → Lane) (k j : Nat) (hk : k < 25) (hj : j < 25) : upd (frP T k) (fdst k) (ln (rotN (T k) (roff k))) j = frP T (k + 1) j := by
  have h1 := fsrc_fdst ⟨k, hk⟩
  have h2 := fdst_fsrc ⟨j, hj⟩
  simp only at h1 h2
  by_cases e : j = fdst k
  · subst e
    rw [upd_at]
    unfold frP frho
    rw [h1.1, if_pos (by omega)]
  · rw [upd_ne _ _ e]
    have hne : fsrc j ≠ k := fun h => e (by rw [← h, h2.1])
    unfold frP
    by_cases h : fsrc j < k
    · rw [if_pos h, if_pos (by omega)]
    · rw [if_neg h, if_neg (by omega)]
/-- The blocks of the second step: the lanes, the offsets, the result, the lanes anew. -/
def RH (w wx : World) (g : Nat) (cs co : Array Value) (f : Nat → Int) : Prop :=
  Past w wx ∧ Row wx g 98 cs ∧ Row wx (g + 1) 120 co ∧ Row wx (g + 1 + 1) 98 (arr .u64 25 fun _ => 0) ∧ LM .u64 wx (g + 1 + 1 + 1) 98 25 f
section
variable {w wx : World} {g : Nat} {cs co : Array Value} {f f' : Nat → Int}
theorem RH.new (w : World) (cs co : Array Value) : RH w ((((w.alloc (.cells cs 98)).alloc (.cells co 120)).alloc (.cells (arr .u64 25 fun _ => 0) 98)).alloc (.cells (arr .u64 25 fun _ => 0) 98)) w.heap.size cs co fun _ => 0 := by
  refine ⟨((((Below.refl _ _).alloc (Nat.le_refl _) _).alloc (by simp) _).alloc (by simp; omega) _).alloc (by simp; omega) _, (((Row.new w _ _).alloc _).alloc _).alloc _, ?_, ?_, ?_⟩
  · have := ((Row.new (w.alloc (.cells cs 98)) 120 co).alloc (.cells (arr .u64 25 fun _ => 0) 98)).alloc (.cells (arr .u64 25 fun _ => 0) 98)
    simpa using this
  · have := (Row.new ((w.alloc (.cells cs 98)).alloc (.cells co 120)) 98 (arr .u64 25 fun _ => 0)).alloc (.cells (arr .u64 25 fun _ => 0) 98)
    simpa using this
  · have := Row.new (((w.alloc (.cells cs 98)).alloc (.cells co 120)).alloc (.cells (arr .u64 25 fun _ => 0) 98)) 98 (arr .u64 25 fun _ => 0)
    simpa using this
theorem RH.put (h : RH w wx g cs co f) (hg : w.heap.size ≤ g) (i : Nat) (hi : i < 25) (v : Int) : RH w (wx.setCell ⟨g + 1 + 1 + 1, i, none⟩ (.int .u64 v)) g cs co (upd f i v) :=
  ⟨h.1.set (by show _ ≤ g + 1 + 1 + 1; omega) _, h.2.1.setOther (by omega) _ _, h.2.2.1.setOther (by omega) _ _, h.2.2.2.1.setOther (by omega) _ _, h.2.2.2.2.put i hi v⟩
theorem RH.drewN (h : RH w wx g cs co f) (m : Nat) : RH w (wx.drewN m) g cs co f := ⟨h.1.drewN m, h.2⟩
theorem RH.same (h : RH w wx g cs co f) (he : ∀ i, i < 25 → f i = f' i) : RH w wx g cs co f' := ⟨h.1, h.2.1, h.2.2.1, h.2.2.2.1, h.2.2.2.2.same he⟩
end

set_option maxHeartbeats 4000000 in
set_option maxRecDepth 100000 in
theorem moved_any (T : Nat → Lane) (w : World) :
    Calls Tryz.prog 86 #[.agg (arr .u64 25 fun i => ln (T i)), .agg (arr .i64 25 fun i => (offN (i % 5 * 5 + i / 5) : Int))] w fun e w' => e = .returned (.agg (arr .u64 25 fun i => ln (frho T i))) ∧ Past w w' := by
  have hsz := arr_size .u64 25 fun i => ln (T i)
  have hszo := arr_size .i64 25 fun i => (offN (i % 5 * 5 + i / 5) : Int)
  obtain ⟨cs, hcs⟩ : ∃ cs, arr .u64 25 (fun i => ln (T i)) = cs := ⟨_, rfl⟩
  obtain ⟨co, hco⟩ : ∃ co, arr .i64 25 (fun i => (offN (i % 5 * 5 + i / 5) : Int)) = co := ⟨_, rfl⟩
  have H0 := Lib.hid (RH.new w cs co)
  rw [hcs] at hsz ⊢
  rw [hco] at hszo ⊢
  have HC : Hid (∀ i, i < 25 → cs[i]? = some (.int .u64 (ln (T i)))) := Lib.hid fun i hi => arr_cells hcs hi
  have HO : Hid (∀ i, i < 25 → co[i]? = some (.int .i64 (roff i : Int))) := Lib.hid fun i hi => arr_cells hco hi
  clear hcs hco
  go_enter Tryz.func86, Tryz.ntmps86
  go_upto_region 2 with (fail)
  rw [arr_zero25]
  generalize (((w.alloc (.cells cs 98)).alloc (.cells co 120)).alloc (.cells (arr .u64 25 fun _ => 0) 98)).alloc (.cells (arr .u64 25 fun _ => 0) 98) = w3 at *
  obtain ⟨g, hg⟩ : ∃ g, w.heap.size = g := ⟨_, rfl⟩
  have hge : w.heap.size ≤ g := by omega
  rw [hg] at H0 ⊢
  clear hg
  go_wp2_with fail
  go_loopg [9] 5 (fun k s9 wx => ∃ y : Nat, y ≤ 5 ∧ k = 5 - y ∧ s9 = .int .i64 (y : Int) ∧ Hid (RH w wx g cs co (frP T (y * 5))))
  case atStart => exact ⟨0, Nat.zero_le _, rfl, rfl, Lib.hid (H0.out.same fun i _ => by unfold frP; rw [if_neg (by omega)])⟩
  case round =>
    clear H0
    obtain ⟨y, hy, hgk, rfl, HQ⟩ := hrel
    have HGK := Lib.hid hgk
    clear hgk
    by_cases hlt : y < 5
    · have hyi : (y : Int) < 5 := by omega
      go_wp2_with fail
      go_loopg [12] 5 (fun k s12 wx => ∃ x : Nat, x ≤ 5 ∧ k = 5 - x ∧ s12 = .int .i64 (x : Int) ∧ Hid (RH w wx g cs co (frP T (y * 5 + x))))
      case atStart => exact ⟨0, Nat.zero_le _, rfl, rfl, HQ⟩
      case round =>
        clear HQ
        obtain ⟨x, hx, hgk, rfl, HQ⟩ := hrel
        have HGK2 := Lib.hid hgk
        clear hgk
        by_cases hlt2 : x < 5
        · have hxi : (x : Int) < 5 := by omega
          obtain ⟨n0, h0⟩ : ∃ n0, x + y * 5 = n0 := ⟨_, rfl⟩
          obtain ⟨n1, h1⟩ : ∃ n1, y + (2 * x + 3 * y) % 5 * 5 = n1 := ⟨_, rfl⟩
          have HI0 := Lib.hid (fun w => index_any (x : Int) (y : Int) n0 w (by omega) (by omega) (by omega) (by omega) (by omega))
          have e1 : IntKind.i64.wrap (2 * (x : Int)) = 2 * (x : Int) := IntWalk.i64_in _ (by omega)
          have e2 : IntKind.i64.wrap (3 * (y : Int)) = 3 * (y : Int) := IntWalk.i64_in _ (by omega)
          have e3 : IntKind.i64.wrap (IntKind.i64.wrap (2 * (x : Int)) + IntKind.i64.wrap (3 * (y : Int))) = 2 * (x : Int) + 3 * (y : Int) := by rw [e1, e2]; exact IntWalk.i64_in _ (by omega)
          have e4 : (2 * (x : Int) + 3 * (y : Int)) % 5 = ((((2 * x + 3 * y) % 5 : Nat)) : Int) := by rw [show 2 * (x : Int) + 3 * (y : Int) = ((2 * x + 3 * y : Nat) : Int) by omega]; rfl
          have HI1 := Lib.hid (fun w => (index_any (y : Int) (IntKind.i64.wrap (IntKind.i64.wrap (2 * (x : Int)) + IntKind.i64.wrap (3 * (y : Int)))) n1 w (by omega) (by omega) (by rw [e3]; omega) (by rw [e3]; omega) (by rw [e3, e4]; omega)).mono (R' := fun e w' => e = .returned (.int .i64 (n1 : Int)) ∧ w' = w) fun _ _ h => ⟨h.1, h.2.symm⟩)
          have hn0 : (n0 : Int) < 25 := by omega
          have hn1 : (n1 : Int) < 25 := by omega
          have hc0 : wr.cell? ⟨g, n0, none⟩ = some (.int .u64 (ln (T n0))) := by rw [HQ.out.2.1.cell]; exact HC.out _ (by omega)
          have hc1 : wr.cell? ⟨g + 1, n0, none⟩ = some (.int .i64 (roff n0 : Int)) := by rw [HQ.out.2.2.1.cell]; exact HO.out _ (by omega)
          have hc4 := HQ.out.2.2.2.2.at n1 (by omega)
          have hf4 := Row.fr HQ.out.2.2.2.2 n1
          have HR1 := Lib.hid (fun w => (rotl_any (T n0) (roff n0) (roff_lt ⟨n0, by omega⟩) w).mono (R' := fun e w' => e = .returned (.int .u64 (ln (rotN (T n0) (roff n0)))) ∧ w' = w) fun _ _ h => ⟨h.1, h.2.symm⟩)
          have hda : fdst n0 = n1 := by
            unfold fdst
            rw [show n0 % 5 = x by omega, show n0 / 5 = y by omega]
            omega
          have HQ1 : Hid (RH w (wr.setCell ⟨g + 1 + 1 + 1, n1, none⟩ (.int .u64 (ln (rotN (T n0) (roff n0))))) g cs co (frP T (y * 5 + (x + 1)))) := by
            refine Lib.hid ((HQ.out.put hge n1 (by omega) _).same fun i hi => ?_)
            have := frP_put T n0 i (by omega) hi
            rw [show y * 5 + (x + 1) = n0 + 1 by omega, show y * 5 + x = n0 by omega, ← hda]
            exact this
          clear h0 h1 HQ e1 e2 e3 e4 hda
          generalize frP T (y * 5 + x) n1 = old at *
          generalize rotN (T n0) (roff n0) = R1 at *
          generalize roff n0 = rk at *
          generalize T n0 = T0 at *
          go_wp2_with fail
          refine (HI0.out _).mono ?_
          rintro e w' ⟨rfl, rfl⟩
          go_wp2_with fail
          go_still_tail 15, (by kernel_rfl)
          still_call (HI1.out _)
          repeat still_step
          still_call (HR1.out _)
          repeat still_step
          refine wpStill_nil ?_
          change wpList _ _ _ _ _ wr.drew
          have HQ2 := Lib.hid (HQ1.out.drewN 1)
          change Hid (RH w (wr.drew.setCell ⟨g + 1 + 1 + 1, n1, none⟩ (.int .u64 (ln R1))) g _ _ _) at HQ2
          have hc4' : wr.drew.cell? ⟨g + 1 + 1 + 1, n1, none⟩ = some (.int .u64 old) := hc4
          have hf4' : wr.drew.frozen? ⟨g + 1 + 1 + 1, n1, none⟩ = false := hf4
          clear HQ1 hc0 hc1 hc4 hf4
          generalize wr.drew = wd at *
          go_wp2_with fail
          go_roundg (5 - (x + 1))
          case rel => exact ⟨x + 1, by omega, rfl, by go_num, HQ2⟩
          case measure => have := HGK2.out; omega
        · obtain rfl : x = 5 := by omega
          go_wp2_with fail
          go_roundg (5 - (y + 1))
          case rel => exact ⟨y + 1, by omega, rfl, by go_num, by rw [show (y + 1) * 5 = y * 5 + 5 by omega]; exact HQ⟩
          case measure => have := HGK.out; omega
    · obtain rfl : y = 5 := by omega
      have HQ3 : Hid (RH w wr g cs co fun i => ln (frho T i)) := Lib.hid (HQ.out.same fun i hi => by
        have := (fdst_fsrc ⟨i, hi⟩).2
        simp only at this
        unfold frP
        rw [if_pos (by omega)])
      have hr2 := HQ3.out.2.2.2.2
      have hr1 := HQ3.out.2.2.2.1
      have HP := Lib.hid HQ3.out.1
      unfold LM at hr2
      clear HQ HQ3
      have hi2 : (Tryz.prog.info? 98).map (·.size) = some (arr .u64 25 fun i => ln (frho T i)).size := by rw [arr_size]; kernel_rfl
      have hs2 : (arr .u64 25 fun _ => 0).size = (arr .u64 25 fun i => ln (frho T i)).size := by rw [arr_size, arr_size]
      have ho2 := arr_one .u64 25 fun i => ln (frho T i)
      generalize hcc : arr .u64 25 (fun i => ln (frho T i)) = c2 at *
      have HCC := Lib.hid hcc
      clear hcc
      generalize arr .u64 25 (fun _ => 0) = c1 at *
      go_wp2_with (first | (refine wpList_load_row rfl 98 _ rfl (g + 1 + 1 + 1) rfl _ _ (0, 0) _ hr2 Tryz.underlying98 rfl hi2 ?_) | (refine wpList_store_row rfl 98 _ _ rfl (g + 1 + 1) _ rfl rfl _ _ hr1 hi2 hs2 ho2 ?_))
      refine bodyPost_ret (results_cell_row rfl _ _ (g + 1 + 1) _ c2 (0, 0) _ rfl (setRow_heap wr (g + 1 + 1) c1 c2 _ _ hr1) Tryz.underlying98 rfl hi2) rfl ?_
      exact ⟨by rw [HCC.out], below_setRow HP.out (by omega) _⟩

end Go.Proofs.YtalhdalmafhofaaGreatDoor

namespace Go.Proofs.YtalhdalmafhofaaGreatDoor
open Go.RowKit

theorem pow_256 (m : Nat) : (256 : Int) ^ m = 2 ^ (8 * m) := by
  rw [Int.pow_mul]
  rfl
theorem pow_le2 (a b : Nat) (h : a ≤ b) : (2 : Int) ^ a ≤ 2 ^ b := by
  have h1 := Nat.pow_le_pow_right (show 0 < 2 by omega) h
  have e1 : ((2 ^ a : Nat) : Int) = 2 ^ a := Int.natCast_pow 2 a
  have e2 : ((2 ^ b : Nat) : Int) = 2 ^ b := Int.natCast_pow 2 b
  omega
theorem mod_join (x P : Int) (hP : 0 < P) : x % (P * 256) = x % P + x / P % 256 * P := by
  have h1 := Int.mul_ediv_add_emod x P
  have h2 := Int.mul_ediv_add_emod (x / P) 256
  have h3 := Int.mul_ediv_add_emod x (P * 256)
  rw [← Int.ediv_ediv_of_nonneg (show 0 ≤ P by omega)] at h3
  generalize x / P / 256 = q at *
  generalize x / P % 256 = b at *
  rw [← h2] at h1
  rw [Int.mul_add, ← Int.mul_assoc] at h1
  rw [Int.mul_comm b P]
  omega
theorem join_byte (x : Int) (m : Nat) (hm : m < 8) : bits .or .u64 (x % 2 ^ (8 * m)) (IntKind.u64.wrap (x / 2 ^ (8 * m) % 256 * 2 ^ (8 * m))) = x % 2 ^ (8 * (m + 1)) := by
  have hP : (0 : Int) < 2 ^ (8 * m) := Int.pow_pos (by decide)
  have hPP : (2 : Int) ^ (8 * (m + 1)) = 2 ^ (8 * m) * 256 := by rw [show 8 * (m + 1) = 8 * m + 8 by omega, Int.pow_add]; rfl
  have hle := pow_le2 (8 * (m + 1)) 64 (by omega)
  have hb0 : 0 ≤ x / 2 ^ (8 * m) % 256 := Int.emod_nonneg _ (by decide)
  have hb1 : x / 2 ^ (8 * m) % 256 < 256 := Int.emod_lt_of_pos _ (by decide)
  have hx0 : 0 ≤ x % 2 ^ (8 * m) := Int.emod_nonneg _ (by omega)
  have hx1 : x % 2 ^ (8 * m) < 2 ^ (8 * m) := Int.emod_lt_of_pos _ hP
  rw [hPP, mod_join x _ hP]
  rw [hPP] at hle
  have hle1 := pow_le2 (8 * m) 64 (by omega)
  have e64 : (2 : Int) ^ 64 = 18446744073709551616 := by decide
  obtain ⟨P, hPe⟩ : ∃ P : Int, 2 ^ (8 * m) = P := ⟨_, rfl⟩
  rw [hPe] at hP hle hle1 hb0 hb1 hx0 hx1 ⊢
  clear hPP
  generalize x / P % 256 = b at *
  generalize x % P = y at *
  have hbP : b * P ≤ 255 * P := Int.mul_le_mul_of_nonneg_right (by omega) (by omega)
  have hb2 : 0 ≤ b * P := Int.mul_nonneg hb0 (by omega)
  have hw : IntKind.u64.wrap (b * P) = b * P := by rw [IntKind.wrap_u64]; omega
  rw [hw]
  exact bits_join_low .u64 64 (by decide) wraps_u64 (8 * m) y (b * P) hx0 (by rw [hPe]; exact hx1) (by omega) hb2 (by rw [hPe]; exact Int.mul_emod_left _ _) (by omega)
/-- What stands behind i bytes. -/
def frB (S : Nat → Lane) (i q : Nat) : Int := if q < i / 8 then ln (S q) else if q = i / 8 then ln (S q) % 2 ^ (8 * (i % 8)) else 0
theorem frB_zero (S : Nat → Lane) (q : Nat) : frB S 0 q = 0 := by
  unfold frB
  rw [if_neg (by omega)]
  by_cases h : q = 0 / 8
  · rw [if_pos h]
    simp
  · rw [if_neg h]
theorem frB_at (S : Nat → Lane) (i : Nat) : frB S i (i / 8) = ln (S (i / 8)) % 2 ^ (8 * (i % 8)) := by
  unfold frB
  rw [if_neg (by omega), if_pos rfl]
theorem frB_put (S : Nat → Lane) (i q : Nat) : upd (frB S i) (i / 8) (ln (S (i / 8)) % 2 ^ (8 * (i % 8 + 1))) q = frB S (i + 1) q := by
  have hr := ln_rng (S (i / 8))
  have e64 : (2 : Int) ^ (8 * 8) = 18446744073709551616 := by decide
  by_cases e : q = i / 8
  · subst e
    rw [upd_at]
    unfold frB
    by_cases h : i % 8 = 7
    · rw [if_pos (by omega), h, e64]
      omega
    · rw [if_neg (by omega), if_pos (by omega), show (i + 1) % 8 = i % 8 + 1 by omega]
  · rw [upd_ne _ _ e]
    unfold frB
    by_cases h : q < i / 8
    · rw [if_pos h, if_pos (by omega)]
    · rw [if_neg h, if_neg e, if_neg (by omega)]
      by_cases h2 : q = (i + 1) / 8
      · rw [if_pos h2, show (i + 1) % 8 = 0 by omega]
        simp
      · rw [if_neg h2]
theorem frB_all (S : Nat → Lane) (q : Nat) (h : q < 25) : frB S 200 q = ln (S q) := by
  unfold frB
  rw [if_pos (by omega)]

set_option maxHeartbeats 1000000 in
set_option maxRecDepth 100000 in
theorem pbytes_any (S : Nat → Lane) (w : World) :
    Calls Tryz.prog 54 #[.agg (arr .u64 25 fun i => ln (S i))] w fun e w' => e = .returned (.agg (arr .u8 200 (kbyte S))) ∧ Past w w' := by
  have hsz := arr_size .u64 25 fun i => ln (S i)
  obtain ⟨cs, hcs⟩ : ∃ cs, arr .u64 25 (fun i => ln (S i)) = cs := ⟨_, rfl⟩
  have H0 := Lib.hid (Three.new .u8 200 w 98 67 67 cs (arr .u8 200 fun _ => 0) fun _ => 0)
  rw [hcs] at hsz ⊢
  have HC : Hid (∀ i, i < 25 → cs[i]? = some (.int .u64 (ln (S i)))) := Lib.hid fun i hi => arr_cells hcs hi
  clear hcs
  go_enter Tryz.func54, Tryz.ntmps54
  have hz := zero200
  go_upto_region 2 with (fail)
  clear hz
  generalize ((w.alloc (.cells cs 98)).alloc (.cells (arr .u8 200 fun _ => 0) 67)).alloc (.cells (arr .u8 200 fun _ => 0) 67) = w3 at *
  obtain ⟨g, hg⟩ : ∃ g, w.heap.size = g := ⟨_, rfl⟩
  have hge : w.heap.size ≤ g := by omega
  rw [hg] at H0 ⊢
  clear hg
  go_wp2_with fail
  go_loopg [5] 200 (fun k s5 wx => ∃ i : Nat, i ≤ 200 ∧ k = 200 - i ∧ s5 = .int .i64 (i : Int) ∧ Hid (Three .u8 200 w wx g 98 67 67 cs (arr .u8 200 fun _ => 0) (fillP (kbyte S) i)))
  case atStart => exact ⟨0, Nat.zero_le _, rfl, rfl, Lib.hid (H0.out.same fun i _ => by unfold fillP; rw [if_neg (by omega)])⟩
  case round =>
    clear H0
    obtain ⟨i, hi, hgk, rfl, HQ⟩ := hrel
    have HGK := Lib.hid hgk
    clear hgk
    by_cases hlt : i < 200
    · have hii : (i : Int) < 200 := by omega
      obtain ⟨q, hq⟩ : ∃ q, i / 8 = q := ⟨_, rfl⟩
      obtain ⟨m, hm⟩ : ∃ m, i % 8 = m := ⟨_, rfl⟩
      have hqi : (i : Int) / 8 = (q : Int) := by omega
      have hmi : (i : Int) % 8 = (m : Int) := by omega
      have hq0 : (q : Int) < 25 := by omega
      have hm0 : (m : Int) < 8 := by omega
      have hc1 : wr.cell? ⟨g, q, none⟩ = some (.int .u64 (ln (S q))) := by rw [HQ.out.2.1.cell]; exact HC.out _ (by omega)
      have hc2 := HQ.out.2.2.2.at i hlt
      have hf2 := Row.fr HQ.out.2.2.2 i
      have HQ1 : Hid (Three .u8 200 w (wr.setCell ⟨g + 1 + 1, i, none⟩ (.int .u8 (ln (S q) / 2 ^ (8 * m) % 256))) g 98 67 67 cs (arr .u8 200 fun _ => 0) (fillP (kbyte S) (i + 1))) := by
        refine Lib.hid ((HQ.out.put hge i hlt _).same fun j _ => ?_)
        have := fillP_put (kbyte S) i j
        rw [← this]
        congr 1
        unfold kbyte
        rw [hq, hm, pow_256]
      clear hm hq HQ
      generalize fillP (kbyte S) i i = old at *
      generalize ln (S q) = L at *
      go_wp2_with fail
      go_roundg (200 - (i + 1))
      case rel => exact ⟨i + 1, by omega, rfl, by go_num, HQ1⟩
      case measure => have := HGK.out; omega
    · obtain rfl : i = 200 := by omega
      have HQ3 : Hid (Three .u8 200 w wr g 98 67 67 cs (arr .u8 200 fun _ => 0) (kbyte S)) := Lib.hid (HQ.out.same fun i hi => by unfold fillP; rw [if_pos (by omega)])
      have hr2 := HQ3.out.2.2.2
      have hr1 := HQ3.out.2.2.1
      have HP := Lib.hid HQ3.out.1
      unfold LM at hr2
      clear HQ HQ3
      have hi2 : (Tryz.prog.info? 67).map (·.size) = some (arr .u8 200 (kbyte S)).size := by rw [arr_size]; kernel_rfl
      have hs2 : (arr .u8 200 fun _ => 0).size = (arr .u8 200 (kbyte S)).size := by rw [arr_size, arr_size]
      have ho2 := arr_one .u8 200 (kbyte S)
      generalize hcc : arr .u8 200 (kbyte S) = c2 at *
      have HCC := Lib.hid hcc
      clear hcc
      generalize arr .u8 200 (fun _ => 0) = c1 at *
      go_wp2_with (first | (refine wpList_load_row rfl 67 _ rfl (g + 1 + 1) rfl _ _ (0, 0) _ hr2 Tryz.underlying67 rfl hi2 ?_) | (refine wpList_store_row rfl 67 _ _ rfl (g + 1) _ rfl rfl _ _ hr1 hi2 hs2 ho2 ?_))
      refine bodyPost_ret (results_cell_row rfl _ _ (g + 1) _ c2 (0, 0) _ rfl (setRow_heap wr (g + 1) c1 c2 _ _ hr1) Tryz.underlying67 rfl hi2) rfl ?_
      exact ⟨by rw [HCC.out], below_setRow HP.out (by omega) _⟩

set_option maxHeartbeats 1000000 in
set_option maxRecDepth 100000 in
theorem pfrom_any (S : Nat → Lane) (w : World) :
    Calls Tryz.prog 56 #[.agg (arr .u8 200 (kbyte S))] w fun e w' => e = .returned (.agg (arr .u64 25 fun i => ln (S i))) ∧ Past w w' := by
  have hsz := arr_size .u8 200 (kbyte S)
  obtain ⟨cs, hcs⟩ : ∃ cs, arr .u8 200 (kbyte S) = cs := ⟨_, rfl⟩
  have H0 := Lib.hid (Three.new .u64 25 w 67 98 98 cs (arr .u64 25 fun _ => 0) fun _ => 0)
  rw [hcs] at hsz ⊢
  have HC : Hid (∀ i, i < 200 → cs[i]? = some (.int .u8 (kbyte S i))) := Lib.hid fun i hi => arr_cells hcs hi
  clear hcs
  have hiS : (Tryz.prog.info? 67).map (·.size) = some cs.size := by rw [hsz]; kernel_rfl
  obtain ⟨i8, hi8, _, hz8, _⟩ := info_parts (show (Tryz.prog.info? 5).map (fun i => (i.zero, i.size, i.bytes)) = some (some (.int .u8 0), 1, 1) by kernel_rfl)
  have HIX : Hid (∀ (i : Nat), i < 200 → ∀ w, (Instr.index 67 (.agg cs) (.int .i64 (i : Int))).run Tryz.prog w = .ok (.int .u8 (kbyte S i)) w) :=
    Lib.hid fun i hi w => run_index_cells w Tryz.underlying67 Tryz.underlying5 hi8 hz8 (i : Int) (by omega) (by omega) (by rw [Int.toNat_natCast]; exact HC.out i hi)
  clear HC hi8 hz8
  go_enter Tryz.func56, Tryz.ntmps56
  go_upto_region 2 with (fail)
  rw [arr_zero25]
  generalize ((w.alloc (.cells cs 67)).alloc (.cells (arr .u64 25 fun _ => 0) 98)).alloc (.cells (arr .u64 25 fun _ => 0) 98) = w3 at *
  obtain ⟨g, hg⟩ : ∃ g, w.heap.size = g := ⟨_, rfl⟩
  have hge : w.heap.size ≤ g := by omega
  rw [hg] at H0 ⊢
  clear hg
  have hra := H0.out.2.1
  go_wp2_with (refine wpList_load_row rfl 67 _ rfl g rfl _ _ (0, 0) _ hra Tryz.underlying67 rfl hiS ?_)
  clear hra
  go_wp2_with fail
  go_loopg [7] 200 (fun k s7 wx => ∃ i : Nat, i ≤ 200 ∧ k = 200 - i ∧ s7 = .int .i64 (i : Int) ∧ Hid (Three .u64 25 w wx g 67 98 98 cs (arr .u64 25 fun _ => 0) (frB S i)))
  case atStart => exact ⟨0, Nat.zero_le _, rfl, rfl, Lib.hid (H0.out.same fun i _ => (frB_zero S i).symm)⟩
  case round =>
    clear H0
    obtain ⟨i, hi, hgk, rfl, HQ⟩ := hrel
    have HGK := Lib.hid hgk
    clear hgk
    by_cases hlt : i < 200
    · have hii : (i : Int) < 200 := by omega
      have hix := HIX.out i hlt
      obtain ⟨q, hq⟩ : ∃ q, i / 8 = q := ⟨_, rfl⟩
      obtain ⟨m, hm⟩ : ∃ m, i % 8 = m := ⟨_, rfl⟩
      have hqi : (i : Int).tdiv 8 = (q : Int) := by rw [← hq, Int.tdiv_eq_ediv_of_nonneg (by omega)]; omega
      have hmi : (i : Int).tmod 8 = (m : Int) := by rw [← hm, Int.tmod_eq_emod_of_nonneg (by omega)]; omega
      have hq0 : (q : Int) < 25 := by omega
      have hm0 : (m : Int) < 8 := by omega
      have hc2 := HQ.out.2.2.2.at q (by omega)
      have hf2 := Row.fr HQ.out.2.2.2 q
      have e0 := frB_at S i
      rw [hq, hm] at e0
      rw [e0] at hc2
      have hj := join_byte (ln (S q)) m (by omega)
      have hkb : kbyte S i = ln (S q) / 2 ^ (8 * m) % 256 := by
        unfold kbyte
        rw [hq, hm, pow_256]
      rw [← hkb] at hj
      have hk0 : 0 ≤ kbyte S i := by rw [hkb]; omega
      have hk1 : kbyte S i < 256 := by rw [hkb]; omega
      have HQ1 : Hid (Three .u64 25 w (wr.setCell ⟨g + 1 + 1, q, none⟩ (.int .u64 (ln (S q) % 2 ^ (8 * (m + 1))))) g 67 98 98 cs (arr .u64 25 fun _ => 0) (frB S (i + 1))) := by
        refine Lib.hid ((HQ.out.put hge q (by omega) _).same fun j _ => ?_)
        have := frB_put S i j
        rw [hq, hm] at this
        exact this
      clear hm hq HQ e0 hkb
      generalize ln (S q) % 2 ^ (8 * (m + 1)) = v1 at *
      generalize ln (S q) % 2 ^ (8 * m) = v0 at *
      generalize kbyte S i = b at *
      go_wp2_with fail
      go_region
      go_wp2_with fail
      go_roundg (200 - (i + 1))
      case rel => exact ⟨i + 1, by omega, rfl, by go_num, Lib.hid (HQ1.out.drewN 1)⟩
      case measure => have := HGK.out; omega
    · obtain rfl : i = 200 := by omega
      have HQ3 : Hid (Three .u64 25 w wr g 67 98 98 cs (arr .u64 25 fun _ => 0) fun i => ln (S i)) := Lib.hid (HQ.out.same fun i hi => frB_all S i hi)
      have hr2 := HQ3.out.2.2.2
      have hr1 := HQ3.out.2.2.1
      have HP := Lib.hid HQ3.out.1
      unfold LM at hr2
      clear HQ HQ3
      have hi2 : (Tryz.prog.info? 98).map (·.size) = some (arr .u64 25 fun i => ln (S i)).size := by rw [arr_size]; kernel_rfl
      have hs2 : (arr .u64 25 fun _ => 0).size = (arr .u64 25 fun i => ln (S i)).size := by rw [arr_size, arr_size]
      have ho2 := arr_one .u64 25 fun i => ln (S i)
      generalize hcc : arr .u64 25 (fun i => ln (S i)) = c2 at *
      have HCC := Lib.hid hcc
      clear hcc
      generalize arr .u64 25 (fun _ => 0) = c1 at *
      go_wp2_with (first | (refine wpList_load_row rfl 98 _ rfl (g + 1 + 1) rfl _ _ (0, 0) _ hr2 Tryz.underlying98 rfl hi2 ?_) | (refine wpList_store_row rfl 98 _ _ rfl (g + 1) _ rfl rfl _ _ hr1 hi2 hs2 ho2 ?_))
      refine bodyPost_ret (results_cell_row rfl _ _ (g + 1) _ c2 (0, 0) _ rfl (setRow_heap wr (g + 1) c1 c2 _ _ hr1) Tryz.underlying98 rfl hi2) rfl ?_
      exact ⟨by rw [HCC.out], below_setRow HP.out (by omega) _⟩

end Go.Proofs.YtalhdalmafhofaaGreatDoor

namespace Go.Proofs.YtalhdalmafhofaaGreatDoor
open Go.RowKit
set_option maxRecDepth 100000

/-- A step without a guard is wanted. -/
theorem step_wanted {P : Program} {ops : Array Oper} {o : Oper} {a : Act} {w : World} {K : Act → World → Prop} {Q : Exit → Act → World → Prop} {E : Prop} (hg : o.guard = none) (h : Oper.wp P o a w K Q) :
    if Region.wanted o (yielded ops a.tmps) = true then Oper.wp P o a w K Q else E := by
  rw [if_pos (by simp [Region.wanted, hg])]
  exact h

theorem state_size (S : Nat → Lane) : (Tryz.prog.info? 98).map (·.size) = some (arr .u64 25 fun i => ln (S i)).size := by rw [arr_size]; kernel_rfl

/-- The offsets as a value. -/
abbrev cofs : Array Value := arr .i64 25 fun i => (offN (i % 5 * 5 + i / 5) : Int)
/-- The blocks of a round: the state, the offsets, the result. -/
def RA (w wx : World) (g : Nat) (co cs : Array Value) : Prop := Past w wx ∧ Row wx g 98 cs ∧ Row wx (g + 1) 120 co ∧ Row wx (g + 2) 98 (arr .u64 25 fun _ => 0)
theorem RA.past {w wx wy : World} {g : Nat} {co cs : Array Value} (h : RA w wx g co cs) (hp : Past wx wy) : RA w wy g co cs := ⟨h.1.trans' hp, h.2.1.past hp, h.2.2.1.past hp, h.2.2.2.past hp⟩

set_option maxHeartbeats 4000000 in
theorem after_any (S : Nat → Lane) (c : Lane) (w : World) :
    Calls Tryz.prog 73 #[fl S, .agg cofs, .int .u64 (ln c)] w fun e w' => e = .returned (fl (fiota (fchi (frho (fth S))) c)) ∧ Past w w' := by
  have hM := fun w => mixed_any S w
  have hV := fun w => moved_any (fth S) w
  have hB := fun w => combined_any (frho (fth S)) w
  have hiS := state_size S
  have hiB := state_size (fchi (frho (fth S)))
  have hoB := arr_one .u64 25 fun i => ln (fchi (frho (fth S)) i)
  have hsB : (arr .u64 25 fun i => ln (S i)).size = (arr .u64 25 fun i => ln (fchi (frho (fth S)) i)).size := by rw [arr_size, arr_size]
  have hiO : (Tryz.prog.info? 120).map (·.size) = some cofs.size := by rw [arr_size]; kernel_rfl
  unfold fl
  have HM := Lib.hid hM
  have HV := Lib.hid hV
  have HB := Lib.hid hB
  clear hM hV hB
  obtain ⟨cs, hcs⟩ : ∃ cs, arr .u64 25 (fun i => ln (S i)) = cs := ⟨_, rfl⟩
  obtain ⟨cB, hcB⟩ : ∃ cB, arr .u64 25 (fun i => ln (fchi (frho (fth S)) i)) = cB := ⟨_, rfl⟩
  have HcB := Lib.hid hcB
  rw [hcs] at HM hiS hsB ⊢
  rw [hcB] at HB hiB hoB hsB
  clear hcs hcB
  generalize (arr .u64 25 fun i => ln (fth S i)) = cM at *
  generalize (arr .u64 25 fun i => ln (frho (fth S) i)) = cV at *
  generalize hco : cofs = co at *
  have HV' : Hid (∀ w, Calls Tryz.prog 86 #[.agg cM, .agg co] w fun e w' => e = .returned (.agg cV) ∧ Past w w') := by
    subst hco
    exact HV
  clear HV hco
  have H0 : Hid (RA w (((w.alloc (.cells cs 98)).alloc (.cells co 120)).alloc (.cells (arr .u64 25 fun _ => 0) 98)) w.heap.size co cs) := by
    refine Lib.hid ⟨((past_alloc6 _ _).trans' (past_alloc6 _ _)).trans' (past_alloc6 _ _), ((Row.new w _ _).alloc _).alloc _, ?_, ?_⟩
    · have := Row.new (w.alloc (.cells cs 98)) 120 co
      have h := this.alloc (.cells (arr .u64 25 fun _ => 0) 98)
      simpa using h
    · have := Row.new ((w.alloc (.cells cs 98)).alloc (.cells co 120)) 98 (arr .u64 25 fun _ => 0)
      simpa using this
  go_enter Tryz.func73, Tryz.ntmps73
  go_upto_region 1 with (fail)
  rw [arr_zero25]
  generalize ((w.alloc (.cells cs 98)).alloc (.cells co 120)).alloc (.cells (arr .u64 25 fun _ => 0) 98) = w2 at *
  obtain ⟨g, hg⟩ : ∃ g, w.heap.size = g := ⟨_, rfl⟩
  have hge : w.heap.size ≤ g := by omega
  rw [hg] at H0 ⊢
  clear hg
  obtain ⟨lO⟩ := co
  have hu25 := Tryz.underlying120
  have huS := Tryz.underlying98
  have hil : (Tryz.prog.info? 120).map (·.size) = some lO.length := hiO
  clear hiO
  have H1 : Hid (RA w w2.drew g ⟨lO⟩ cs) := Lib.hid ⟨H0.out.1.drewN 1, H0.out.2⟩
  clear H0
  refine wp_region_held_drew (S := fun w' => w'.rangeAt (g + 1) 0 lO) (by kernel_rfl) (Row.range H1.out.2.2.1) (fun hH => ?_)
  refine held_take 2 9 rfl rfl (by kernel_rfl) (by kernel_rfl) (by kernel_rfl) (fun _ _ _ h => h) (yieldsIf_load_mid rfl 120 (.tmp 4) rfl (g + 1) 0 rfl lO _ (fun _ h => h) hu25 rfl hil) hH ?_
  simp only [List.setIfInBounds_toArray, List.set_cons_zero, List.set_cons_succ]
  generalize w2.drew = w3 at *
  refine wpAnyH_ready (rs := [0]) (by kernel_rfl) (by simp) ?_
  refine AllReadyH.cons rfl (fun K hK => ?_) AllReadyH.nil
  refine step_wanted rfl ?_
  refine wp_load_row 98 (.tmp 3) rfl g rfl _ _ (0, 0) _ H1.out.2.1 huS rfl hiS ?_
  refine hK.out _ _ hH (fun hH => ?_)
  clear hK K
  refine wpAnyH_ready (rs := [1]) (by kernel_rfl) (by simp) ?_
  refine AllReadyH.cons rfl (fun K hK => ?_) AllReadyH.nil
  go_simp
  refine (HM.out _).mono ?_
  rintro e w4 ⟨rfl, hp⟩
  have H2 := Lib.hid (H1.out.past hp)
  refine hK.out _ _ (Row.range H2.out.2.2.1) (fun hH => ?_)
  clear hp hK K H1
  refine wpAnyH_ready (rs := [3]) (by kernel_rfl) (by simp) ?_
  refine AllReadyH.cons rfl (fun K hK => ?_) AllReadyH.nil
  go_simp
  refine (HV'.out _).mono ?_
  rintro e w5 ⟨rfl, hp⟩
  have H3 := Lib.hid (H2.out.past hp)
  refine hK.out _ _ (Row.range H3.out.2.2.1) (fun hH => ?_)
  clear hp hK K H2
  refine wpAnyH_ready (rs := [4]) (by kernel_rfl) (by simp) ?_
  refine AllReadyH.cons rfl (fun K hK => ?_) AllReadyH.nil
  go_simp
  refine (HB.out _).mono ?_
  rintro e w6 ⟨rfl, hp⟩
  have H4 := Lib.hid (H3.out.past hp)
  refine hK.out _ _ (Row.range H4.out.2.2.1) (fun hH => ?_)
  clear hp hK K H3
  have H5 : Hid (RA w (w6.setRow g cB) g ⟨lO⟩ cB) := by
    obtain ⟨h1, h2, h3, h4⟩ := H4.out
    exact Lib.hid ⟨below_setRow h1 hge _, setRow_heap w6 g _ _ _ _ h2, (setRow_other w6 g (g + 1) _ (by omega)).trans h3, (setRow_other w6 g (g + 2) _ (by omega)).trans h4⟩
  refine wpAnyH_ready (rs := [5]) (by kernel_rfl) (by simp) ?_
  refine AllReadyH.cons rfl (fun K hK => ?_) AllReadyH.nil
  refine step_wanted rfl ?_
  refine wp_store_row 98 (.tmp 3) (.tmp 11) rfl g cB rfl rfl _ _ H4.out.2.1 hiB hsB hoB ?_
  refine hK.out _ _ (Row.range H5.out.2.2.1) (fun hH => ?_)
  clear hK K H4 hH
  refine wpAnyH_done (by kernel_rfl) ?_ _
  generalize w6.setRow g cB = w7 at *
  have k0 : w7.cell? ⟨g, 0, none⟩ = some (.int .u64 (ln (fchi (frho (fth S)) 0))) := by
    have h := H5.out.2.1.cell 0
    rw [← HcB.out, arr_get .u64 25 _ 0 (by omega)] at h
    exact h
  have kf : w7.frozen? ⟨g, 0, none⟩ = false := Row.fr H5.out.2.1 0
  have hx := xor_ln (fchi (frho (fth S)) 0) c
  have H6 : Hid (Past w (w7.setCell ⟨g, 0, none⟩ (.int .u64 (ln (fchi (frho (fth S)) 0 ^^^ c)))) ∧ LM .u64 (w7.setCell ⟨g, 0, none⟩ (.int .u64 (ln (fchi (frho (fth S)) 0 ^^^ c)))) g 98 25 (fun i => ln (fiota (fchi (frho (fth S))) c i)) ∧
      Row (w7.setCell ⟨g, 0, none⟩ (.int .u64 (ln (fchi (frho (fth S)) 0 ^^^ c)))) (g + 2) 98 (arr .u64 25 fun _ => 0)) := by
    obtain ⟨h1, h2, h3, h4⟩ := H5.out
    have hl : LM .u64 w7 g 98 25 fun i => ln (fchi (frho (fth S)) i) := by
      unfold LM
      rw [HcB.out]
      exact h2
    refine Lib.hid ⟨h1.set hge _, (LM.put hl 0 (by omega) _).same fun i hi => ?_, h4.setOther (by omega) _ _⟩
    by_cases e : i = 0
    · subst e
      rw [upd_at]
      rfl
    · rw [upd_ne _ _ e]
      show _ = ln (fiota (fchi (frho (fth S))) c i)
      unfold fiota
      rw [if_neg e]
  clear H5 HcB HM HB HV' hiB hoB hsB hiS
  go_upto_region 3 with (fail)
  generalize w7.setCell ⟨g, 0, none⟩ (.int .u64 (ln (fchi (frho (fth S)) 0 ^^^ c))) = w9 at *
  have hr2 := H6.out.2.1
  have hr1 := H6.out.2.2
  have HP := Lib.hid H6.out.1
  unfold LM at hr2
  have hi2 := state_size (fiota (fchi (frho (fth S))) c)
  have hs2 : (arr .u64 25 fun _ => 0).size = (arr .u64 25 fun i => ln (fiota (fchi (frho (fth S))) c i)).size := by rw [arr_size, arr_size]
  have ho2 := arr_one .u64 25 fun i => ln (fiota (fchi (frho (fth S))) c i)
  clear H6
  generalize hcc : (arr .u64 25 fun i => ln (fiota (fchi (frho (fth S))) c i)) = c2 at *
  have HCC := Lib.hid hcc
  clear hcc
  generalize arr .u64 25 (fun _ => 0) = c1 at *
  go_wp2_with (first | (refine wpList_load_row rfl 98 _ rfl g rfl _ _ (0, 0) _ hr2 Tryz.underlying98 rfl hi2 ?_) | (refine wpList_store_row rfl 98 _ _ rfl (g + 2) _ rfl rfl _ _ hr1 hi2 hs2 ho2 ?_))
  refine bodyPost_ret (results_cell_row rfl _ _ (g + 2) _ c2 (0, 0) _ rfl (setRow_heap w9 (g + 2) c1 c2 _ _ hr1) Tryz.underlying98 rfl hi2) rfl ?_
  exact ⟨by rw [HCC.out], below_setRow HP.out (by omega) _⟩

theorem fl_ext {A B : Nat → Lane} (h : ∀ i, i < 25 → A i = B i) : fl A = fl B := by
  unfold fl
  rw [arr_ext fun j hj => by rw [h j hj]]
theorem after_prd (S : Nat → Lane) (n : Nat) (w : World) : Calls Tryz.prog 73 #[fl S, .agg cofs, .int .u64 (ln (rcL n))] w fun e w' => e = .returned (fl (prd S n)) ∧ Past w w' := by
  have e : fl (fiota (fchi (frho (fth S))) (rcL n)) = fl (prd S n) := fl_ext fun i hi => frnd_prd S n i hi
  rw [← e]
  exact after_any S (rcL n) w
theorem hci_of (n : Nat) (h : n < 24) (w : World) : (Instr.index 122 (.agg (arr .u64 24 rcF)) (.int .i64 (n : Int))).run Tryz.prog w = .ok (.int .u64 (ln (rcL n))) w := by
  obtain ⟨i64, hi64, _, hz64, _⟩ := info_parts (show (Tryz.prog.info? 45).map (fun i => (i.zero, i.size, i.bytes)) = some (some (.int .u64 0), 1, 8) by kernel_rfl)
  exact run_index_cells w Tryz.underlying122 Tryz.underlying45 hi64 hz64 (n : Int) (by omega) (by omega) (by rw [Int.toNat_natCast, arr_get .u64 24 rcF n h, rcF_ln ⟨n, h⟩])

/-- The blocks of the permutation: the state, the result, the offsets. -/
def RP (w wx : World) (g o : Nat) (co : Array Value) (f : Nat → Int) : Prop := Past w wx ∧ LM .u64 wx g 98 25 f ∧ Row wx (g + 1) 98 (arr .u64 25 fun _ => 0) ∧ Row wx o 120 co ∧ g + 1 < o
theorem RP.past {w wx wy : World} {g o : Nat} {co : Array Value} {f : Nat → Int} (h : RP w wx g o co f) (hp : Past wx wy) : RP w wy g o co f := ⟨h.1.trans' hp, Row.past h.2.1 hp, h.2.2.1.past hp, h.2.2.2.1.past hp, h.2.2.2.2⟩

set_option maxHeartbeats 2000000 in
theorem pperm_any (S : Nat → Lane) (w : World) : Calls Tryz.prog 55 #[fl S] w fun e w' => e = .returned (fl (ppm S)) ∧ Past w w' := by
  have HR := Lib.hid (fun i w => after_prd (prS S i) i w)
  have HO := Lib.hid (fun w => poffsets_any w)
  have HC := Lib.hid (fun w => pconstants_any w)
  have HCI := Lib.hid (fun n h w => hci_of n h w)
  have H0 : Hid (Past w ((w.alloc (.cells (arr .u64 25 fun i => ln (S i)) 98)).alloc (.cells (arr .u64 25 fun _ => 0) 98)) ∧ LM .u64 ((w.alloc (.cells (arr .u64 25 fun i => ln (S i)) 98)).alloc (.cells (arr .u64 25 fun _ => 0) 98)) w.heap.size 98 25 (fun i => ln (prS S 0 i)) ∧
      Row ((w.alloc (.cells (arr .u64 25 fun i => ln (S i)) 98)).alloc (.cells (arr .u64 25 fun _ => 0) 98)) (w.heap.size + 1) 98 (arr .u64 25 fun _ => 0)) := by
    refine Lib.hid ⟨(past_alloc6 _ _).trans' (past_alloc6 _ _), (Row.new w _ _).alloc _, ?_⟩
    have := Row.new (w.alloc (.cells (arr .u64 25 fun i => ln (S i)) 98)) 98 (arr .u64 25 fun _ => 0)
    simpa using this
  have hiO : (Tryz.prog.info? 120).map (·.size) = some cofs.size := by rw [arr_size]; kernel_rfl
  have hsO : (arr .i64 25 fun _ => 0).size = cofs.size := by rw [arr_size, arr_size]
  have hoO : cofs.all (·.oneCell') = true := arr_one .i64 25 _
  unfold fl
  unfold cofs at hiO hsO hoO HR
  have hsz := arr_size .u64 25 fun i => ln (S i)
  generalize arr .u64 25 (fun i => ln (S i)) = cs at *
  generalize arr .i64 25 (fun i => (offN (i % 5 * 5 + i / 5) : Int)) = cO at *
  generalize arr .u64 24 rcF = cC at *
  go_enter Tryz.func55, Tryz.ntmps55
  go_upto_region 1 with (fail)
  rw [arr_zero25]
  generalize (w.alloc (.cells cs 98)).alloc (.cells (arr .u64 25 fun _ => 0) 98) = w2 at *
  obtain ⟨g, hg⟩ : ∃ g, w.heap.size = g := ⟨_, rfl⟩
  have hge : w.heap.size ≤ g := by omega
  rw [hg] at H0 ⊢
  clear hg
  go_wp2_with fail
  refine (HO.out _).mono ?_
  rintro e w3 ⟨rfl, hp⟩
  have H3 : Hid (Past w w3 ∧ LM .u64 w3 g 98 25 (fun i => ln (prS S 0 i)) ∧ Row w3 (g + 1) 98 (arr .u64 25 fun _ => 0)) := Lib.hid ⟨H0.out.1.trans' hp, Row.past H0.out.2.1 hp, H0.out.2.2.past hp⟩
  clear hp H0
  have hn3 := heap_alloc_new w3 (.cells (arr .i64 25 fun _ => 0) 120)
  go_wp2_with (refine wpList_store_row rfl 120 _ _ rfl w3.heap.size _ rfl rfl _ _ hn3 hiO hsO hoO ?_)
  rw [World.setRow_alloc_new]
  have H4 : Hid (RP w (w3.alloc (.cells cO 120)) g w3.heap.size cO (fun i => ln (prS S 0 i))) := by
    obtain ⟨h1, h2, h3⟩ := H3.out
    exact Lib.hid ⟨h1.trans' (past_alloc6 _ _), Row.alloc h2 _, h3.alloc _, Row.new _ _ _, h3.lt⟩
  clear H3 hn3 hsO
  generalize w3.alloc (.cells cO 120) = w4 at *
  generalize w3.heap.size = o at *
  refine (HC.out _).mono ?_
  rintro e w5 ⟨rfl, hp⟩
  have H5 := Lib.hid (H4.out.past hp)
  clear hp H4 HC HO
  go_wp2_with fail
  go_loopg [8] 24 (fun k s8 wx => ∃ i : Nat, i ≤ 24 ∧ k = 24 - i ∧ s8 = .int .i64 (i : Int) ∧ Hid (RP w wx g o cO fun j => ln (prS S i j)))
  case atStart => exact ⟨0, Nat.zero_le _, rfl, rfl, H5⟩
  case round =>
    clear H5
    obtain ⟨i, hi, hgk, rfl, HQ⟩ := hrel
    have HGK := Lib.hid hgk
    clear hgk
    by_cases hlt : i < 24
    · have hii : (i : Int) < 24 := by omega
      have hci := fun w => HCI.out i hlt w
      have hr1 := HQ.out.2.1
      have hrO := HQ.out.2.2.2.1
      unfold LM at hr1
      have hi1 := state_size (prS S i)
      have hi2 := state_size (prS S (i + 1))
      have hs2 : (arr .u64 25 fun j => ln (prS S i j)).size = (arr .u64 25 fun j => ln (prS S (i + 1) j)).size := by rw [arr_size, arr_size]
      have ho2 := arr_one .u64 25 fun j => ln (prS S (i + 1) j)
      have HRi := Lib.hid (fun w => HR.out i w)
      have H2 : Hid (∀ wx, Past wr wx → Row wx g 98 (arr .u64 25 fun j => ln (prS S i j)) ∧ RP w (wx.setRow g (arr .u64 25 fun j => ln (prS S (i + 1) j))) g o cO fun j => ln (prS S (i + 1) j)) := by
        refine Lib.hid fun wx hp => ?_
        have hq := HQ.out.past hp
        have hr : Row wx g 98 (arr .u64 25 fun j => ln (prS S i j)) := hq.2.1
        have hlo := hq.2.2.2.2
        exact ⟨hr, below_setRow hq.1 hge _, setRow_heap wx g _ _ _ _ hr, (setRow_other wx g (g + 1) _ (by omega)).trans hq.2.2.1, (setRow_other wx g o _ (by omega)).trans hq.2.2.2.1, hlo⟩
      change Hid (∀ w, Calls Tryz.prog 73 #[.agg (arr .u64 25 fun j => ln (prS S i j)), .agg cO, .int .u64 (ln (rcL i))] w fun e w' => e = .returned (.agg (arr .u64 25 fun j => ln (prS S (i + 1) j))) ∧ Past w w') at HRi
      clear HQ
      generalize (arr .u64 25 fun j => ln (prS S i j)) = c1 at *
      generalize (arr .u64 25 fun j => ln (prS S (i + 1) j)) = c2 at *
      go_wp2_with (first | (refine wpList_load_row rfl 98 _ rfl g rfl _ _ (0, 0) _ hr1 Tryz.underlying98 rfl hi1 ?_) | (refine wpList_load_row rfl 120 _ rfl o rfl _ _ (0, 0) _ hrO Tryz.underlying120 rfl hiO ?_))
      refine (HRi.out _).mono ?_
      rintro e w6 ⟨rfl, hp⟩
      have H3 := Lib.hid (H2.out _ hp).2
      have hr5 := (H2.out _ hp).1
      clear H2 hp hr1 hrO
      go_wp2_with (refine wpList_store_row rfl 98 _ _ rfl g _ rfl rfl _ _ hr5 hi2 hs2 ho2 ?_)
      generalize w6.setRow g c2 = w7 at *
      clear hr5
      go_wp2_with fail
      go_roundg (24 - (i + 1))
      case rel => exact ⟨i + 1, by omega, rfl, by go_num, H3⟩
      case measure => have := HGK.out; omega
    · obtain rfl : i = 24 := by omega
      have he : (arr .u64 25 fun j => ln (prS S 24 j)) = arr .u64 25 fun j => ln (ppm S j) := arr_ext fun j hj => by rw [prS_ppm S j hj]
      have hr2 := HQ.out.2.1
      have hr1 := HQ.out.2.2.1
      have HP := Lib.hid HQ.out.1
      unfold LM at hr2
      rw [he] at hr2
      have hi2 := state_size (ppm S)
      have hs2 : (arr .u64 25 fun _ => 0).size = (arr .u64 25 fun i => ln (ppm S i)).size := by rw [arr_size, arr_size]
      have ho2 := arr_one .u64 25 fun i => ln (ppm S i)
      clear HQ he HR
      generalize hcc : arr .u64 25 (fun i => ln (ppm S i)) = c2 at *
      have HCC := Lib.hid hcc
      clear hcc
      generalize arr .u64 25 (fun _ => 0) = c1 at *
      go_wp2_with (first | (refine wpList_load_row rfl 98 _ rfl g rfl _ _ (0, 0) _ hr2 Tryz.underlying98 rfl hi2 ?_) | (refine wpList_store_row rfl 98 _ _ rfl (g + 1) _ rfl rfl _ _ hr1 hi2 hs2 ho2 ?_))
      refine bodyPost_ret (results_cell_row rfl _ _ (g + 1) _ c2 (0, 0) _ rfl (setRow_heap wr (g + 1) c1 c2 _ _ hr1) Tryz.underlying98 rfl hi2) rfl ?_
      exact ⟨by rw [HCC.out], below_setRow HP.out (by omega) _⟩

end Go.Proofs.YtalhdalmafhofaaGreatDoor
