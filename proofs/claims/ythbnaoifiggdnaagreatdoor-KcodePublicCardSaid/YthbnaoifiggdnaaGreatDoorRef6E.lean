/- Contract of the reference of Keccak: a round. -/
import Derived.Test.YthbnaoifiggdnaaGreatDoorRef6A
import Derived.StillTailTactics
namespace Go.Proofs.YthbnaoifiggdnaaGreatDoor
open Go.RowKit

theorem not_ln (x : Lane) : bits .xor .u64 IntKind.u64.max (ln x) = ln (~~~ x) := by
  have h := xor_ln (BitVec.allOnes 64) x
  have e : ln (BitVec.allOnes 64) = IntKind.u64.max := by decide +kernel
  rw [e] at h
  rw [h, BitVec.allOnes_xor]
theorem tm4 : ∀ x : Fin 5, (IntKind.i64.wrap ((x.val : Int) + 4)).tmod 5 = (((x.val + 4) % 5 : Nat) : Int) := by decide +kernel
theorem tm1 : ∀ x : Fin 5, (IntKind.i64.wrap ((x.val : Int) + 1)).tmod 5 = (((x.val + 1) % 5 : Nat) : Int) := by decide +kernel
theorem tm2 : ∀ x : Fin 5, (IntKind.i64.wrap ((x.val : Int) + 2)).tmod 5 = (((x.val + 2) % 5 : Nat) : Int) := by decide +kernel
theorem tm23 : ∀ x y : Fin 5, (IntKind.i64.wrap (IntKind.i64.wrap (2 * (x.val : Int)) + IntKind.i64.wrap (3 * (y.val : Int)))).tmod 5 = (((2 * x.val + 3 * y.val) % 5 : Nat) : Int) := by decide +kernel
theorem rot_one (x : Lane) (w : World) : Calls Tryz.prog 110 #[.int .u64 (ln x), .int .i64 1] w fun e w' => e = .returned (.int .u64 (ln (rotN x 1))) ∧ w' = w := (rotate_any x 1 w (by decide)).mono fun _ _ h => ⟨h.1, h.2.symm⟩

/-- The blocks of a round with the second lanes. -/
def RW2 (w wx : World) (g h : Nat) (fa R fc fb : Nat → Int) : Prop := RW w wx g fa R fc ∧ LM .u64 wx h 150 25 fb ∧ g + 1 + 1 + 1 < h
section
variable {w wx : World} {g h : Nat} {fa R fc fb : Nat → Int}
theorem RW2.putA (k : RW2 w wx g h fa R fc fb) (hg : w.heap.size ≤ g) (i : Nat) (hi : i < 25) (v : Int) : RW2 w (wx.setCell ⟨g, i, none⟩ (.int .u64 v)) g h (upd fa i v) R fc fb :=
  ⟨k.1.putA hg i hi v, k.2.1.setOther (by have := k.2.2; omega) _ _, k.2.2⟩
theorem RW2.putB (k : RW2 w wx g h fa R fc fb) (hg : w.heap.size ≤ g) (i : Nat) (hi : i < 25) (v : Int) : RW2 w (wx.setCell ⟨h, i, none⟩ (.int .u64 v)) g h fa R fc (upd fb i v) :=
  ⟨k.1.far hg k.2.2 _ _, k.2.1.put i hi v, k.2.2⟩
theorem RW2.drewN (k : RW2 w wx g h fa R fc fb) (m : Nat) : RW2 w (wx.drewN m) g h fa R fc fb := ⟨k.1.drewN m, k.2⟩
theorem RW2.same {fa' fb' : Nat → Int} (k : RW2 w wx g h fa R fc fb) (ha : ∀ i, i < 25 → fa i = fa' i) (hb : ∀ i, i < 25 → fb i = fb' i) : RW2 w wx g h fa' R fc fb' := ⟨k.1.same ha fun _ _ => rfl, k.2.1.same hb, k.2.2⟩
end

/-- What the third double loop has made of the lanes. -/
def fxP (B : Nat → Lane) (f : Nat → Int) (k : Nat) (i : Nat) : Int := if i < k then ln (chi B i) else f i
theorem fxP_put (B : Nat → Lane) (f : Nat → Int) (k i : Nat) : upd (fxP B f k) k (ln (chi B k)) i = fxP B f (k + 1) i := by
  by_cases e : i = k
  · subst e
    rw [upd_at]
    unfold fxP
    rw [if_pos (by omega)]
  · rw [upd_ne _ _ e]
    unfold fxP
    by_cases h : i < k
    · rw [if_pos h, if_pos (by omega)]
    · rw [if_neg h, if_neg (by omega)]

set_option maxHeartbeats 2000000 in
set_option maxRecDepth 100000 in
theorem round_any (A : Nat → Lane) (rc : Lane) (r : Nat → Nat) (hr : ∀ i, i < 25 → r i < 64) (w : World) :
    Calls Tryz.prog 99 #[.agg (arr .u64 25 fun i => ln (A i)), .int .u64 (ln rc), .agg (arr .i64 25 fun i => (r i : Int))] w fun e w' => e = .returned (.agg (arr .u64 25 fun i => ln (kround A rc r i))) ∧ Past w w' := by
  have hsa := arr_size .u64 25 fun i => ln (A i)
  have hsr := arr_size .i64 25 fun i => (r i : Int)
  have H0 := Lib.hid (RW.new w (fun i => ln (A i)) fun i => (r i : Int))
  generalize hca : arr .u64 25 (fun i => ln (A i)) = ca at *
  generalize hcr : arr .i64 25 (fun i => (r i : Int)) = cr at *
  have HR := Lib.hid hr
  clear hr
  go_enter Tryz.func99, Tryz.ntmps99
  go_wp2_with fail
  rw [arr_zero25, arr_zero5]
  generalize (((w.alloc (.cells ca 150)).alloc (.cells cr 179)).alloc (.cells (arr .u64 25 fun _ => 0) 150)).alloc (.cells (arr .u64 5 fun _ => 0) 148) = w4 at *
  obtain ⟨g, hg⟩ : ∃ g, w.heap.size = g := ⟨_, rfl⟩
  have hge : w.heap.size ≤ g := by omega
  rw [hg] at H0 ⊢
  clear hg hca hcr
  rw [← fcP_zero A] at H0
  go_loopg [8] 5 (fun k s8 wx => ∃ x : Nat, x ≤ 5 ∧ k = 5 - x ∧ s8 = .int .i64 (x : Int) ∧ Hid (RW w wx g (fun i => ln (A i)) (fun i => (r i : Int)) (fcP A x 0)))
  case atStart => exact ⟨0, Nat.zero_le _, rfl, rfl, H0⟩
  case round =>
    clear H0
    obtain ⟨x, hx, hgk, rfl, HQ⟩ := hrel
    have HGK := Lib.hid hgk
    clear hgk
    by_cases hlt : x < 5
    · go_wp2_with fail
      go_loopg [9] 5 (fun k s9 wx => ∃ y : Nat, y ≤ 5 ∧ k = 5 - y ∧ s9 = .int .i64 (y : Int) ∧ Hid (RW w wx g (fun i => ln (A i)) (fun i => (r i : Int)) (fcP A x y)))
      case atStart => exact ⟨0, Nat.zero_le _, rfl, rfl, HQ⟩
      case round =>
        clear HQ
        obtain ⟨y, hy, hgk, rfl, HQ⟩ := hrel
        have HGK2 := Lib.hid hgk
        clear hgk
        by_cases hlt2 : y < 5
        · have hc1 := HQ.out.2.1.at (x * 5 + y) (by omega)
          have hc2 := HQ.out.2.2.2.2.at x (by omega)
          have hf2 := HQ.out.2.2.2.2.fr x
          rw [fcP_at] at hc2
          have hxx := xor_ln (cP A x y) (A (x * 5 + y))
          have e : cP A x y ^^^ A (x * 5 + y) = cP A x (y + 1) := rfl
          rw [e] at hxx
          have HQ2 : Hid (RW w (wr.setCell ⟨g + 1 + 1 + 1, x, none⟩ (.int .u64 (ln (cP A x (y + 1))))) g (fun i => ln (A i)) (fun i => (r i : Int)) (fcP A x (y + 1))) :=
            (HQ.out.putC hge x hlt _).same (fun _ _ => rfl) fun i _ => fcP_put A x y i
          clear e HQ
          generalize ln (cP A x (y + 1)) = nv at *
          generalize ln (cP A x y) = cv at *
          generalize ln (A (x * 5 + y)) = av at *
          go_wp2_with fail
          go_region
          go_wp2_with fail
          go_roundg (5 - (y + 1))
          case rel => exact ⟨y + 1, by omega, rfl, by go_num, HQ2.out.drewN 1⟩
          case measure => have := HGK2.out; omega
        · obtain rfl : y = 5 := by omega
          go_wp2_with fail
          go_roundg (5 - (x + 1))
          case rel => exact ⟨x + 1, by omega, rfl, by go_num, HQ.out.same (fun _ _ => rfl) fun i _ => fcP_next A x i⟩
          case measure => have := HGK.out; omega
    · have hx5 : x = 5 := by omega
      have HQ5 : Hid (RW w wr g (fun i => ln (A i)) (fun i => (r i : Int)) (fcP A 5 0)) := by
        rw [← hx5]
        exact HQ
      have hlb : decide ((x : Int) < 5) = false := by simp; omega
      clear HQ hx5 hlt
      go_wp2_with fail
      rw [arr_zero25]
      have HQ := HQ5
      clear hx
      have H2 : Hid (RW2 w (wr.alloc (.cells (arr .u64 25 fun _ => 0) 150)) g wr.heap.size (faP A (0 * 5)) (fun i => (r i : Int)) (fun i => ln (cC A i)) (fbP A r (0 * 5))) := by
        have hn : LM .u64 (wr.alloc (.cells (arr .u64 25 fun _ => 0) 150)) wr.heap.size 150 25 fun _ => 0 := Row.new wr _ _
        refine ⟨(HQ.out.alloc _).same (fun i _ => ?_) (fun i hi => ?_), hn.same (fun i _ => ?_), ?_⟩
        · unfold faP
          rw [if_neg (by omega)]
        · unfold fcP
          rw [if_pos hi]
          rfl
        · unfold fbP
          rw [if_neg (by omega)]
        · exact Row.lt HQ.out.2.2.2.2
      generalize wr.alloc (.cells (arr .u64 25 fun _ => 0) 150) = w5 at *
      generalize wr.heap.size = h at *
      clear HQ HGK
      go_loopg [11] 5 (fun k s11 wx => ∃ x : Nat, x ≤ 5 ∧ k = 5 - x ∧ s11 = .int .i64 (x : Int) ∧ Hid (RW2 w wx g h (faP A (x * 5)) (fun i => (r i : Int)) (fun i => ln (cC A i)) (fbP A r (x * 5))))
      case atStart => exact ⟨0, Nat.zero_le _, rfl, rfl, H2⟩
      case round =>
        clear H2
        obtain ⟨x, hx, hgk, rfl, HQ⟩ := hrel
        have HGK := Lib.hid hgk
        clear hgk
        by_cases hlt : x < 5
        · have hxi : (x : Int) < 5 := by omega
          go_wp2_with fail
          go_loopg [12] 5 (fun k s12 wx => ∃ y : Nat, y ≤ 5 ∧ k = 5 - y ∧ s12 = .int .i64 (y : Int) ∧ Hid (RW2 w wx g h (faP A (x * 5 + y)) (fun i => (r i : Int)) (fun i => ln (cC A i)) (fbP A r (x * 5 + y))))
          case atStart => exact ⟨0, Nat.zero_le _, rfl, rfl, HQ⟩
          case round =>
            clear HQ
            obtain ⟨y, hy, hgk, rfl, HQ⟩ := hrel
            have HGK2 := Lib.hid hgk
            clear hgk
            by_cases hlt2 : y < 5
            · have hc1 := HQ.out.1.2.1.at (x * 5 + y) (by omega)
              have hf1 := Row.fr HQ.out.1.2.1 (x * 5 + y)
              obtain ⟨m4, h4⟩ : ∃ m4, (x + 4) % 5 = m4 := ⟨_, rfl⟩
              obtain ⟨m1, h1⟩ : ∃ m1, (x + 1) % 5 = m1 := ⟨_, rfl⟩
              have hm4 : (IntKind.i64.wrap ((x : Int) + 4)).tmod 5 = (m4 : Int) := by rw [← h4]; exact tm4 ⟨x, hlt⟩
              have hm1 : (IntKind.i64.wrap ((x : Int) + 1)).tmod 5 = (m1 : Int) := by rw [← h1]; exact tm1 ⟨x, hlt⟩
              have hb4 : (m4 : Int) < 5 := by omega
              have hb1 : (m1 : Int) < 5 := by omega
              have hc2 := HQ.out.1.2.2.2.2.at m4 (by omega)
              have hc3 := HQ.out.1.2.2.2.2.at m1 (by omega)
              have hc4 := HQ.out.1.2.2.1.at (x * 5 + y) (by omega)
              have e0 : faP A (x * 5 + y) (x * 5 + y) = ln (A (x * 5 + y)) := by unfold faP; rw [if_neg (by omega)]
              rw [e0] at hc1
              have hth : th A (x * 5 + y) = A (x * 5 + y) ^^^ cC A (m4) ^^^ rotN (cC A (m1)) 1 := by
                unfold th
                rw [show (x * 5 + y) / 5 = x by omega, h4, h1]
              have hx1 := xor_ln (A (x * 5 + y)) (cC A (m4))
              have hx2 := xor_ln (A (x * 5 + y) ^^^ cC A (m4)) (rotN (cC A (m1)) 1)
              rw [← hth] at hx2
              have HR1 := Lib.hid (rot_one (cC A (m1)))
              have HQ1 : Hid (RW2 w (wr.setCell ⟨g, x * 5 + y, none⟩ (.int .u64 (ln (th A (x * 5 + y))))) g h (faP A (x * 5 + y + 1)) (fun i => (r i : Int)) (fun i => ln (cC A i)) (fbP A r (x * 5 + y))) :=
                (HQ.out.putA hge (x * 5 + y) (by omega) _).same (fun i _ => faP_put A _ i) fun _ _ => rfl
              clear e0 hth HQ h4 h1
              generalize hT : th A (x * 5 + y) = T at *
              generalize A (x * 5 + y) ^^^ cC A (m4) = U at *
              generalize A (x * 5 + y) = V at *
              generalize rotN (cC A (m1)) 1 = S1 at *
              generalize cC A (m1) = C1 at *
              generalize cC A (m4) = C4 at *
              have HT := Lib.hid hT
              clear hT
              go_wp2_with fail
              go_still_tail 22, (by kernel_rfl)
              still_call (HR1.out _)
              repeat still_step
              refine wpStill_nil ?_
              change wpList _ _ _ _ _ wr.drew
              have HQ1' := Lib.hid (HQ1.out.drewN 1)
              change Hid (RW2 w (wr.drew.setCell ⟨g, x * 5 + y, none⟩ (.int .u64 (ln T))) g h _ _ _ _) at HQ1'
              have hc1' : wr.drew.cell? ⟨g, x * 5 + y, none⟩ = some (.int .u64 (ln V)) := hc1
              have hf1' : wr.drew.frozen? ⟨g, x * 5 + y, none⟩ = false := hf1
              clear HQ1 hc1 hf1 hc2 hc3 hc4
              generalize wr.drew = wd at *
              go_wp2_with fail
              generalize wd.setCell ⟨g, x * 5 + y, none⟩ (.int .u64 (ln T)) = w6 at *
              obtain ⟨d, h23⟩ : ∃ d, (2 * x + 3 * y) % 5 = d := ⟨_, rfl⟩
              have hm23 : (IntKind.i64.wrap (IntKind.i64.wrap (2 * (x : Int)) + IntKind.i64.wrap (3 * (y : Int)))).tmod 5 = (d : Int) := by rw [← h23]; exact tm23 ⟨x, hlt⟩ ⟨y, hlt2⟩
              have hbd : (d : Int) < 5 := by omega
              have hda : dstI (x * 5 + y) = y * 5 + d := by
                unfold dstI
                rw [show (x * 5 + y) % 5 = y by omega, show (x * 5 + y) / 5 = x by omega, h23]
              have hk := HR.out (x * 5 + y) (by omega)
              have hc1 := HQ1'.out.1.2.1.at (x * 5 + y) (by omega)
              have e0 : faP A (x * 5 + y + 1) (x * 5 + y) = ln T := by rw [← HT.out]; unfold faP; rw [if_pos (by omega)]
              rw [e0] at hc1
              have hc4 := HQ1'.out.1.2.2.1.at (x * 5 + y) (by omega)
              have hc5 := HQ1'.out.2.1.at (y * 5 + d) (by omega)
              have hf5 := Row.fr HQ1'.out.2.1 (y * 5 + d)
              have HQ2 : Hid (RW2 w (w6.setCell ⟨h, y * 5 + d, none⟩ (.int .u64 (ln (rotN T (r (x * 5 + y)))))) g h (faP A (x * 5 + y + 1)) (fun i => (r i : Int)) (fun i => ln (cC A i)) (fbP A r (x * 5 + y + 1))) := by
                refine (HQ1'.out.putB hge (y * 5 + d) (by omega) _).same (fun _ _ => rfl) fun j hj => ?_
                have := fbP_put A r (x * 5 + y) j (by omega) hj
                rw [hda, HT.out] at this
                exact this
              have HR2 := Lib.hid (fun w => (rotate_any T (r (x * 5 + y)) w (by omega)).mono (R' := fun e w' => e = .returned (.int .u64 (ln (rotN T (r (x * 5 + y))))) ∧ w' = w) fun _ _ h => ⟨h.1, h.2.symm⟩)
              clear e0 hda h23 HQ1' HT hc1' hf1' hk
              generalize rotN T (r (x * 5 + y)) = S2 at *
              generalize r (x * 5 + y) = rk at *
              go_still_tail 20, (by kernel_rfl)
              still_call (HR2.out _)
              repeat still_step
              refine wpStill_nil ?_
              change wpList _ _ _ _ _ w6.drew
              have HQ3 := Lib.hid (HQ2.out.drewN 1)
              change Hid (RW2 w (w6.drew.setCell ⟨h, y * 5 + d, none⟩ (.int .u64 (ln S2))) g h _ _ _ _) at HQ3
              have hc5' : w6.drew.cell? ⟨h, y * 5 + d, none⟩ = some _ := hc5
              have hf5' : w6.drew.frozen? ⟨h, y * 5 + d, none⟩ = false := hf5
              clear HQ2 hc1 hc4 hc5 hf5
              generalize w6.drew = wd at *
              go_wp2_with fail
              go_roundg (5 - (y + 1))
              case rel => exact ⟨y + 1, by omega, rfl, by go_num, HQ3⟩
              case measure => have := HGK2.out; omega
            · obtain rfl : y = 5 := by omega
              go_wp2_with fail
              go_roundg (5 - (x + 1))
              case rel => exact ⟨x + 1, by omega, rfl, by go_num, by rw [show (x + 1) * 5 = x * 5 + 5 by omega]; exact HQ⟩
              case measure => have := HGK.out; omega
        · have hx5 : x = 5 := by omega
          have HQ5 : Hid (RW2 w wr g h (faP A (5 * 5)) (fun i => (r i : Int)) (fun i => ln (cC A i)) (fbP A r (5 * 5))) := by
            have e : x * 5 = 5 * 5 := by omega
            rw [e] at HQ
            exact HQ
          have hlb2 : decide ((x : Int) < 5) = false := by simp; omega
          clear HQ hx5 hlt
          go_wp2_with fail
          have HQ := HQ5
          clear hx
          obtain ⟨B, hB⟩ : ∃ B, rho (th A) r = B := ⟨_, rfl⟩
          have H3 : Hid (RW2 w wr g h (fxP B (faP A (5 * 5)) (0 * 5)) (fun i => (r i : Int)) (fun i => ln (cC A i)) (fun j => ln (B j))) := by
            refine HQ.out.same (fun i _ => ?_) fun j hj => ?_
            · unfold fxP
              rw [if_neg (by omega)]
            · unfold fbP
              have := (dst_src ⟨j, hj⟩).2
              simp only at this
              rw [if_pos (by omega), hB]
          have HKR : Hid (∀ i, kround A rc r i = iota (chi B) rc i) := fun i => by
            unfold kround
            rw [hB]
          generalize faP A (5 * 5) = f0 at *
          clear HQ HGK hB
          go_loopg [13] 5 (fun k s13 wx => ∃ x : Nat, x ≤ 5 ∧ k = 5 - x ∧ s13 = .int .i64 (x : Int) ∧ Hid (RW2 w wx g h (fxP B f0 (x * 5)) (fun i => (r i : Int)) (fun i => ln (cC A i)) (fun j => ln (B j))))
          case atStart => exact ⟨0, Nat.zero_le _, rfl, rfl, H3⟩
          case round =>
            clear H3
            obtain ⟨x, hx, hgk, rfl, HQ⟩ := hrel
            have HGK := Lib.hid hgk
            clear hgk
            by_cases hlt : x < 5
            · have hxi : (x : Int) < 5 := by omega
              go_wp2_with fail
              go_loopg [14] 5 (fun k s14 wx => ∃ y : Nat, y ≤ 5 ∧ k = 5 - y ∧ s14 = .int .i64 (y : Int) ∧ Hid (RW2 w wx g h (fxP B f0 (x * 5 + y)) (fun i => (r i : Int)) (fun i => ln (cC A i)) (fun j => ln (B j))))
              case atStart => exact ⟨0, Nat.zero_le _, rfl, rfl, HQ⟩
              case round =>
                clear HQ
                obtain ⟨y, hy, hgk, rfl, HQ⟩ := hrel
                have HGK2 := Lib.hid hgk
                clear hgk
                by_cases hlt2 : y < 5
                · obtain ⟨m1, h1⟩ : ∃ m1, (x + 1) % 5 = m1 := ⟨_, rfl⟩
                  obtain ⟨m2, h2⟩ : ∃ m2, (x + 2) % 5 = m2 := ⟨_, rfl⟩
                  have hm1 : (IntKind.i64.wrap ((x : Int) + 1)).tmod 5 = (m1 : Int) := by rw [← h1]; exact tm1 ⟨x, hlt⟩
                  have hm2 : (IntKind.i64.wrap ((x : Int) + 2)).tmod 5 = (m2 : Int) := by rw [← h2]; exact tm2 ⟨x, hlt⟩
                  have hb1 : (m1 : Int) < 5 := by omega
                  have hb2 : (m2 : Int) < 5 := by omega
                  have hc1 : wr.cell? ⟨h, x * 5 + y, none⟩ = some (.int .u64 (ln (B (x * 5 + y)))) := HQ.out.2.1.at (x * 5 + y) (by omega)
                  have hc2 : wr.cell? ⟨h, m1 * 5 + y, none⟩ = some (.int .u64 (ln (B (m1 * 5 + y)))) := HQ.out.2.1.at (m1 * 5 + y) (by omega)
                  have hc3 : wr.cell? ⟨h, m2 * 5 + y, none⟩ = some (.int .u64 (ln (B (m2 * 5 + y)))) := HQ.out.2.1.at (m2 * 5 + y) (by omega)
                  have hc4 := HQ.out.1.2.1.at (x * 5 + y) (by omega)
                  have hf4 := Row.fr HQ.out.1.2.1 (x * 5 + y)
                  have hch : chi B (x * 5 + y) = B (x * 5 + y) ^^^ (~~~ B (m1 * 5 + y) &&& B (m2 * 5 + y)) := by
                    unfold chi
                    rw [show (x * 5 + y) / 5 = x by omega, show (x * 5 + y) % 5 = y by omega, h1, h2]
                  have hx0 := not_ln (B (m1 * 5 + y))
                  have hx1 := and_ln (~~~ B (m1 * 5 + y)) (B (m2 * 5 + y))
                  have hx2 := xor_ln (B (x * 5 + y)) (~~~ B (m1 * 5 + y) &&& B (m2 * 5 + y))
                  rw [← hch] at hx2
                  have HQ2 : Hid (RW2 w (wr.setCell ⟨g, x * 5 + y, none⟩ (.int .u64 (ln (chi B (x * 5 + y))))) g h (fxP B f0 (x * 5 + y + 1)) (fun i => (r i : Int)) (fun i => ln (cC A i)) (fun j => ln (B j))) :=
                    (HQ.out.putA hge (x * 5 + y) (by omega) _).same (fun i _ => fxP_put B f0 _ i) fun _ _ => rfl
                  clear hch h1 h2 HQ
                  generalize chi B (x * 5 + y) = V at *
                  generalize ~~~ B (m1 * 5 + y) &&& B (m2 * 5 + y) = U at *
                  generalize ~~~ B (m1 * 5 + y) = nb at *
                  generalize B (x * 5 + y) = b0 at *
                  generalize B (m1 * 5 + y) = b1 at *
                  generalize B (m2 * 5 + y) = b2 at *
                  generalize fxP B f0 (x * 5 + y) (x * 5 + y) = old at *
                  go_wp2_with fail
                  go_still_tail 26, (by kernel_rfl)
                  change wpList _ _ _ _ _ wr.drew
                  have HQ3 := Lib.hid (HQ2.out.drewN 1)
                  change Hid (RW2 w (wr.drew.setCell ⟨g, x * 5 + y, none⟩ (.int .u64 (ln V))) g h _ _ _ _) at HQ3
                  have hc4' : wr.drew.cell? ⟨g, x * 5 + y, none⟩ = some (.int .u64 old) := hc4
                  have hf4' : wr.drew.frozen? ⟨g, x * 5 + y, none⟩ = false := hf4
                  clear HQ2 hc1 hc2 hc3 hc4 hf4
                  generalize wr.drew = wd at *
                  go_wp2_with fail
                  go_roundg (5 - (y + 1))
                  case rel => exact ⟨y + 1, by omega, rfl, by go_num, HQ3⟩
                  case measure => have := HGK2.out; omega
                · obtain rfl : y = 5 := by omega
                  go_wp2_with fail
                  go_roundg (5 - (x + 1))
                  case rel => exact ⟨x + 1, by omega, rfl, by go_num, by rw [show (x + 1) * 5 = x * 5 + 5 by omega]; exact HQ⟩
                  case measure => have := HGK.out; omega
            · obtain rfl : x = 5 := by omega
              have hc0 : wr.cell? ⟨g, 0, none⟩ = some (.int .u64 (ln (chi B 0))) := HQ.out.1.2.1.at 0 (by omega)
              have hf0 := Row.fr HQ.out.1.2.1 0
              have hx0 := xor_ln (chi B 0) rc
              have hL : LM .u64 (wr.setCell ⟨g, 0, none⟩ (.int .u64 (ln (chi B 0 ^^^ rc)))) g 150 25 (fun i => ln (kround A rc r i)) :=
                (HQ.out.putA hge 0 (by omega) _).1.2.1.same fun i hi => by
                  rw [HKR.out]
                  unfold iota
                  by_cases e : i = 0
                  · subst e
                    rw [upd_at, if_pos rfl]
                  · rw [upd_ne _ _ e, if_neg e]
                    unfold fxP
                    rw [if_pos (by omega)]
              have hr1 := (HQ.out.putA hge 0 (by omega) (ln (chi B 0 ^^^ rc))).1.2.2.2.1
              have HP := Lib.hid ((HQ.out.putA hge 0 (by omega) (ln (chi B 0 ^^^ rc))).1.1)
              have hi2 : (Tryz.prog.info? 150).map (·.size) = some (arr .u64 25 fun i => ln (kround A rc r i)).size := by rw [arr_size]; kernel_rfl
              have hs2 : (arr .u64 25 fun _ => 0).size = (arr .u64 25 fun i => ln (kround A rc r i)).size := by rw [arr_size, arr_size]
              have ho2 := arr_one .u64 25 fun i => ln (kround A rc r i)
              unfold LM at hL
              clear HQ HKR
              generalize hcc : arr .u64 25 (fun i => ln (kround A rc r i)) = c2 at *
              have HCC := Lib.hid hcc
              clear hcc
              generalize arr .u64 25 (fun _ => 0) = c1 at *
              generalize chi B 0 ^^^ rc = V at *
              generalize chi B 0 = U at *
              go_wp2_with (first | (refine wpList_load_row rfl 150 _ rfl g rfl _ _ (0, 0) _ hL Tryz.underlying150 rfl hi2 ?_) | (refine wpList_store_row rfl 150 _ _ rfl (g + 1 + 1) _ rfl rfl _ _ hr1 hi2 hs2 ho2 ?_))
              refine bodyPost_ret (results_cell_row rfl _ _ (g + 1 + 1) _ c2 (0, 0) _ rfl (setRow_heap _ (g + 1 + 1) c1 c2 _ _ hr1) Tryz.underlying150 rfl hi2) rfl ?_
              exact ⟨by rw [HCC.out], below_setRow HP.out (by omega) _⟩

end Go.Proofs.YthbnaoifiggdnaaGreatDoor
