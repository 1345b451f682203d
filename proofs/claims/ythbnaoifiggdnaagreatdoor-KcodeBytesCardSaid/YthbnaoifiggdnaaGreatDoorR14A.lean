/- The reference's Root. Arrays of 256 numbers in blocks of a call's own; the reference's transform. The reference's Add and Reduced. The laws' own polynomials: Spread. -/
import Derived.Test.YthbnaoifiggdnaaGreatDoorArr
import Derived.Test.YthbnaoifiggdnaaGreatDoorK14A
import Derived.Deep.LoopGhost
import Derived.Laws.CopyOwn
import Derived.Deep.Cut
import Derived.Handy
import Derived.Laws.ResultCell
namespace Go.Proofs.YthbnaoifiggdnaaGreatDoor
open Go.RowKit
set_option linter.unusedVariables false

/-- The k lowest bits of i in reverse order. -/
def rvp (i : Nat) : Nat → Nat
  | 0 => 0
  | k + 1 => 2 * rvp i k + i / 2 ^ k % 2
theorem rvp_lt (i k : Nat) : rvp i k < 2 ^ k := by
  induction k with
  | zero => exact Nat.one_pos
  | succ k ih => rw [rvp, Nat.pow_succ]; omega
theorem rvp_7 (i : Nat) : rvp i 7 = rv7 i := by
  simp only [rvp, rv7, Nat.pow_zero, Nat.div_one, Nat.pow_one, Nat.reducePow]
  generalize i % 2 = a
  generalize i / 2 % 2 = b
  generalize i / 4 % 2 = c
  generalize i / 8 % 2 = d
  generalize i / 16 % 2 = e
  generalize i / 32 % 2 = f
  generalize i / 64 % 2 = g
  omega
end Go.Proofs.YthbnaoifiggdnaaGreatDoor

namespace Go.Proofs.YthbnaoifiggdnaaGreatDoor
open Go.RowKit
set_option linter.unusedVariables false

theorem zero256 (w : World) : (zeroValue 42).run Tryz.prog w = .ok (.agg (arr .u16 256 fun _ => 0)) w := by kernel_rfl
theorem inf256 (f : Nat → Int) : (Tryz.prog.info? 42).map (·.size) = some (arr .u16 256 f).size := by rw [arr_size]; kernel_rfl
/-- Three14 blocks of a call's own. -/
def Three14 (k : IntKind) (n : Nat) (w wx : World) (g : Nat) (t0 t1 t2 : TypeId) (cs c1 : Array Value) (f : Nat → Int) : Prop :=
  Past w wx ∧ Row wx g t0 cs ∧ Row wx (g + 1) t1 c1 ∧ LM k wx (g + 1 + 1) t2 n f
theorem Three14.new (k : IntKind) (n : Nat) (w : World) (t0 t1 t2 : TypeId) (cs c1 : Array Value) (f : Nat → Int) :
    Three14 k n w (((w.alloc (.cells cs t0)).alloc (.cells c1 t1)).alloc (.cells (arr k n f) t2)) w.heap.size t0 t1 t2 cs c1 f := by
  refine ⟨(((Below.refl _ _).alloc (Nat.le_refl _) _).alloc (by simp) _).alloc (by simp; omega) _, ((Row.new w t0 cs).alloc _).alloc _, ?_, ?_⟩
  · have := (Row.new (w.alloc (.cells cs t0)) t1 c1).alloc (.cells (arr k n f) t2)
    simpa using this
  · have := Row.new ((w.alloc (.cells cs t0)).alloc (.cells c1 t1)) t2 (arr k n f)
    simpa using this
theorem Three14.put {k : IntKind} {n : Nat} {w wx : World} {t0 t1 t2 : TypeId} {cs c1 : Array Value} {f : Nat → Int} {g : Nat} (h : Three14 k n w wx g t0 t1 t2 cs c1 f) (hg : w.heap.size ≤ g) (i : Nat) (hi : i < n) (v : Int) :
    Three14 k n w (wx.setCell ⟨g + 1 + 1, i, none⟩ (.int k v)) g t0 t1 t2 cs c1 (upd f i v) :=
  ⟨h.1.set (by show _ ≤ g + 1 + 1; omega) _, h.2.1.setOther (by omega) _ _, h.2.2.1.setOther (by omega) _ _, h.2.2.2.put i hi v⟩
theorem Three14.drewN {k : IntKind} {n : Nat} {w wx : World} {t0 t1 t2 : TypeId} {cs c1 : Array Value} {f : Nat → Int} {g : Nat} (h : Three14 k n w wx g t0 t1 t2 cs c1 f) (m : Nat) : Three14 k n w (wx.drewN m) g t0 t1 t2 cs c1 f :=
  ⟨h.1.drewN m, h.2.1, h.2.2.1, h.2.2.2⟩

/-- Rows that stay, and a block of numbers that is written to. -/
def Fx (L : List (Nat × TypeId × Array Value)) (k : IntKind) (n : Nat) (w wx : World) (g : Nat) (t : TypeId) (f : Nat → Int) : Prop :=
  Past w wx ∧ (∀ x ∈ L, Row wx x.1 x.2.1 x.2.2) ∧ LM k wx g t n f
theorem Fx.put {L : List (Nat × TypeId × Array Value)} {k : IntKind} {n : Nat} {w wx : World} {g : Nat} {t : TypeId} {f : Nat → Int} (h : Fx L k n w wx g t f) (hg : w.heap.size ≤ g) (hL : ∀ x ∈ L, x.1 < g) (i : Nat) (hi : i < n) (v : Int) :
    Fx L k n w (wx.setCell ⟨g, i, none⟩ (.int k v)) g t (upd f i v) :=
  ⟨h.1.set hg _, fun x hx => (h.2.1 x hx).setOther (by have := hL x hx; omega) _ _, h.2.2.put i hi v⟩
theorem Three14.fx {k : IntKind} {n : Nat} {w wx : World} {t0 t1 t2 : TypeId} {cs c1 : Array Value} {f : Nat → Int} {g : Nat} (h : Three14 k n w wx g t0 t1 t2 cs c1 f) : Fx [(g, t0, cs), (g + 1, t1, c1)] k n w wx (g + 1 + 1) t2 f := by
  refine ⟨h.1, ?_, h.2.2.2⟩
  intro x hx
  rcases List.mem_cons.1 hx with rfl | hx
  · exact h.2.1
  · rcases List.mem_cons.1 hx with rfl | hx
    · exact h.2.2.1
    · cases hx
theorem mul_bd {a b : Int} (a0 : 0 ≤ a) (a1 : a < 3329) (b0 : 0 ≤ b) (b1 : b < 3329) : 0 ≤ a * b ∧ a * b ≤ 11075584 :=
  ⟨Int.mul_nonneg a0 b0, Int.le_trans (Int.mul_le_mul (show a ≤ 3328 by omega) (show b ≤ 3328 by omega) b0 (by decide)) (by decide)⟩
theorem rt_lt (i : Nat) : 0 ≤ rt i ∧ rt i < 3329 := pw_lt _

end Go.Proofs.YthbnaoifiggdnaaGreatDoor

namespace Go.Proofs.YthbnaoifiggdnaaGreatDoor
open Go.RowKit
set_option linter.unusedVariables false

theorem Fx.drewN {L : List (Nat × TypeId × Array Value)} {k : IntKind} {n : Nat} {w wx : World} {g : Nat} {t : TypeId} {f : Nat → Int} (h : Fx L k n w wx g t f) (m : Nat) : Fx L k n w (wx.drewN m) g t f :=
  ⟨h.1.drewN m, h.2.1, h.2.2⟩
/-- Two arguments, the result and one more block. -/
theorem four_fx (w : World) (t0 t1 t2 t3 : TypeId) (ca cb cz : Array Value) (k : IntKind) (n : Nat) (f : Nat → Int) :
    Fx [(w.heap.size, t0, ca), (w.heap.size + 1, t1, cb), (w.heap.size + 1 + 1, t2, cz)] k n w ((((w.alloc (.cells ca t0)).alloc (.cells cb t1)).alloc (.cells cz t2)).alloc (.cells (arr k n f) t3)) (w.heap.size + 1 + 1 + 1) t3 f := by
  have p0 : Past w w := Below.refl _ _
  have p1 : Past w (w.alloc (.cells ca t0)) := p0.alloc (Nat.le_refl _) _
  have r1 := Row.new w t0 ca
  have r2 := Row.new (w.alloc (.cells ca t0)) t1 cb
  have r3 := Row.new ((w.alloc (.cells ca t0)).alloc (.cells cb t1)) t2 cz
  have r4 := Row.new (((w.alloc (.cells ca t0)).alloc (.cells cb t1)).alloc (.cells cz t2)) t3 (arr k n f)
  simp only [World.size_alloc] at r2 r3 r4
  refine ⟨((((p1.alloc (by simp) _).alloc (by simp; omega) _).alloc (by simp; omega) _)), ?_, r4⟩
  intro x hx
  rcases List.mem_cons.1 hx with rfl | hx
  · exact ((r1.alloc _).alloc _).alloc _
  · rcases List.mem_cons.1 hx with rfl | hx
    · exact (r2.alloc _).alloc _
    · rcases List.mem_cons.1 hx with rfl | hx
      · exact r3.alloc _
      · cases hx
set_option maxHeartbeats 4000000 in
set_option maxRecDepth 100000 in
theorem radd_any (a b : Nat → Int) (ha : ∀ j, 0 ≤ a j ∧ a j < 65536) (hb : ∀ j, 0 ≤ b j ∧ b j < 65536) (w : World) :
    Calls Tryz.prog 43 #[.agg (arr .u16 256 a), .agg (arr .u16 256 b)] w fun e w' => e = .returned (.agg (arr .u16 256 (addF a b))) ∧ Past w w' := by
  have HCA := Lib.hid (fun i (hi : i < 256) => arr_get .u16 256 a i hi)
  have HCB := Lib.hid (fun i (hi : i < 256) => arr_get .u16 256 b i hi)
  have HFA := Lib.hid ha
  have HFB := Lib.hid hb
  obtain ⟨g, hg⟩ : ∃ g, w.heap.size = g := ⟨_, rfl⟩
  obtain ⟨w3, hw3⟩ : ∃ w', w' = (((w.alloc (.cells (arr .u16 256 a) 42)).alloc (.cells (arr .u16 256 b) 42)).alloc (.cells (arr .u16 256 fun _ => 0) 42)).alloc (.cells (arr .u16 256 fun _ => 0) 42) := ⟨_, rfl⟩
  have H0 : Hid (Fx [(g, 42, arr .u16 256 a), (g + 1, 42, arr .u16 256 b), (g + 1 + 1, 42, arr .u16 256 fun _ => 0)] .u16 256 w w3 (g + 1 + 1 + 1) 42 fun _ => 0) := Lib.hid (by
    have h := four_fx w 42 42 42 42 (arr .u16 256 a) (arr .u16 256 b) (arr .u16 256 fun _ => 0) .u16 256 fun _ => 0
    rw [hg, ← hw3] at h
    exact h)
  have HGE : Hid (w.heap.size = g) := Lib.hid hg
  have HW3 := Lib.hid hw3
  clear ha hb hw3
  generalize arr .u16 256 a = ca at *
  generalize arr .u16 256 b = cb at *
  go_enter Tryz.func43, Tryz.ntmps43
  have hz := zero256
  go_upto_region 2 with (fail)
  clear hz
  rw [← HW3.out]
  try rw [hg]
  clear HW3 hg
  go_wp2_with fail
  go_loopg [6] 256 (fun q s6 wx => ∃ i : Nat, i ≤ 256 ∧ q = 256 - i ∧ s6 = .int .i64 (i : Int) ∧ Hid (∃ F, Fx [(g, 42, ca), (g + 1, 42, cb), (g + 1 + 1, 42, arr .u16 256 fun _ => 0)] .u16 256 w wx (g + 1 + 1 + 1) 42 F ∧ ∀ j, j < i → F j = addF a b j))
  case atStart => exact ⟨0, Nat.zero_le _, rfl, rfl, Lib.hid ⟨_, H0.out, fun j hj => absurd hj (by omega)⟩⟩
  case round =>
    clear H0
    obtain ⟨i, hi, hq, rfl, HQ⟩ := hrel
    have HGQ := Lib.hid hq
    clear hq
    have hi0 : (0 : Int) ≤ (i : Int) := by omega
    obtain ⟨F, hT, hF⟩ := HQ.out
    by_cases hlt : i < 256
    · have hii : (i : Int) < 256 := by omega
      have HLT := Lib.hid hlt
      have hc1 : wr.cell? ⟨g, i, none⟩ = some (.int .u16 (a i)) := by
        rw [(hT.2.1 (g, 42, ca) (by simp)).cell]
        exact HCA.out i hlt
      have hc2 : wr.cell? ⟨g + 1, i, none⟩ = some (.int .u16 (b i)) := by
        rw [(hT.2.1 (g + 1, 42, cb) (by simp)).cell]
        exact HCB.out i hlt
      have hc3 := hT.2.2.at i hlt
      have hf3 := hT.2.2.fr i
      obtain ⟨x0, x1⟩ := HFA.out i
      obtain ⟨y0, y1⟩ := HFB.out i
      have hT1 := hT.put (by have := HGE.out; omega) (by intro x hx; simp at hx; rcases hx with rfl | rfl | rfl <;> simp <;> omega) i hlt (addF a b i)
      have HT2 := Lib.hid (show ∃ F', Fx _ _ _ _ _ _ _ F' ∧ ∀ j, j < i + 1 → F' j = addF a b j from ⟨_, hT1, fun j hj => by
        by_cases e1 : j = i
        · subst e1; rw [upd_at]
        · rw [upd_ne _ _ e1]; exact hF j (by omega)⟩)
      obtain ⟨y, hy⟩ : ∃ y, addF a b i = y := ⟨_, rfl⟩
      have hy2 : (a i + b i) % 3329 = y := hy
      have hyb : 0 ≤ y ∧ y < 3329 := by omega
      rw [hy] at HT2
      generalize a i = p at *
      generalize b i = r at *
      clear hT hF hT1 HQ hy hlt hi
      go_wp2_with fail
      go_region
      go_wp2_with fail
      go_roundg (256 - (i + 1))
      case rel => exact ⟨i + 1, HLT.out, rfl, by go_num, Lib.hid (HT2.out.imp fun F h => ⟨h.1.drewN 1, h.2⟩)⟩
      case measure => have := HGQ.out; have := HLT.out; omega
    · obtain rfl : i = 256 := by omega
      have he : arr .u16 256 F = arr .u16 256 (addF a b) := arr_ext fun j hj => hF j (by omega)
      have hr2 := hT.2.2
      have hr1 := hT.2.1 (g + 1 + 1, 42, arr .u16 256 fun _ => 0) (by simp)
      unfold LM at hr2
      rw [he] at hr2
      have hi2 := inf256 (addF a b)
      have hs2 : (arr .u16 256 fun _ => 0).size = (arr .u16 256 (addF a b)).size := by rw [arr_size, arr_size]
      have ho2 := arr_one .u16 256 (addF a b)
      have HP := Lib.hid hT.1
      clear hT hF he HQ HCA HCB
      generalize hcc : arr .u16 256 (addF a b) = c2 at *
      have HCC := Lib.hid hcc
      clear hcc
      generalize arr .u16 256 (fun _ => 0) = c1 at *
      simp only at hr1
      go_wp2_with (first | (refine wpList_load_row rfl 42 _ rfl (g + 1 + 1 + 1) rfl _ _ (0, 0) _ hr2 Tryz.underlying42 rfl hi2 ?_) | (refine wpList_store_row rfl 42 _ _ rfl (g + 1 + 1) _ rfl rfl _ _ hr1 hi2 hs2 ho2 ?_))
      refine bodyPost_ret (results_cell_row rfl _ _ (g + 1 + 1) _ c2 (0, 0) _ rfl (setRow_heap wr (g + 1 + 1) c1 c2 _ _ hr1) Tryz.underlying42 rfl hi2) rfl ?_
      exact ⟨by rw [HCC.out], below_setRow HP.out (by have := HGE.out; omega) _⟩
set_option maxHeartbeats 4000000 in
set_option maxRecDepth 100000 in
theorem rreduced_any (a : Nat → Int) (ha : ∀ j, 0 ≤ a j ∧ a j < 65536) (w : World) :
    Calls Tryz.prog 23 #[.agg (arr .u16 256 a)] w fun e w' => e = .returned (.agg (arr .u16 256 (rdc a))) ∧ Past w w' := by
  have HA := Lib.hid (fun w => radd_any a (fun _ => 0) ha (fun _ => by simp) w)
  have HE : Hid (arr .u16 256 (addF a fun _ => 0) = arr .u16 256 (rdc a)) := Lib.hid (by unfold addF rdc; simp)
  have hs2 : (arr .u16 256 fun _ => 0).size = (arr .u16 256 (rdc a)).size := by rw [arr_size, arr_size]
  have ho2 := arr_one .u16 256 (rdc a)
  have hi2 := inf256 (rdc a)
  have hia := inf256 a
  obtain ⟨g, hg⟩ : ∃ g, w.heap.size = g := ⟨_, rfl⟩
  obtain ⟨w2, hw2⟩ : ∃ w', w' = (w.alloc (.cells (arr .u16 256 a) 42)).alloc (.cells (arr .u16 256 fun _ => 0) 42) := ⟨_, rfl⟩
  have hp2 : Past w w2 := by rw [hw2]; exact ((Below.refl _ w).alloc (Nat.le_refl _) _).alloc (by simp) _
  have hrA : Row w2 g 42 (arr .u16 256 a) := by rw [hw2, ← hg]; exact (Row.new _ _ _).alloc _
  have hrR : Row w2 (g + 1) 42 (arr .u16 256 fun _ => 0) := by
    rw [hw2, ← hg]
    have := Row.new (w.alloc (.cells (arr .u16 256 a) 42)) 42 (arr .u16 256 fun _ => 0)
    rwa [World.size_alloc] at this
  have HW2 := Lib.hid hw2
  have H2 : Hid (Past w w2 ∧ Row w2 (g + 1) 42 (arr .u16 256 fun _ => 0) ∧ w.heap.size = g) := Lib.hid ⟨hp2, hrR, hg⟩
  clear hw2 hp2 hrR ha
  generalize arr .u16 256 a = ca at *
  generalize arr .u16 256 (rdc a) = cr at *
  rw [HE.out] at HA
  clear HE
  go_enter Tryz.func23, Tryz.ntmps23
  have hz := zero256
  go_upto_region 1 with (fail)
  rw [← HW2.out]
  try rw [hg]
  clear HW2 hg
  go_wp2_with (refine wpList_load_row rfl 42 _ rfl g rfl _ _ (0, 0) _ hrA Tryz.underlying42 rfl hia ?_)
  refine (HA.out _).mono ?_
  rintro e w3 ⟨rfl, hp⟩
  have hrow := H2.out.2.1.past hp
  have H3 : Hid (Past w w3 ∧ w.heap.size = g) := Lib.hid ⟨H2.out.1.trans' hp, H2.out.2.2⟩
  clear hp H2 hrA
  generalize arr .u16 256 (fun _ => 0) = c0 at *
  go_wp2_with (refine wpList_store_row rfl 42 _ _ rfl (g + 1) _ rfl rfl _ _ hrow hi2 hs2 ho2 ?_)
  refine bodyPost_ret (results_cell_row rfl _ _ (g + 1) _ cr (0, 0) _ rfl (setRow_heap w3 (g + 1) _ cr _ _ hrow) Tryz.underlying42 rfl hi2) rfl ?_
  exact ⟨rfl, below_setRow H3.out.1 (by have := H3.out.2; omega) _⟩
end Go.Proofs.YthbnaoifiggdnaaGreatDoor

namespace Go.Proofs.YthbnaoifiggdnaaGreatDoor
open Go.RowKit
set_option linter.unusedVariables false

def nxt (s1 x : Int) : Int := ((x * 6364136223846793005 % 18446744073709551616 + s1) % 18446744073709551616 + 1442695040888963407) % 18446744073709551616
def sqX (s0 s1 : Int) : Nat → Int
  | 0 => s0
  | i + 1 => nxt s1 (sqX s0 s1 i)
def sprA (s2 y : Int) : Int := if s2 % 3 = 0 then y / 1099511627776 % 65536 % 3329 else y / 1099511627776 % 65536
/-- The coefficient i of the polynomial of three numbers. -/
def spr (s0 s1 s2 : Int) (i : Nat) : Int := if s2 % 3 = 1 ∧ s1 % 5 < (i : Int) then 0 else sprA s2 (sqX s0 s1 (i + 1))
theorem spr_rng (s0 s1 s2 : Int) (i : Nat) : 0 ≤ spr s0 s1 s2 i ∧ spr s0 s1 s2 i < 65536 := by
  unfold spr sprA
  split
  · omega
  · split <;> omega
/-- An array of three numbers. -/
abbrev arr3 (a b c : Int) : Array Value := #[.int .u32 a, .int .u32 b, .int .u32 c]
set_option maxHeartbeats 4000000 in
set_option maxRecDepth 100000 in
theorem spread_any (s0 s1 s2 : Int) (r0 : 0 ≤ s0 ∧ s0 < 4294967296) (r1 : 0 ≤ s1 ∧ s1 < 4294967296) (r2 : 0 ≤ s2 ∧ s2 < 4294967296) (w : World) :
    Calls Tryz.prog 19 #[.agg (arr3 s0 s1 s2)] w fun e w' => e = .returned (.agg (arr .u16 256 (spr s0 s1 s2))) ∧ Past w w' := by
  obtain ⟨a0, a1⟩ := r0
  obtain ⟨b0, b1⟩ := r1
  obtain ⟨c0, c1⟩ := r2
  obtain ⟨g, hg⟩ : ∃ g, w.heap.size = g := ⟨_, rfl⟩
  obtain ⟨w3, hw3⟩ : ∃ w', w' = ((w.alloc (.cells (arr3 s0 s1 s2) 40)).alloc (.cells (arr .u16 256 fun _ => 0) 42)).alloc (.cells (arr .u16 256 fun _ => 0) 42) := ⟨_, rfl⟩
  have H0 : Hid (Fx [(g, 40, arr3 s0 s1 s2), (g + 1, 42, arr .u16 256 fun _ => 0)] .u16 256 w w3 (g + 1 + 1) 42 fun _ => 0) := Lib.hid (by
    have h := Three14.new .u16 256 w 40 42 42 (arr3 s0 s1 s2) (arr .u16 256 fun _ => 0) fun _ => 0
    rw [hg, ← hw3] at h
    exact h.fx)
  have HGE : Hid (w.heap.size = g) := Lib.hid hg
  have HW3 := Lib.hid hw3
  clear hw3
  go_enter Tryz.func19, Tryz.ntmps19
  have hz := zero256
  go_upto_region 2 with (fail)
  clear hz
  rw [← HW3.out]
  try rw [hg]
  clear HW3 hg
  have k0 : w3.cell? ⟨g, 0, none⟩ = some (.int .u32 s0) := (H0.out.2.1 (g, 40, arr3 s0 s1 s2) (by simp)).cell 0
  go_wp2_with fail
  clear k0
  go_loopg [4, 5] 256 (fun q s4 s5 wx => ∃ (i : Nat) (x : Int), i ≤ 256 ∧ q = 256 - i ∧ s4 = .int .u64 x ∧ s5 = .int .i64 (i : Int) ∧ 0 ≤ x ∧ x < 18446744073709551616 ∧ Hid (x = sqX s0 s1 i) ∧ Hid (∃ F, Fx [(g, 40, arr3 s0 s1 s2), (g + 1, 42, arr .u16 256 fun _ => 0)] .u16 256 w wx (g + 1 + 1) 42 F ∧ ∀ j, j < i → F j = spr s0 s1 s2 j))
  case atStart => exact ⟨0, s0, Nat.zero_le _, rfl, rfl, rfl, a0, by omega, Lib.hid rfl, Lib.hid ⟨_, H0.out, fun j hj => absurd hj (by omega)⟩⟩
  case round =>
    clear H0
    obtain ⟨i, x, hi, hq, rfl, rfl, x0, x1, HX, HQ⟩ := hrel
    have HGQ := Lib.hid hq
    clear hq
    have hi0 : (0 : Int) ≤ (i : Int) := by omega
    obtain ⟨F, hT, hF⟩ := HQ.out
    by_cases hlt : i < 256
    · have hii : (i : Int) < 256 := by omega
      have HLT := Lib.hid hlt
      have HX1 : Hid (nxt s1 x = sqX s0 s1 (i + 1)) := Lib.hid (by rw [HX.out]; rfl)
      obtain ⟨p, hp⟩ : ∃ p, x * 6364136223846793005 % 18446744073709551616 = p := ⟨_, rfl⟩
      obtain ⟨r, hr⟩ : ∃ r, (p + s1) % 18446744073709551616 = r := ⟨_, rfl⟩
      obtain ⟨y, hy⟩ : ∃ y, (r + 1442695040888963407) % 18446744073709551616 = y := ⟨_, rfl⟩
      have HY : Hid (y = sqX s0 s1 (i + 1)) := Lib.hid (by rw [← HX1.out, ← hy, ← hr, ← hp]; rfl)
      have y0 : 0 ≤ y := by omega
      have y1 : y < 18446744073709551616 := by omega
      have HYB : Hid (0 ≤ y ∧ y < 18446744073709551616) := Lib.hid ⟨y0, y1⟩
      have p0 : 0 ≤ p := by omega
      have r0 : 0 ≤ r := by omega
      obtain ⟨v, hv⟩ : ∃ v, y / 1099511627776 % 65536 = v := ⟨_, rfl⟩
      have v0 : 0 ≤ v := by omega
      have v1 : v < 65536 := by omega
      have hwp : IntKind.u64.wrap (x * 6364136223846793005) = p := by rw [IntKind.wrap_u64]; exact hp
      have hwr : IntKind.u64.wrap (p + s1) = r := by rw [IntKind.wrap_u64]; exact hr
      have hwy : IntKind.u64.wrap (r + 1442695040888963407) = y := by rw [IntKind.wrap_u64]; exact hy
      have hwv : IntKind.u16.wrap (y / 1099511627776) = v := by rw [IntKind.wrap_u16]; exact hv
      have hrow := hT.2.1 (g, 40, arr3 s0 s1 s2) (by simp)
      have HRow := Lib.hid hrow
      have k1 := hrow.cell 1
      have k2 := hrow.cell 2
      have hc3 := hT.2.2.at i hlt
      have hf3 := hT.2.2.fr i
      have hput := fun v => hT.put (by have := HGE.out; omega) (by intro x hx; simp at hx; rcases hx with rfl | rfl <;> simp <;> omega) i hlt v
      clear HX1 hput hrow
      have hvd : ∀ q : Int, (if s2 % 3 = 1 ∧ s1 % 5 < (i : Int) then 0 else sprA s2 y) = q → spr s0 s1 s2 i = q := fun q h => by unfold spr; rw [← HY.out]; exact h
      rcases (show s2 % 3 = 0 ∨ s2 % 3 = 1 ∨ s2 % 3 = 2 by omega) with hm | hm | hm
      · have HV : Hid (v % 3329 = spr s0 s1 s2 i) := Lib.hid (by rw [hvd (v % 3329)]; rw [if_neg (by omega)]; unfold sprA; rw [if_pos hm, hv])
        clear hvd
        have hT1 := hT.put (by have := HGE.out; omega) (by intro x hx; simp at hx; rcases hx with rfl | rfl <;> simp <;> omega) i HLT.out (v)
        have ka1 := (hT1.2.1 (g, 40, arr3 s0 s1 s2) (by simp)).cell 1
        have kb1 := (hT1.2.1 (g, 40, arr3 s0 s1 s2) (by simp)).cell 2
        have hc4 := hT1.2.2.at i HLT.out
        have hf4 := hT1.2.2.fr i
        rw [upd_at] at hc4
        have hT2 := hT1.put (by have := HGE.out; omega) (by intro x hx; simp at hx; rcases hx with rfl | rfl <;> simp <;> omega) i HLT.out (v % 3329)
        have ka2 := (hT2.2.1 (g, 40, arr3 s0 s1 s2) (by simp)).cell 1
        have kb2 := (hT2.2.1 (g, 40, arr3 s0 s1 s2) (by simp)).cell 2
        have hc5 := hT2.2.2.at i HLT.out
        have hf5 := hT2.2.2.fr i
        rw [upd_at] at hc5
        have HT2 := Lib.hid (show ∃ F', Fx _ _ _ _ _ _ _ F' ∧ ∀ j, j < i + 1 → F' j = spr s0 s1 s2 j from ⟨_, hT2, fun j hj => by
          by_cases e1 : j = i
          · subst e1; rw [upd_at, HV.out]
          · rw [upd_ne _ _ e1]; rw [upd_ne _ _ e1]; exact hF j (by omega)⟩)
        clear hT hT1 hT2 hF HQ hlt hi
        clear hp hr hy hv HX
        go_wp2_with fail
        go_roundg (256 - (i + 1))
        case rel => exact ⟨i + 1, y, HLT.out, rfl, rfl, by go_num, HYB.out.1, HYB.out.2, HY, HT2⟩
        case measure => have := HGQ.out; have := HLT.out; omega

      · by_cases hg5 : s1 % 5 < (i : Int)
        · have HV : Hid (0 = spr s0 s1 s2 i) := Lib.hid (by rw [hvd 0]; rw [if_pos ⟨hm, hg5⟩])
          clear hvd
          obtain ⟨t, ht⟩ : ∃ t, s1 % 5 = t := ⟨_, rfl⟩
          rw [ht] at hg5
          have t0 : 0 ≤ t := by omega
          have t1 : t < 5 := by omega
          have hT1 := hT.put (by have := HGE.out; omega) (by intro x hx; simp at hx; rcases hx with rfl | rfl <;> simp <;> omega) i HLT.out (v)
          have ka1 := (hT1.2.1 (g, 40, arr3 s0 s1 s2) (by simp)).cell 1
          have kb1 := (hT1.2.1 (g, 40, arr3 s0 s1 s2) (by simp)).cell 2
          have hc4 := hT1.2.2.at i HLT.out
          have hf4 := hT1.2.2.fr i
          rw [upd_at] at hc4
          have hT2 := hT1.put (by have := HGE.out; omega) (by intro x hx; simp at hx; rcases hx with rfl | rfl <;> simp <;> omega) i HLT.out (0)
          have ka2 := (hT2.2.1 (g, 40, arr3 s0 s1 s2) (by simp)).cell 1
          have kb2 := (hT2.2.1 (g, 40, arr3 s0 s1 s2) (by simp)).cell 2
          have hc5 := hT2.2.2.at i HLT.out
          have hf5 := hT2.2.2.fr i
          rw [upd_at] at hc5
          have HT2 := Lib.hid (show ∃ F', Fx _ _ _ _ _ _ _ F' ∧ ∀ j, j < i + 1 → F' j = spr s0 s1 s2 j from ⟨_, hT2, fun j hj => by
            by_cases e1 : j = i
            · subst e1; rw [upd_at, HV.out]
            · rw [upd_ne _ _ e1]; rw [upd_ne _ _ e1]; exact hF j (by omega)⟩)
          clear hT hT1 hT2 hF HQ hlt hi
          clear hp hr hy hv HX
          go_wp2_with fail
          go_roundg (256 - (i + 1))
          case rel => exact ⟨i + 1, y, HLT.out, rfl, rfl, by go_num, HYB.out.1, HYB.out.2, HY, HT2⟩
          case measure => have := HGQ.out; have := HLT.out; omega

        · have HV : Hid (v = spr s0 s1 s2 i) := Lib.hid (by rw [hvd v]; rw [if_neg (by omega)]; unfold sprA; rw [if_neg (by omega), hv])
          clear hvd
          obtain ⟨t, ht⟩ : ∃ t, s1 % 5 = t := ⟨_, rfl⟩
          rw [ht] at hg5
          have t0 : 0 ≤ t := by omega
          have t1 : t < 5 := by omega
          have hT1 := hT.put (by have := HGE.out; omega) (by intro x hx; simp at hx; rcases hx with rfl | rfl <;> simp <;> omega) i HLT.out (v)
          have ka1 := (hT1.2.1 (g, 40, arr3 s0 s1 s2) (by simp)).cell 1
          have kb1 := (hT1.2.1 (g, 40, arr3 s0 s1 s2) (by simp)).cell 2
          have hc4 := hT1.2.2.at i HLT.out
          have hf4 := hT1.2.2.fr i
          rw [upd_at] at hc4
          have HT2 := Lib.hid (show ∃ F', Fx _ _ _ _ _ _ _ F' ∧ ∀ j, j < i + 1 → F' j = spr s0 s1 s2 j from ⟨_, hT1, fun j hj => by
            by_cases e1 : j = i
            · subst e1; rw [upd_at, HV.out]
            · rw [upd_ne _ _ e1]; exact hF j (by omega)⟩)
          clear hT hT1 hF HQ hlt hi
          clear hp hr hy hv HX
          go_wp2_with fail
          go_roundg (256 - (i + 1))
          case rel => exact ⟨i + 1, y, HLT.out, rfl, rfl, by go_num, HYB.out.1, HYB.out.2, HY, HT2⟩
          case measure => have := HGQ.out; have := HLT.out; omega

      · have HV : Hid (v = spr s0 s1 s2 i) := Lib.hid (by rw [hvd v]; rw [if_neg (by omega)]; unfold sprA; rw [if_neg (by omega), hv])
        clear hvd
        have hT1 := hT.put (by have := HGE.out; omega) (by intro x hx; simp at hx; rcases hx with rfl | rfl <;> simp <;> omega) i HLT.out (v)
        have ka1 := (hT1.2.1 (g, 40, arr3 s0 s1 s2) (by simp)).cell 1
        have kb1 := (hT1.2.1 (g, 40, arr3 s0 s1 s2) (by simp)).cell 2
        have hc4 := hT1.2.2.at i HLT.out
        have hf4 := hT1.2.2.fr i
        rw [upd_at] at hc4
        have HT2 := Lib.hid (show ∃ F', Fx _ _ _ _ _ _ _ F' ∧ ∀ j, j < i + 1 → F' j = spr s0 s1 s2 j from ⟨_, hT1, fun j hj => by
          by_cases e1 : j = i
          · subst e1; rw [upd_at, HV.out]
          · rw [upd_ne _ _ e1]; exact hF j (by omega)⟩)
        clear hT hT1 hF HQ hlt hi
        clear hp hr hy hv HX
        go_wp2_with fail
        go_roundg (256 - (i + 1))
        case rel => exact ⟨i + 1, y, HLT.out, rfl, rfl, by go_num, HYB.out.1, HYB.out.2, HY, HT2⟩
        case measure => have := HGQ.out; have := HLT.out; omega
    · obtain rfl : i = 256 := by omega
      have he : arr .u16 256 F = arr .u16 256 (spr s0 s1 s2) := arr_ext fun j hj => hF j (by omega)
      have hr2 := hT.2.2
      have hr1 := hT.2.1 (g + 1, 42, arr .u16 256 fun _ => 0) (by simp)
      unfold LM at hr2
      rw [he] at hr2
      have hi2 := inf256 (spr s0 s1 s2)
      have hs2 : (arr .u16 256 fun _ => 0).size = (arr .u16 256 (spr s0 s1 s2)).size := by rw [arr_size, arr_size]
      have ho2 := arr_one .u16 256 (spr s0 s1 s2)
      have HP := Lib.hid hT.1
      clear hT hF he HQ
      generalize hcc : arr .u16 256 (spr s0 s1 s2) = c2 at *
      have HCC := Lib.hid hcc
      clear hcc
      generalize arr .u16 256 (fun _ => 0) = c1 at *
      simp only at hr1
      go_wp2_with (first | (refine wpList_load_row rfl 42 _ rfl (g + 1 + 1) rfl _ _ (0, 0) _ hr2 Tryz.underlying42 rfl hi2 ?_) | (refine wpList_store_row rfl 42 _ _ rfl (g + 1) _ rfl rfl _ _ hr1 hi2 hs2 ho2 ?_))
      refine bodyPost_ret (results_cell_row rfl _ _ (g + 1) _ c2 (0, 0) _ rfl (setRow_heap wr (g + 1) c1 c2 _ _ hr1) Tryz.underlying42 rfl hi2) rfl ?_
      exact ⟨by rw [HCC.out], below_setRow HP.out (by have := HGE.out; omega) _⟩
end Go.Proofs.YthbnaoifiggdnaaGreatDoor
