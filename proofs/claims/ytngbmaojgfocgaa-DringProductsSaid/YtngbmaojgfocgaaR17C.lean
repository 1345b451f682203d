/- The reference's Add and Reduced. -/
import Derived.Test.YtngbmaojgfocgaaR17B
namespace Go.Proofs.Ytngbmaojgfocgaa.dr
open Go.RowKit
set_option linter.unusedVariables false

theorem Fx.drewN {L : List (Nat × TypeId × Array Value)} {k : IntKind} {n : Nat} {w wx : World} {g : Nat} {t : TypeId} {f : Nat → Int} (h : Fx L k n w wx g t f) (m : Nat) : Fx L k n w (wx.drewN m) g t f :=
  ⟨h.1.drewN m, h.2.1, h.2.2⟩
/-- Two arguments, the result and one more block. -/
theorem four_fx (w : World) (t0 t1 t2 t3 : TypeId) (ca cb cz : Array Value) (k : IntKind) (n : Nat) (f : Nat → Int) :
    Fx [(w.heap.size, t0, ca), (w.heap.size + 1, t1, cb), (w.heap.size + 1 + 1, t2, cz)] k n w ((((w.alloc (.cells ca t0)).alloc (.cells cb t1)).alloc (.cells cz t2)).alloc (.cells (arr k n f) t3)) (w.heap.size + 1 + 1 + 1) t3 f := by
  have p0 : Past w w := Below.refl _ _
  have p1 : Past w (w.alloc (.cells ca t0)) := p0.alloc (Nat.le_refl _) _
  have r1 := Row.new w t0 ca
  have r2 := Row.new (w.alloc (.cells ca t0)) t1 cb
  have r3 := Row.new ((w.alloc (.cells ca t0)).alloc (.cells cb t1)) t2 cz
  have r4 := Row.new (((w.alloc (.cells ca t0)).alloc (.cells cb t1)).alloc (.cells cz t2)) t3 (arr k n f)
  simp only [World.size_alloc] at r2 r3 r4
  refine ⟨((((p1.alloc (by simp) _).alloc (by simp; omega) _).alloc (by simp; omega) _)), ?_, r4⟩
  intro x hx
  rcases List.mem_cons.1 hx with rfl | hx
  · exact ((r1.alloc _).alloc _).alloc _
  · rcases List.mem_cons.1 hx with rfl | hx
    · exact (r2.alloc _).alloc _
    · rcases List.mem_cons.1 hx with rfl | hx
      · exact r3.alloc _
      · cases hx
set_option maxHeartbeats 4000000 in
set_option maxRecDepth 100000 in
theorem radd_any (a b : Nat → Int) (ha : ∀ j, 0 ≤ a j ∧ a j < 4294967296) (hb : ∀ j, 0 ≤ b j ∧ b j < 4294967296) (w : World) :
    Calls Try.prog 20 #[.agg (arr .u32 256 a), .agg (arr .u32 256 b)] w fun e w' => e = .returned (.agg (arr .u32 256 (addF a b))) ∧ Past w w' := by
  have HCA := Lib.hid (fun i (hi : i < 256) => arr_get .u32 256 a i hi)
  have HCB := Lib.hid (fun i (hi : i < 256) => arr_get .u32 256 b i hi)
  have HFA := Lib.hid ha
  have HFB := Lib.hid hb
  obtain ⟨g, hg⟩ : ∃ g, w.heap.size = g := ⟨_, rfl⟩
  obtain ⟨w3, hw3⟩ : ∃ w', w' = (((w.alloc (.cells (arr .u32 256 a) 25)).alloc (.cells (arr .u32 256 b) 25)).alloc (.cells (arr .u32 256 fun _ => 0) 25)).alloc (.cells (arr .u32 256 fun _ => 0) 25) := ⟨_, rfl⟩
  have H0 : Hid (Fx [(g, 25, arr .u32 256 a), (g + 1, 25, arr .u32 256 b), (g + 1 + 1, 25, arr .u32 256 fun _ => 0)] .u32 256 w w3 (g + 1 + 1 + 1) 25 fun _ => 0) := Lib.hid (by
    have h := four_fx w 25 25 25 25 (arr .u32 256 a) (arr .u32 256 b) (arr .u32 256 fun _ => 0) .u32 256 fun _ => 0
    rw [hg, ← hw3] at h
    exact h)
  have HGE : Hid (w.heap.size = g) := Lib.hid hg
  have HW3 := Lib.hid hw3
  clear ha hb hw3
  generalize arr .u32 256 a = ca at *
  generalize arr .u32 256 b = cb at *
  go_enter Try.func20, Try.ntmps20
  have hz := zero256
  go_upto_region 2 with (fail)
  clear hz
  rw [← HW3.out]
  try rw [hg]
  clear HW3 hg
  go_wp2_with fail
  go_loopg [6] 256 (fun q s6 wx => ∃ i : Nat, i ≤ 256 ∧ q = 256 - i ∧ s6 = .int .i64 (i : Int) ∧ Hid (∃ F, Fx [(g, 25, ca), (g + 1, 25, cb), (g + 1 + 1, 25, arr .u32 256 fun _ => 0)] .u32 256 w wx (g + 1 + 1 + 1) 25 F ∧ ∀ j, j < i → F j = addF a b j))
  case atStart => exact ⟨0, Nat.zero_le _, rfl, rfl, Lib.hid ⟨_, H0.out, fun j hj => absurd hj (by omega)⟩⟩
  case round =>
    clear H0
    obtain ⟨i, hi, hq, rfl, HQ⟩ := hrel
    have HGQ := Lib.hid hq
    clear hq
    have hi0 : (0 : Int) ≤ (i : Int) := by omega
    obtain ⟨F, hT, hF⟩ := HQ.out
    by_cases hlt : i < 256
    · have hii : (i : Int) < 256 := by omega
      have HLT := Lib.hid hlt
      have hc1 : wr.cell? ⟨g, i, none⟩ = some (.int .u32 (a i)) := by
        rw [(hT.2.1 (g, 25, ca) (by simp)).cell]
        exact HCA.out i hlt
      have hc2 : wr.cell? ⟨g + 1, i, none⟩ = some (.int .u32 (b i)) := by
        rw [(hT.2.1 (g + 1, 25, cb) (by simp)).cell]
        exact HCB.out i hlt
      have hc3 := hT.2.2.at i hlt
      have hf3 := hT.2.2.fr i
      obtain ⟨x0, x1⟩ := HFA.out i
      obtain ⟨y0, y1⟩ := HFB.out i
      have hT1 := hT.put (by have := HGE.out; omega) (by intro x hx; simp at hx; rcases hx with rfl | rfl | rfl <;> simp <;> omega) i hlt (addF a b i)
      have HT2 := Lib.hid (show ∃ F', Fx _ _ _ _ _ _ _ F' ∧ ∀ j, j < i + 1 → F' j = addF a b j from ⟨_, hT1, fun j hj => by
        by_cases e1 : j = i
        · subst e1; rw [upd_at]
        · rw [upd_ne _ _ e1]; exact hF j (by omega)⟩)
      obtain ⟨y, hy⟩ : ∃ y, addF a b i = y := ⟨_, rfl⟩
      have hy2 : (a i + b i) % 8380417 = y := hy
      have hyb : 0 ≤ y ∧ y < 8380417 := by omega
      rw [hy] at HT2
      generalize a i = p at *
      generalize b i = r at *
      clear hT hF hT1 HQ hy hlt hi
      go_wp2_with fail
      go_region
      go_wp2_with fail
      go_roundg (256 - (i + 1))
      case rel => exact ⟨i + 1, HLT.out, rfl, by go_num, Lib.hid (HT2.out.imp fun F h => ⟨h.1.drewN 1, h.2⟩)⟩
      case measure => have := HGQ.out; have := HLT.out; omega
    · obtain rfl : i = 256 := by omega
      have he : arr .u32 256 F = arr .u32 256 (addF a b) := arr_ext fun j hj => hF j (by omega)
      have hr2 := hT.2.2
      have hr1 := hT.2.1 (g + 1 + 1, 25, arr .u32 256 fun _ => 0) (by simp)
      unfold LM at hr2
      rw [he] at hr2
      have hi2 := inf256 (addF a b)
      have hs2 : (arr .u32 256 fun _ => 0).size = (arr .u32 256 (addF a b)).size := by rw [arr_size, arr_size]
      have ho2 := arr_one .u32 256 (addF a b)
      have HP := Lib.hid hT.1
      clear hT hF he HQ HCA HCB
      generalize hcc : arr .u32 256 (addF a b) = c2 at *
      have HCC := Lib.hid hcc
      clear hcc
      generalize arr .u32 256 (fun _ => 0) = c1 at *
      simp only at hr1
      go_wp2_with (first | (refine wpList_load_row rfl 25 _ rfl (g + 1 + 1 + 1) rfl _ _ (0, 0) _ hr2 Try.underlying25 rfl hi2 ?_) | (refine wpList_store_row rfl 25 _ _ rfl (g + 1 + 1) _ rfl rfl _ _ hr1 hi2 hs2 ho2 ?_))
      refine bodyPost_ret (results_cell_row rfl _ _ (g + 1 + 1) _ c2 (0, 0) _ rfl (setRow_heap wr (g + 1 + 1) c1 c2 _ _ hr1) Try.underlying25 rfl hi2) rfl ?_
      exact ⟨by rw [HCC.out], below_setRow HP.out (by have := HGE.out; omega) _⟩
set_option maxHeartbeats 4000000 in
set_option maxRecDepth 100000 in
theorem rreduced_any (a : Nat → Int) (ha : ∀ j, 0 ≤ a j ∧ a j < 4294967296) (w : World) :
    Calls Try.prog 12 #[.agg (arr .u32 256 a)] w fun e w' => e = .returned (.agg (arr .u32 256 (rdc a))) ∧ Past w w' := by
  have HA := Lib.hid (fun w => radd_any a (fun _ => 0) ha (fun _ => by simp) w)
  have HE : Hid (arr .u32 256 (addF a fun _ => 0) = arr .u32 256 (rdc a)) := Lib.hid (by unfold addF rdc; simp)
  have hs2 : (arr .u32 256 fun _ => 0).size = (arr .u32 256 (rdc a)).size := by rw [arr_size, arr_size]
  have ho2 := arr_one .u32 256 (rdc a)
  have hi2 := inf256 (rdc a)
  have hia := inf256 a
  obtain ⟨g, hg⟩ : ∃ g, w.heap.size = g := ⟨_, rfl⟩
  obtain ⟨w2, hw2⟩ : ∃ w', w' = (w.alloc (.cells (arr .u32 256 a) 25)).alloc (.cells (arr .u32 256 fun _ => 0) 25) := ⟨_, rfl⟩
  have hp2 : Past w w2 := by rw [hw2]; exact ((Below.refl _ w).alloc (Nat.le_refl _) _).alloc (by simp) _
  have hrA : Row w2 g 25 (arr .u32 256 a) := by rw [hw2, ← hg]; exact (Row.new _ _ _).alloc _
  have hrR : Row w2 (g + 1) 25 (arr .u32 256 fun _ => 0) := by
    rw [hw2, ← hg]
    have := Row.new (w.alloc (.cells (arr .u32 256 a) 25)) 25 (arr .u32 256 fun _ => 0)
    rwa [World.size_alloc] at this
  have HW2 := Lib.hid hw2
  have H2 : Hid (Past w w2 ∧ Row w2 (g + 1) 25 (arr .u32 256 fun _ => 0) ∧ w.heap.size = g) := Lib.hid ⟨hp2, hrR, hg⟩
  clear hw2 hp2 hrR ha
  generalize arr .u32 256 a = ca at *
  generalize arr .u32 256 (rdc a) = cr at *
  rw [HE.out] at HA
  clear HE
  go_enter Try.func12, Try.ntmps12
  have hz := zero256
  go_upto_region 1 with (fail)
  rw [← HW2.out]
  try rw [hg]
  clear HW2 hg
  go_wp2_with (refine wpList_load_row rfl 25 _ rfl g rfl _ _ (0, 0) _ hrA Try.underlying25 rfl hia ?_)
  refine (HA.out _).mono ?_
  rintro e w3 ⟨rfl, hp⟩
  have hrow := H2.out.2.1.past hp
  have H3 : Hid (Past w w3 ∧ w.heap.size = g) := Lib.hid ⟨H2.out.1.trans' hp, H2.out.2.2⟩
  clear hp H2 hrA
  generalize arr .u32 256 (fun _ => 0) = c0 at *
  go_wp2_with (refine wpList_store_row rfl 25 _ _ rfl (g + 1) _ rfl rfl _ _ hrow hi2 hs2 ho2 ?_)
  refine bodyPost_ret (results_cell_row rfl _ _ (g + 1) _ cr (0, 0) _ rfl (setRow_heap w3 (g + 1) _ cr _ _ hrow) Try.underlying25 rfl hi2) rfl ?_
  exact ⟨rfl, below_setRow H3.out.1 (by have := H3.out.2; omega) _⟩
end Go.Proofs.Ytngbmaojgfocgaa.dr
