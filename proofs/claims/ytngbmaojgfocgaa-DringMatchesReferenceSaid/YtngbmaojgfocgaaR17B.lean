/- Arrays of 256 numbers in blocks of a call's own; the reference's transform. -/
import Derived.Test.YtngbmaojgfocgaaR17A
import Derived.Laws.CopyOwn
import Derived.Deep.Cut
import Derived.Handy
import Derived.Laws.ResultCell
namespace Go.Proofs.Ytngbmaojgfocgaa.dr
open Go.RowKit
set_option linter.unusedVariables false

theorem zero256 (w : World) : (zeroValue 25).run Try.prog w = .ok (.agg (arr .u32 256 fun _ => 0)) w := by kernel_rfl
theorem inf256 (f : Nat → Int) : (Try.prog.info? 25).map (·.size) = some (arr .u32 256 f).size := by rw [arr_size]; kernel_rfl
/-- Three blocks of a call's own. -/
def Three (k : IntKind) (n : Nat) (w wx : World) (g : Nat) (t0 t1 t2 : TypeId) (cs c1 : Array Value) (f : Nat → Int) : Prop :=
  Past w wx ∧ Row wx g t0 cs ∧ Row wx (g + 1) t1 c1 ∧ LM k wx (g + 1 + 1) t2 n f
theorem Three.new (k : IntKind) (n : Nat) (w : World) (t0 t1 t2 : TypeId) (cs c1 : Array Value) (f : Nat → Int) :
    Three k n w (((w.alloc (.cells cs t0)).alloc (.cells c1 t1)).alloc (.cells (arr k n f) t2)) w.heap.size t0 t1 t2 cs c1 f := by
  refine ⟨(((Below.refl _ _).alloc (Nat.le_refl _) _).alloc (by simp) _).alloc (by simp; omega) _, ((Row.new w t0 cs).alloc _).alloc _, ?_, ?_⟩
  · have := (Row.new (w.alloc (.cells cs t0)) t1 c1).alloc (.cells (arr k n f) t2)
    simpa using this
  · have := Row.new ((w.alloc (.cells cs t0)).alloc (.cells c1 t1)) t2 (arr k n f)
    simpa using this
theorem Three.put {k : IntKind} {n : Nat} {w wx : World} {t0 t1 t2 : TypeId} {cs c1 : Array Value} {f : Nat → Int} {g : Nat} (h : Three k n w wx g t0 t1 t2 cs c1 f) (hg : w.heap.size ≤ g) (i : Nat) (hi : i < n) (v : Int) :
    Three k n w (wx.setCell ⟨g + 1 + 1, i, none⟩ (.int k v)) g t0 t1 t2 cs c1 (upd f i v) :=
  ⟨h.1.set (by show _ ≤ g + 1 + 1; omega) _, h.2.1.setOther (by omega) _ _, h.2.2.1.setOther (by omega) _ _, h.2.2.2.put i hi v⟩
theorem Three.drewN {k : IntKind} {n : Nat} {w wx : World} {t0 t1 t2 : TypeId} {cs c1 : Array Value} {f : Nat → Int} {g : Nat} (h : Three k n w wx g t0 t1 t2 cs c1 f) (m : Nat) : Three k n w (wx.drewN m) g t0 t1 t2 cs c1 f :=
  ⟨h.1.drewN m, h.2.1, h.2.2.1, h.2.2.2⟩

/-- Rows that stay, and a block of numbers that is written to. -/
def Fx (L : List (Nat × TypeId × Array Value)) (k : IntKind) (n : Nat) (w wx : World) (g : Nat) (t : TypeId) (f : Nat → Int) : Prop :=
  Past w wx ∧ (∀ x ∈ L, Row wx x.1 x.2.1 x.2.2) ∧ LM k wx g t n f
theorem Fx.put {L : List (Nat × TypeId × Array Value)} {k : IntKind} {n : Nat} {w wx : World} {g : Nat} {t : TypeId} {f : Nat → Int} (h : Fx L k n w wx g t f) (hg : w.heap.size ≤ g) (hL : ∀ x ∈ L, x.1 < g) (i : Nat) (hi : i < n) (v : Int) :
    Fx L k n w (wx.setCell ⟨g, i, none⟩ (.int k v)) g t (upd f i v) :=
  ⟨h.1.set hg _, fun x hx => (h.2.1 x hx).setOther (by have := hL x hx; omega) _ _, h.2.2.put i hi v⟩
theorem Three.fx {k : IntKind} {n : Nat} {w wx : World} {t0 t1 t2 : TypeId} {cs c1 : Array Value} {f : Nat → Int} {g : Nat} (h : Three k n w wx g t0 t1 t2 cs c1 f) : Fx [(g, t0, cs), (g + 1, t1, c1)] k n w wx (g + 1 + 1) t2 f := by
  refine ⟨h.1, ?_, h.2.2.2⟩
  intro x hx
  rcases List.mem_cons.1 hx with rfl | hx
  · exact h.2.1
  · rcases List.mem_cons.1 hx with rfl | hx
    · exact h.2.2.1
    · cases hx
theorem mul_bd {a b : Int} (a0 : 0 ≤ a) (a1 : a < 8380417) (b0 : 0 ≤ b) (b1 : b < 8380417) : 0 ≤ a * b ∧ a * b ≤ 70231372333056 :=
  ⟨Int.mul_nonneg a0 b0, Int.le_trans (Int.mul_le_mul (show a ≤ 8380416 by omega) (show b ≤ 8380416 by omega) b0 (by decide)) (by decide)⟩
theorem rt_lt (i : Nat) : 0 ≤ rt i ∧ rt i < 8380417 := pw_lt _

set_option maxHeartbeats 4000000 in
set_option maxRecDepth 100000 in
theorem rntt_any (f : Nat → Int) (hf : ∀ j, 0 ≤ f j ∧ f j < 4294967296) (w : World) :
    Calls Try.prog 11 #[.agg (arr .u32 256 f)] w fun e w' => e = .returned (.agg (arr .u32 256 (ntt f))) ∧ Past w w' := by
  have HC := Lib.hid (fun i (hi : i < 256) => arr_get .u32 256 f i hi)
  have HF := Lib.hid hf
  obtain ⟨g, hg⟩ : ∃ g, w.heap.size = g := ⟨_, rfl⟩
  obtain ⟨w3, hw3⟩ : ∃ w', w' = ((w.alloc (.cells (arr .u32 256 f) 25)).alloc (.cells (arr .u32 256 fun _ => 0) 25)).alloc (.cells (arr .u32 256 fun _ => 0) 25) := ⟨_, rfl⟩
  have H0 : Hid (Fx [(g, 25, arr .u32 256 f), (g + 1, 25, arr .u32 256 fun _ => 0)] .u32 256 w w3 (g + 1 + 1) 25 fun _ => 0) := Lib.hid (by
    have h := Three.new .u32 256 w 25 25 25 (arr .u32 256 f) (arr .u32 256 fun _ => 0) fun _ => 0
    rw [hg, ← hw3] at h
    exact h.fx)
  have HGE : Hid (w.heap.size = g) := Lib.hid hg
  have HW3 := Lib.hid hw3
  clear hf hw3
  generalize arr .u32 256 f = cs at *
  go_enter Try.func11, Try.ntmps11
  have hz := zero256
  go_upto_region 2 with (fail)
  clear hz
  rw [← HW3.out]
  try rw [hg]
  clear HW3 hg
  go_wp2_with fail
  go_loopg [4] 256 (fun q s4 wx => ∃ i : Nat, i ≤ 256 ∧ q = 256 - i ∧ s4 = .int .i64 (i : Int) ∧ Hid (∃ F, Fx [(g, 25, cs), (g + 1, 25, arr .u32 256 fun _ => 0)] .u32 256 w wx (g + 1 + 1) 25 F ∧ ∀ j, j < i → F j = ntt f j))
  case atStart => exact ⟨0, Nat.zero_le _, rfl, rfl, Lib.hid ⟨_, H0.out, fun j hj => absurd hj (by omega)⟩⟩
  case round =>
    clear H0
    obtain ⟨i, hi, hq, rfl, HQ⟩ := hrel
    have HGQ := Lib.hid hq
    clear hq
    have hi0 : (0 : Int) ≤ (i : Int) := by omega
    by_cases hlt : i < 256
    · have hii : (i : Int) < 256 := by omega
      have HLT := Lib.hid hlt
      have HRT := Lib.hid (fun w => rroot_any i hlt w)
      obtain ⟨hz0, hz1⟩ := rt_lt i
      have HE := Lib.hid (ntt_at f i hlt)
      obtain ⟨z, hz⟩ : ∃ z, rt i = z := ⟨_, rfl⟩
      rw [hz] at HRT hz0 hz1 HE
      clear hz hlt hi
      go_wp2_with fail
      refine (HRT.out _).mono ?_
      rintro e w4 ⟨rfl, hw⟩
      rw [hw]
      clear hw HRT w4
      go_wp2_with fail
      go_loopg [6, 7] 256 (fun q s6 s7 wx => ∃ (k : Nat) (a v : Int), k ≤ 256 ∧ q = k ∧ s6 = .int .i64 a ∧ s7 = .int .i64 v ∧ v + 1 = (k : Int) ∧ 0 ≤ a ∧ a < 8380417 ∧ Hid (a = hor f 256 k z) ∧ Hid (wx = wr))
      case atStart => exact ⟨256, 0, 255, Nat.le_refl _, rfl, rfl, rfl, rfl, by decide, by decide, Lib.hid (hor_top _ _ _).symm, Lib.hid rfl⟩
      case round =>
        rename_i wo
        obtain ⟨k, a, v, hk, hq, rfl, rfl, hv, a0, a1, HH, HWX⟩ := hrel
        have HGQ2 := Lib.hid hq
        clear hq
        cases k with
        | succ j =>
          obtain rfl : v = (j : Int) := by omega
          clear hv
          have hj : j < 256 := by omega
          have hj0 : (0 : Int) ≤ (j : Int) := by omega
          have hj1 : (j : Int) < 256 := by omega
          obtain ⟨F, hT, _⟩ := HQ.out
          have hc1 : wr.cell? ⟨g, j, none⟩ = some (.int .u32 (f j)) := by
            rw [HWX.out, (hT.2.1 (g, 25, cs) (by simp)).cell]
            exact HC.out j (by omega)
          obtain ⟨x0, x1⟩ := HF.out j
          have e1 := hor_step f 256 j z hj
          rw [← HH.out] at e1
          generalize f j = x at *
          obtain ⟨p0, p1⟩ := mul_bd a0 a1 hz0 hz1
          have l1 := hor_lt f 256 j z
          obtain ⟨a', ha'⟩ : ∃ a', hor f 256 j z = a' := ⟨_, rfl⟩
          rw [ha'] at e1 l1
          have HN := Lib.hid ha'.symm
          have HL := Lib.hid l1
          obtain ⟨p, hp⟩ : ∃ p, a * z = p := ⟨_, rfl⟩
          have hw1 : IntKind.i64.wrap (a * z) = p := by rw [hp, IntKind.wrap_i64]; omega
          rw [hp] at e1 p0 p1
          have HE12 := Lib.hid e1
          clear hp ha' l1 HH hT a0 a1 hk hj
          go_wp2_with fail
          go_roundg j
          case rel => exact ⟨j, a', (j : Int) - 1, by omega, rfl, by first | rfl | (congr 1), by first | rfl | go_num, by omega, HL.out.1, HL.out.2, HN, HWX⟩
          case measure => have := HGQ2.out; omega
        | zero =>
          obtain rfl : v = -1 := by omega
          have HAB : Hid (a = ntt f i) := Lib.hid (by rw [HH.out, hor_zero, HE.out])
          obtain ⟨F, hT, hF⟩ := HQ.out
          have hWX := HWX.out
          have hc1 := hT.2.2.at i (by have := HLT.out; omega)
          have hf1 := hT.2.2.fr i
          have hT1 := hT.put (by have := HGE.out; omega) (by intro x hx; simp at hx; rcases hx with rfl | rfl <;> simp <;> omega) i (by have := HLT.out; omega) a
          have HT2 := Lib.hid (show ∃ F', Fx _ _ _ _ _ _ _ F' ∧ ∀ j, j < i + 1 → F' j = ntt f j from ⟨_, hT1, fun j hj => by
            by_cases e1 : j = i
            · subst e1; rw [upd_at]; exact HAB.out
            · rw [upd_ne _ _ e1]; exact hF j (by omega)⟩)
          rw [← hWX] at hc1 hf1 HT2
          clear hT hF hT1 hWX HQ hv HAB HH
          go_wp2_with fail
          go_roundg (256 - (i + 1))
          case rel => exact ⟨i + 1, HLT.out, rfl, by go_num, HT2⟩
          case measure => have := HGQ.out; have := HLT.out; omega
    · obtain rfl : i = 256 := by omega
      obtain ⟨F, hT, hF⟩ := HQ.out
      have he : arr .u32 256 F = arr .u32 256 (ntt f) := arr_ext fun j hj => hF j (by omega)
      have hr2 := hT.2.2
      have hr1 := hT.2.1 (g + 1, 25, arr .u32 256 fun _ => 0) (by simp)
      unfold LM at hr2
      rw [he] at hr2
      have hi2 := inf256 (ntt f)
      have hs2 : (arr .u32 256 fun _ => 0).size = (arr .u32 256 (ntt f)).size := by rw [arr_size, arr_size]
      have ho2 := arr_one .u32 256 (ntt f)
      have HP := Lib.hid hT.1
      clear hT hF he HQ HC
      generalize hcc : arr .u32 256 (ntt f) = c2 at *
      have HCC := Lib.hid hcc
      clear hcc
      generalize arr .u32 256 (fun _ => 0) = c1 at *
      simp only at hr1
      go_wp2_with (first | (refine wpList_load_row rfl 25 _ rfl (g + 1 + 1) rfl _ _ (0, 0) _ hr2 Try.underlying25 rfl hi2 ?_) | (refine wpList_store_row rfl 25 _ _ rfl (g + 1) _ rfl rfl _ _ hr1 hi2 hs2 ho2 ?_))
      refine bodyPost_ret (results_cell_row rfl _ _ (g + 1) _ c2 (0, 0) _ rfl (setRow_heap wr (g + 1) c1 c2 _ _ hr1) Try.underlying25 rfl hi2) rfl ?_
      exact ⟨by rw [HCC.out], below_setRow HP.out (by have := HGE.out; omega) _⟩
end Go.Proofs.Ytngbmaojgfocgaa.dr
