/- The laws' own polynomials: Spread. -/
import Derived.Test.YtngbmaojgfocgaaR17C
namespace Go.Proofs.Ytngbmaojgfocgaa.dr
open Go.RowKit
set_option linter.unusedVariables false

def nxt (s1 x : Int) : Int := ((x * 6364136223846793005 % 18446744073709551616 + s1) % 18446744073709551616 + 1442695040888963407) % 18446744073709551616
def sqX (s0 s1 : Int) : Nat → Int
  | 0 => s0
  | i + 1 => nxt s1 (sqX s0 s1 i)
/-- The coefficient i of the polynomial of three numbers. -/
def sprA (s2 v : Int) : Int := if s2 % 3 = 0 then v % 8380417 else if s2 % 3 = 1 then (8380413 + v % 9) % 8380417 else v
def spr (s0 s1 s2 : Int) (i : Nat) : Int := sprA s2 (sqX s0 s1 (i + 1) / 4294967296 % 4294967296)
theorem spr_rng (s0 s1 s2 : Int) (i : Nat) : 0 ≤ spr s0 s1 s2 i ∧ spr s0 s1 s2 i < 4294967296 := by
  unfold spr sprA
  split
  · omega
  · split <;> omega
/-- An array of three numbers. -/
abbrev arr3 (a b c : Int) : Array Value := #[.int .u32 a, .int .u32 b, .int .u32 c]
set_option maxHeartbeats 4000000 in
set_option maxRecDepth 100000 in
theorem spread_any (s0 s1 s2 : Int) (r0 : 0 ≤ s0 ∧ s0 < 4294967296) (r1 : 0 ≤ s1 ∧ s1 < 4294967296) (r2 : 0 ≤ s2 ∧ s2 < 4294967296) (w : World) :
    Calls Try.prog 9 #[.agg (arr3 s0 s1 s2)] w fun e w' => e = .returned (.agg (arr .u32 256 (spr s0 s1 s2))) ∧ Past w w' := by
  obtain ⟨a0, a1⟩ := r0
  obtain ⟨b0, b1⟩ := r1
  obtain ⟨c0, c1⟩ := r2
  obtain ⟨g, hg⟩ : ∃ g, w.heap.size = g := ⟨_, rfl⟩
  obtain ⟨w3, hw3⟩ : ∃ w', w' = ((w.alloc (.cells (arr3 s0 s1 s2) 23)).alloc (.cells (arr .u32 256 fun _ => 0) 25)).alloc (.cells (arr .u32 256 fun _ => 0) 25) := ⟨_, rfl⟩
  have H0 : Hid (Fx [(g, 23, arr3 s0 s1 s2), (g + 1, 25, arr .u32 256 fun _ => 0)] .u32 256 w w3 (g + 1 + 1) 25 fun _ => 0) := Lib.hid (by
    have h := Three.new .u32 256 w 23 25 25 (arr3 s0 s1 s2) (arr .u32 256 fun _ => 0) fun _ => 0
    rw [hg, ← hw3] at h
    exact h.fx)
  have HGE : Hid (w.heap.size = g) := Lib.hid hg
  have HW3 := Lib.hid hw3
  clear hw3
  go_enter Try.func9, Try.ntmps9
  have hz := zero256
  go_upto_region 2 with (fail)
  clear hz
  rw [← HW3.out]
  try rw [hg]
  clear HW3 hg
  have k0 : w3.cell? ⟨g, 0, none⟩ = some (.int .u32 s0) := (H0.out.2.1 (g, 23, arr3 s0 s1 s2) (by simp)).cell 0
  go_wp2_with fail
  clear k0
  go_loopg [4, 5] 256 (fun q s4 s5 wx => ∃ (i : Nat) (x : Int), i ≤ 256 ∧ q = 256 - i ∧ s4 = .int .u64 x ∧ s5 = .int .i64 (i : Int) ∧ 0 ≤ x ∧ x < 18446744073709551616 ∧ Hid (x = sqX s0 s1 i) ∧ Hid (∃ F, Fx [(g, 23, arr3 s0 s1 s2), (g + 1, 25, arr .u32 256 fun _ => 0)] .u32 256 w wx (g + 1 + 1) 25 F ∧ ∀ j, j < i → F j = spr s0 s1 s2 j))
  case atStart => exact ⟨0, s0, Nat.zero_le _, rfl, rfl, rfl, a0, by omega, Lib.hid rfl, Lib.hid ⟨_, H0.out, fun j hj => absurd hj (by omega)⟩⟩
  case round =>
    clear H0
    obtain ⟨i, x, hi, hq, rfl, rfl, x0, x1, HX, HQ⟩ := hrel
    have HGQ := Lib.hid hq
    clear hq
    have hi0 : (0 : Int) ≤ (i : Int) := by omega
    obtain ⟨F, hT, hF⟩ := HQ.out
    by_cases hlt : i < 256
    · have hii : (i : Int) < 256 := by omega
      have HLT := Lib.hid hlt
      have HX1 : Hid (nxt s1 x = sqX s0 s1 (i + 1)) := Lib.hid (by rw [HX.out]; rfl)
      obtain ⟨p, hp⟩ : ∃ p, x * 6364136223846793005 % 18446744073709551616 = p := ⟨_, rfl⟩
      obtain ⟨r, hr⟩ : ∃ r, (p + s1) % 18446744073709551616 = r := ⟨_, rfl⟩
      obtain ⟨y, hy⟩ : ∃ y, (r + 1442695040888963407) % 18446744073709551616 = y := ⟨_, rfl⟩
      have HY : Hid (y = sqX s0 s1 (i + 1)) := Lib.hid (by rw [← HX1.out, ← hy, ← hr, ← hp]; rfl)
      have y0 : 0 ≤ y := by omega
      have y1 : y < 18446744073709551616 := by omega
      have HYB : Hid (0 ≤ y ∧ y < 18446744073709551616) := Lib.hid ⟨y0, y1⟩
      have p0 : 0 ≤ p := by omega
      have r0 : 0 ≤ r := by omega
      obtain ⟨v, hv⟩ : ∃ v, y / 4294967296 % 4294967296 = v := ⟨_, rfl⟩
      have v0 : 0 ≤ v := by omega
      have v1 : v < 4294967296 := by omega
      have hwp : IntKind.u64.wrap (x * 6364136223846793005) = p := by rw [IntKind.wrap_u64]; exact hp
      have hwr : IntKind.u64.wrap (p + s1) = r := by rw [IntKind.wrap_u64]; exact hr
      have hwy : IntKind.u64.wrap (r + 1442695040888963407) = y := by rw [IntKind.wrap_u64]; exact hy
      have hwv : IntKind.u32.wrap (y / 4294967296) = v := by rw [IntKind.wrap_u32]; exact hv
      have hrow := hT.2.1 (g, 23, arr3 s0 s1 s2) (by simp)
      have HRow := Lib.hid hrow
      have k1 := hrow.cell 1
      have k2 := hrow.cell 2
      have hc3 := hT.2.2.at i hlt
      have hf3 := hT.2.2.fr i
      have hput := fun v => hT.put (by have := HGE.out; omega) (by intro x hx; simp at hx; rcases hx with rfl | rfl <;> simp <;> omega) i hlt v
      clear HX1 hput hrow
      have hvd : ∀ q : Int, sprA s2 v = q → spr s0 s1 s2 i = q := fun q h => by unfold spr; rw [← HY.out, hv]; exact h
      rcases (show s2 % 3 = 0 ∨ s2 % 3 = 1 ∨ s2 % 3 = 2 by omega) with hm | hm | hm
      · obtain ⟨vq, hvq⟩ : ∃ vq, v % 8380417 = vq := ⟨_, rfl⟩
        have HV : Hid (vq = spr s0 s1 s2 i) := Lib.hid (by rw [hvd (vq)]; unfold sprA; rw [if_pos hm]; exact hvq)
        clear hvd
        have hT1 := hT.put (by have := HGE.out; omega) (by intro x hx; simp at hx; rcases hx with rfl | rfl <;> simp <;> omega) i HLT.out (v)
        have ka1 := (hT1.2.1 (g, 23, arr3 s0 s1 s2) (by simp)).cell 1
        have kb1 := (hT1.2.1 (g, 23, arr3 s0 s1 s2) (by simp)).cell 2
        have hc4 := hT1.2.2.at i HLT.out
        have hf4 := hT1.2.2.fr i
        rw [upd_at] at hc4
        have hT2 := hT1.put (by have := HGE.out; omega) (by intro x hx; simp at hx; rcases hx with rfl | rfl <;> simp <;> omega) i HLT.out (vq)
        have ka2 := (hT2.2.1 (g, 23, arr3 s0 s1 s2) (by simp)).cell 1
        have kb2 := (hT2.2.1 (g, 23, arr3 s0 s1 s2) (by simp)).cell 2
        have hc5 := hT2.2.2.at i HLT.out
        have hf5 := hT2.2.2.fr i
        rw [upd_at] at hc5
        have HT2 := Lib.hid (show ∃ F', Fx _ _ _ _ _ _ _ F' ∧ ∀ j, j < i + 1 → F' j = spr s0 s1 s2 j from ⟨_, hT2, fun j hj => by
          by_cases e1 : j = i
          · subst e1; rw [upd_at, HV.out]
          · rw [upd_ne _ _ e1]; rw [upd_ne _ _ e1]; exact hF j (by omega)⟩)
        clear hT hT1 hT2 hF HQ hlt hi
        clear hp hr hy hv HX
        go_wp2_with fail
        go_roundg (256 - (i + 1))
        case rel => exact ⟨i + 1, y, HLT.out, rfl, rfl, by go_num, HYB.out.1, HYB.out.2, HY, HT2⟩
        case measure => have := HGQ.out; have := HLT.out; omega
      · obtain ⟨v9, hv9⟩ : ∃ v9, v % 9 = v9 := ⟨_, rfl⟩
        have v90 : 0 ≤ v9 := by omega
        have v91 : v9 < 9 := by omega
        obtain ⟨vq, hvq⟩ : ∃ vq, (8380413 + v9) % 8380417 = vq := ⟨_, rfl⟩
        have hwq : IntKind.u32.wrap (8380413 + v9) = 8380413 + v9 := by rw [IntKind.wrap_u32]; omega
        have HV : Hid (vq = spr s0 s1 s2 i) := Lib.hid (by rw [hvd (vq)]; unfold sprA; rw [if_neg (by omega), if_pos hm, hv9]; exact hvq)
        clear hvd
        have hT1 := hT.put (by have := HGE.out; omega) (by intro x hx; simp at hx; rcases hx with rfl | rfl <;> simp <;> omega) i HLT.out (v)
        have ka1 := (hT1.2.1 (g, 23, arr3 s0 s1 s2) (by simp)).cell 1
        have kb1 := (hT1.2.1 (g, 23, arr3 s0 s1 s2) (by simp)).cell 2
        have hc4 := hT1.2.2.at i HLT.out
        have hf4 := hT1.2.2.fr i
        rw [upd_at] at hc4
        have hT2 := hT1.put (by have := HGE.out; omega) (by intro x hx; simp at hx; rcases hx with rfl | rfl <;> simp <;> omega) i HLT.out (vq)
        have ka2 := (hT2.2.1 (g, 23, arr3 s0 s1 s2) (by simp)).cell 1
        have kb2 := (hT2.2.1 (g, 23, arr3 s0 s1 s2) (by simp)).cell 2
        have hc5 := hT2.2.2.at i HLT.out
        have hf5 := hT2.2.2.fr i
        rw [upd_at] at hc5
        have HT2 := Lib.hid (show ∃ F', Fx _ _ _ _ _ _ _ F' ∧ ∀ j, j < i + 1 → F' j = spr s0 s1 s2 j from ⟨_, hT2, fun j hj => by
          by_cases e1 : j = i
          · subst e1; rw [upd_at, HV.out]
          · rw [upd_ne _ _ e1]; rw [upd_ne _ _ e1]; exact hF j (by omega)⟩)
        clear hT hT1 hT2 hF HQ hlt hi
        clear hp hr hy hv HX
        go_wp2_with fail
        go_roundg (256 - (i + 1))
        case rel => exact ⟨i + 1, y, HLT.out, rfl, rfl, by go_num, HYB.out.1, HYB.out.2, HY, HT2⟩
        case measure => have := HGQ.out; have := HLT.out; omega
      · have HV : Hid (v = spr s0 s1 s2 i) := Lib.hid (by rw [hvd (v)]; unfold sprA; rw [if_neg (by omega), if_neg (by omega)])
        clear hvd
        have hT1 := hT.put (by have := HGE.out; omega) (by intro x hx; simp at hx; rcases hx with rfl | rfl <;> simp <;> omega) i HLT.out (v)
        have ka1 := (hT1.2.1 (g, 23, arr3 s0 s1 s2) (by simp)).cell 1
        have kb1 := (hT1.2.1 (g, 23, arr3 s0 s1 s2) (by simp)).cell 2
        have hc4 := hT1.2.2.at i HLT.out
        have hf4 := hT1.2.2.fr i
        rw [upd_at] at hc4
        have HT2 := Lib.hid (show ∃ F', Fx _ _ _ _ _ _ _ F' ∧ ∀ j, j < i + 1 → F' j = spr s0 s1 s2 j from ⟨_, hT1, fun j hj => by
          by_cases e1 : j = i
          · subst e1; rw [upd_at, HV.out]
          · rw [upd_ne _ _ e1]; exact hF j (by omega)⟩)
        clear hT hT1 hF HQ hlt hi
        clear hp hr hy hv HX
        go_wp2_with fail
        go_roundg (256 - (i + 1))
        case rel => exact ⟨i + 1, y, HLT.out, rfl, rfl, by go_num, HYB.out.1, HYB.out.2, HY, HT2⟩
        case measure => have := HGQ.out; have := HLT.out; omega
    · obtain rfl : i = 256 := by omega
      have he : arr .u32 256 F = arr .u32 256 (spr s0 s1 s2) := arr_ext fun j hj => hF j (by omega)
      have hr2 := hT.2.2
      have hr1 := hT.2.1 (g + 1, 25, arr .u32 256 fun _ => 0) (by simp)
      unfold LM at hr2
      rw [he] at hr2
      have hi2 := inf256 (spr s0 s1 s2)
      have hs2 : (arr .u32 256 fun _ => 0).size = (arr .u32 256 (spr s0 s1 s2)).size := by rw [arr_size, arr_size]
      have ho2 := arr_one .u32 256 (spr s0 s1 s2)
      have HP := Lib.hid hT.1
      clear hT hF he HQ
      generalize hcc : arr .u32 256 (spr s0 s1 s2) = c2 at *
      have HCC := Lib.hid hcc
      clear hcc
      generalize arr .u32 256 (fun _ => 0) = c1 at *
      simp only at hr1
      go_wp2_with (first | (refine wpList_load_row rfl 25 _ rfl (g + 1 + 1) rfl _ _ (0, 0) _ hr2 Try.underlying25 rfl hi2 ?_) | (refine wpList_store_row rfl 25 _ _ rfl (g + 1) _ rfl rfl _ _ hr1 hi2 hs2 ho2 ?_))
      refine bodyPost_ret (results_cell_row rfl _ _ (g + 1) _ c2 (0, 0) _ rfl (setRow_heap wr (g + 1) c1 c2 _ _ hr1) Try.underlying25 rfl hi2) rfl ?_
      exact ⟨by rw [HCC.out], below_setRow HP.out (by have := HGE.out; omega) _⟩
end Go.Proofs.Ytngbmaojgfocgaa.dr
