/- The program's Reduce and Norm (package dring), and below: a number below a top for each coefficient. -/
import Derived.Test.YteflpbkdnebopaaGreatDoorSg18
import Derived.Test.YteflpbkdnebopaaGreatDoorK18
import Derived.Laws.CopyOwn
import Derived.Deep.Cut
import Derived.Handy
import Derived.Laws.ResultCell
namespace Go.Proofs.YteflpbkdnebopaaGreatDoor
open Go.RowKit
set_option linter.unusedVariables false
set_option maxRecDepth 100000

/-- Coefficients of 32 bits. -/
def R32 (f : Nat → Int) : Prop := ∀ j, 0 ≤ f j ∧ f j < 4294967296
theorem R32.of_low {f : Nat → Int} (h : ∀ j, 0 ≤ f j ∧ f j < 8380417) : R32 f := fun j => by have := h j; omega
theorem zeroP (w : World) : (zeroValue 57).run Tryz.prog w = .ok (.agg (arr .u32 256 fun _ => 0)) w := by kernel_rfl
theorem infP (f : Nat → Int) : (Tryz.prog.info? 57).map (·.size) = some (arr .u32 256 f).size := by rw [arr_size]; kernel_rfl
theorem reduce_any (n : Int) (w : World) (h0 : -9223372036854775808 ≤ n) (h1 : n < 9223372036854775808) : Calls Tryz.prog 61 #[.int .i64 n] w fun e w' => e = .returned (.int .u32 (n % 8380417)) ∧ w' = w := by
  obtain ⟨x, hx⟩ : ∃ x, n % 8380417 = x := ⟨_, rfl⟩
  have x0 : 0 ≤ x := by omega
  have x1 : x < 8380417 := by omega
  obtain ⟨t, ht⟩ : ∃ t, n.tmod 8380417 = t := ⟨_, rfl⟩
  have htx : (0 ≤ t ∧ t = x) ∨ (t < 0 ∧ t = x - 8380417) := by
    rcases (show 0 ≤ n ∨ n < 0 by omega) with h | h
    · rw [Int.tmod_eq_emod_of_nonneg h] at ht
      omega
    · have := Int.tmod_eq_emod (a := n) (b := 8380417)
      rw [ht] at this
      split at this <;> omega
  have hwx : IntKind.u32.wrap x = x := by rw [IntKind.wrap_u32]; omega
  have hwt : IntKind.i64.wrap t = t := by rw [IntKind.wrap_i64]; omega
  rw [hx]
  rcases htx with ⟨h2, h3⟩ | ⟨h2, h3⟩
  · subst h3
    clear hx
    go_enter Tryz.func61, Tryz.ntmps61
    go_wp2_with fail
    go_ret
    exact ⟨rfl, rfl⟩
  · have hs : t + 8380417 = x := by omega
    have hws : IntKind.i64.wrap (t + 8380417) = x := by rw [IntKind.wrap_i64]; omega
    clear hx h3
    go_enter Tryz.func61, Tryz.ntmps61
    go_wp2_with fail
    go_ret
    exact ⟨rfl, rfl⟩
theorem runIndexP (f : Nat → Int) (j : Nat) (hj : j < 256) (w : World) : (Instr.index 57 (.agg (arr .u32 256 f)) (.int .i64 (j : Int))).run Tryz.prog w = .ok (.int .u32 (f j)) w := by
  obtain ⟨i, hi, hz⟩ : ∃ i, Tryz.prog.info? 22 = some i ∧ i.size = 1 := by
    cases hq : Tryz.prog.info? 22 with
    | none =>
      have : (Tryz.prog.info? 22).isSome = true := by kernel_rfl
      rw [hq] at this
      cases this
    | some i =>
      have : (Tryz.prog.info? 22).map (·.size) = some 1 := by kernel_rfl
      rw [hq] at this
      exact ⟨i, rfl, by simpa using this⟩
  exact run_index_cells w Tryz.underlying57 Tryz.underlying22 hi hz (j : Int) (by omega) (by omega) (arr_get .u32 256 f j hj)
set_option maxHeartbeats 4000000 in
theorem pnorm_any (f : Nat → Int) (hf : R32 f) (w : World) :
    Calls Tryz.prog 57 #[.agg (arr .u32 256 f)] w fun e w' => e = .returned (.int .u32 (nrmQ f 256)) ∧ Past w w' := by
  have HIX := Lib.hid (fun i (hi : i < 256) => runIndexP f i hi)
  have HF := Lib.hid hf
  have hif := infP f
  obtain ⟨g, hg⟩ : ∃ g, w.heap.size = g := ⟨_, rfl⟩
  obtain ⟨w1, hw1⟩ : ∃ W, w.alloc (.cells (arr .u32 256 f) 57) = W := ⟨_, rfl⟩
  have HP1 : Hid (Past w w1) := Lib.hid (by rw [← hw1]; exact (Below.refl _ _).alloc (Nat.le_refl _) _)
  have hr1 : Row w1 g 57 (arr .u32 256 f) := by rw [← hw1, ← hg]; exact Row.new _ _ _
  have HW1 := Lib.hid hw1
  clear hf hw1
  generalize arr .u32 256 f = cs at *
  go_enter Tryz.func57, Tryz.ntmps57
  go_upto_region 1 with (fail)
  rw [HW1.out]
  try rw [hg]
  clear HW1 hg
  go_wp2_with (refine wpList_load_row rfl 57 _ rfl g rfl _ _ (0, 0) _ hr1 Tryz.underlying57 rfl hif ?_)
  go_loopg [3, 7] 256 (fun q s3 s7 wx => ∃ (i : Nat) (n : Int), i ≤ 256 ∧ q = 256 - i ∧ s3 = .int .u32 n ∧ s7 = .int .i64 (i : Int) ∧ 0 ≤ n ∧ n ≤ 4190208 ∧ Hid (n = nrmQ f i) ∧ Hid (wx = w1))
  case atStart => exact ⟨0, 0, Nat.zero_le _, rfl, rfl, rfl, by decide, by decide, Lib.hid rfl, Lib.hid rfl⟩
  case round =>
    obtain ⟨i, n, hi, hq, rfl, rfl, n0, n1, HN, HW⟩ := hrel
    have HGQ := Lib.hid hq
    clear hq hr1 hif
    have hi0 : (0 : Int) ≤ (i : Int) := by omega
    by_cases hlt : i < 256
    · have hii : (i : Int) < 256 := by omega
      have HLT := Lib.hid hlt
      have hix := HIX.out i hlt
      obtain ⟨A0, A1⟩ := HF.out i
      have HS : Hid (nrmQ f (i + 1) = if n < szQ (f i) then szQ (f i) else n) := Lib.hid (by rw [HN.out]; rfl)
      have HZ : Hid (szQ (f i) = if 8380417 - f i % 8380417 < f i % 8380417 then 8380417 - f i % 8380417 else f i % 8380417) := Lib.hid rfl
      generalize f i = p at *
      obtain ⟨c, hc⟩ : ∃ c, p % 8380417 = c := ⟨_, rfl⟩
      rw [hc] at HZ
      have c0 : 0 ≤ c := by omega
      have c1 : c < 8380417 := by omega
      have hpt : p.tmod 8380417 = c := by rw [Int.tmod_eq_emod_of_nonneg A0]; exact hc
      have hwc0 : IntKind.u32.wrap c = c := by rw [IntKind.wrap_u32]; omega
      have hwc : IntKind.u32.wrap (8380417 - c) = 8380417 - c := by rw [IntKind.wrap_u32]; omega
      clear hlt hi
      obtain ⟨t, ht⟩ : ∃ t, 8380417 - c = t := ⟨_, rfl⟩
      rw [ht] at HZ
      have hwt : IntKind.u32.wrap (8380417 - c) = t := by rw [hwc, ht]
      have t0 : 0 < t := by omega
      clear hwc
      by_cases hb : t < c
      · have HT : Hid (szQ p = t) := Lib.hid (by rw [HZ.out, if_pos hb])
        rw [HT.out] at HS
        have HTB : Hid (0 ≤ t ∧ t ≤ 4190208) := Lib.hid (by omega)
        have hb2 : ¬ c ≤ t := by omega
        have hb3 : min c t = t := by omega
        have hb4 : t ≤ c := by omega
        by_cases hn : n < t
        · have HE : Hid (nrmQ f (i + 1) = t) := Lib.hid (by rw [HS.out, if_pos hn])
          have hn2 : ¬ t ≤ n := by omega
          have hn3 : max n t = t := by omega
          have hn4 : n ≤ t := by omega
          clear ht hc c1 A0 A1
          go_wp2_with fail
          go_roundg (256 - (i + 1))
          case rel => exact ⟨i + 1, t, HLT.out, rfl, rfl, by go_num, HTB.out.1, HTB.out.2, Lib.hid HE.out.symm, HW⟩
          case measure => have := HGQ.out; have := HLT.out; omega
        · have HE : Hid (nrmQ f (i + 1) = n) := Lib.hid (by rw [HS.out, if_neg hn])
          have HNB : Hid (0 ≤ n ∧ n ≤ 4190208) := Lib.hid ⟨n0, n1⟩
          have hn2 : t ≤ n := by omega
          have hn3 : max n t = n := by omega
          clear ht hc c1 A0 A1
          go_wp2_with fail
          go_roundg (256 - (i + 1))
          case rel => exact ⟨i + 1, n, HLT.out, rfl, rfl, by go_num, HNB.out.1, HNB.out.2, Lib.hid HE.out.symm, HW⟩
          case measure => have := HGQ.out; have := HLT.out; omega
      · have HT : Hid (szQ p = c) := Lib.hid (by rw [HZ.out, if_neg hb])
        rw [HT.out] at HS
        have HTB : Hid (0 ≤ c ∧ c ≤ 4190208) := Lib.hid (by omega)
        have hb2 : c ≤ t := by omega
        have hb3 : min c t = c := by omega
        by_cases hn : n < c
        · have HE : Hid (nrmQ f (i + 1) = c) := Lib.hid (by rw [HS.out, if_pos hn])
          have hn2 : ¬ c ≤ n := by omega
          have hn3 : max n c = c := by omega
          have hn4 : n ≤ c := by omega
          clear ht hc c1 A0 A1
          go_wp2_with fail
          go_roundg (256 - (i + 1))
          case rel => exact ⟨i + 1, c, HLT.out, rfl, rfl, by go_num, HTB.out.1, HTB.out.2, Lib.hid HE.out.symm, HW⟩
          case measure => have := HGQ.out; have := HLT.out; omega
        · have HE : Hid (nrmQ f (i + 1) = n) := Lib.hid (by rw [HS.out, if_neg hn])
          have HNB : Hid (0 ≤ n ∧ n ≤ 4190208) := Lib.hid ⟨n0, n1⟩
          have hn2 : c ≤ n := by omega
          have hn3 : max n c = n := by omega
          clear ht hc c1 A0 A1
          go_wp2_with fail
          go_roundg (256 - (i + 1))
          case rel => exact ⟨i + 1, n, HLT.out, rfl, rfl, by go_num, HNB.out.1, HNB.out.2, Lib.hid HE.out.symm, HW⟩
          case measure => have := HGQ.out; have := HLT.out; omega
    · obtain rfl : i = 256 := by omega
      have hii : ¬ (256 : Int) < 256 := by omega
      go_wp2_with fail
      go_ret
      exact ⟨by rw [HN.out]; rfl, by rw [HW.out]; exact HP1.out⟩

/-- Two new blocks: a polynomial, and the cell of the result. -/
def Two18 (w wx : World) (g : Nat) (F : Nat → Int) : Prop := Past w wx ∧ LM .u32 wx g 57 256 F ∧ LM .u32 wx (g + 1) 57 256 fun _ => 0
theorem Two18.new (w : World) (f : Nat → Int) : Two18 w ((w.alloc (.cells (arr .u32 256 f) 57)).alloc (.cells (arr .u32 256 fun _ => 0) 57)) w.heap.size f := by
  refine ⟨((Below.refl _ _).alloc (Nat.le_refl _) _).alloc (by simp) _, (Row.new w _ _).alloc _, ?_⟩
  have := Row.new (w.alloc (.cells (arr .u32 256 f) 57)) 57 (arr .u32 256 fun _ => 0)
  simpa using this
theorem Two18.put {w wx : World} {g : Nat} {F : Nat → Int} (h : Two18 w wx g F) (hg : w.heap.size ≤ g) (i : Nat) (hi : i < 256) (v : Int) : Two18 w (wx.setCell ⟨g, i, none⟩ (.int .u32 v)) g (upd F i v) :=
  ⟨h.1.set hg _, h.2.1.put i hi v, Row.setOther h.2.2 (by omega) _ _⟩
set_option maxHeartbeats 4000000 in
theorem below_any (top : Int) (h0 : 0 ≤ top) (h1 : top < 4294967296) (f : Nat → Int) (hf : R32 f) (w : World) :
    Calls Tryz.prog 49 #[.int .u32 top, .agg (arr .u32 256 f)] w fun e w' => e = .returned (.agg (arr .u32 256 fun j => blw top (f j))) ∧ Past w w' := by
  have HIX := Lib.hid (fun i (hi : i < 256) => runIndexP f i hi)
  have HF := Lib.hid hf
  have hif := infP f
  obtain ⟨g, hg⟩ : ∃ g, w.heap.size = g := ⟨_, rfl⟩
  obtain ⟨w1, hw1⟩ : ∃ W, W = (w.alloc (.cells (arr .u32 256 f) 57)).alloc (.cells (arr .u32 256 fun _ => 0) 57) := ⟨_, rfl⟩
  have H0 : Hid (Two18 w w1 g f) := Lib.hid (by
    have h := Two18.new w f
    rw [hg, ← hw1] at h
    exact h)
  have HGE : Hid (w.heap.size = g) := Lib.hid hg
  have HW1 := Lib.hid hw1
  have hr1 := H0.out.2.1
  unfold LM at hr1
  have HT : Hid (IntKind.i64.wrap top = top) := Lib.hid (by rw [IntKind.wrap_i64]; omega)
  have HTB := Lib.hid (And.intro h0 h1)
  clear hf hw1 h0 h1
  generalize hcs : arr .u32 256 f = cs at *
  have HCS := Lib.hid hcs
  clear hcs
  go_enter Tryz.func49, Tryz.ntmps49
  have hz := zeroP
  go_upto_region 1 with (fail)
  clear hz
  rw [← HW1.out]
  try rw [hg]
  clear HW1 hg
  go_wp2_with (refine wpList_load_row rfl 57 _ rfl g rfl _ _ (0, 0) _ hr1 Tryz.underlying57 rfl hif ?_)
  go_loopg [8] 256 (fun q s8 wx => ∃ i : Nat, i ≤ 256 ∧ q = 256 - i ∧ s8 = .int .i64 (i : Int) ∧ Hid (∃ F, Two18 w wx g F ∧ ∀ j, j < i → F j = blw top (f j)))
  case atStart => exact ⟨0, Nat.zero_le _, rfl, rfl, Lib.hid ⟨f, H0.out, fun j hj => absurd hj (Nat.not_lt_zero _)⟩⟩
  case round =>
    clear H0 hr1 hif
    obtain ⟨i, hi, hq, rfl, HQ⟩ := hrel
    have HGQ := Lib.hid hq
    clear hq
    have hi0 : (0 : Int) ≤ (i : Int) := by omega
    by_cases hlt : i < 256
    · have hii : (i : Int) < 256 := by omega
      have HLT := Lib.hid hlt
      have hix := HIX.out i hlt
      obtain ⟨A0, A1⟩ := HF.out i
      obtain ⟨F, hT, hF⟩ := HQ.out
      obtain ⟨p, hp⟩ : ∃ p, f i = p := ⟨_, rfl⟩
      rw [hp] at A0 A1 hix
      have hwp : IntKind.i64.wrap p = p := by rw [IntKind.wrap_i64]; omega
      have hwt := HT.out
      have htb := HTB.out
      obtain ⟨z, hz⟩ : ∃ z, top - p = z := ⟨_, rfl⟩
      have hwz : IntKind.i64.wrap (top - p) = z := by rw [IntKind.wrap_i64]; omega
      have hwz2 : wrap64 z = z := IntWalk.wrap64_in _ (by omega)
      have HR := Lib.hid (fun w => reduce_any z w (by omega) (by omega))
      obtain ⟨y, hy⟩ : ∃ y, z % 8380417 = y := ⟨_, rfl⟩
      rw [hy] at HR
      have HY : Hid (blw top (f i) = y) := Lib.hid (by unfold blw; rw [hp, hz]; exact hy)
      have hc := hT.2.1.at i (by omega)
      have hfr := hT.2.1.fr i
      have HN : Hid (∃ F', Two18 w (wr.setCell ⟨g, i, none⟩ (.int .u32 y)) g F' ∧ ∀ j, j < i + 1 → F' j = blw top (f j)) := Lib.hid ⟨_, hT.put (by have := HGE.out; omega) i hlt y, fun j hj => by
        by_cases e : j = i
        · subst e
          rw [upd_at]
          exact HY.out.symm
        · rw [upd_ne _ _ e]
          exact hF j (by omega)⟩
      have HM : Hid (256 - (i + 1) < 256 - i) := Lib.hid (by omega)
      clear hT hF hz hy hp htb HQ hlt hi A0 A1
      go_wp2_with fail
      refine (HR.out wr).mono ?_
      rintro e w2 ⟨rfl, hw2⟩
      rw [hw2]
      clear hw2
      go_wp2_with fail
      go_roundg (256 - (i + 1))
      case rel => exact ⟨i + 1, HLT.out, rfl, by go_num, HN⟩
      case measure => rw [HGQ.out]; exact HM.out
    · obtain rfl : i = 256 := by omega
      have hii : ¬ (256 : Int) < 256 := by omega
      obtain ⟨F, hT, hF⟩ := HQ.out
      have he : arr .u32 256 F = arr .u32 256 (fun j => blw top (f j)) := arr_ext fun j hj => hF j hj
      have hr2 := hT.2.1
      have hr3 := hT.2.2
      unfold LM at hr2 hr3
      rw [he] at hr2
      have hi2 := infP (fun j => blw top (f j))
      have hs2 : (arr .u32 256 fun _ => 0).size = (arr .u32 256 (fun j => blw top (f j))).size := by rw [arr_size, arr_size]
      have ho2 := arr_one .u32 256 (fun j => blw top (f j))
      have HP := Lib.hid hT.1
      clear hT hF he HQ
      generalize hcc : arr .u32 256 (fun j => blw top (f j)) = c2 at *
      have HCC := Lib.hid hcc
      clear hcc
      go_wp2_with (first | (refine wpList_load_row rfl 57 _ rfl g rfl _ _ (0, 0) _ hr2 Tryz.underlying57 rfl hi2 ?_) | (refine wpList_store_row rfl 57 _ _ rfl (g + 1) _ rfl rfl _ _ hr3 hi2 hs2 ho2 ?_))
      refine bodyPost_ret (results_cell_row rfl _ _ (g + 1) _ c2 (0, 0) _ rfl (setRow_heap _ (g + 1) _ _ _ _ hr3) Tryz.underlying57 rfl hi2) (by rfl) ?_
      exact ⟨by rw [HCC.out], below_setRow HP.out (by have := HGE.out; omega) _⟩
end Go.Proofs.YteflpbkdnebopaaGreatDoor
