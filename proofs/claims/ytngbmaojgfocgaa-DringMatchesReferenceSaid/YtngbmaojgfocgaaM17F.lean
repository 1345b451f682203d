/- The program's Norm, and all contracts together. -/
import Derived.Test.YtngbmaojgfocgaaM17E
namespace Go.Proofs.Ytngbmaojgfocgaa.dr
open Go.RowKit
set_option linter.unusedVariables false
set_option maxRecDepth 100000

theorem runIndexP (f : Nat → Int) (j : Nat) (hj : j < 256) (w : World) : (Instr.index 27 (.agg (arr .u32 256 f)) (.int .i64 (j : Int))).run Try.prog w = .ok (.int .u32 (f j)) w := by
  obtain ⟨i, hi, hz⟩ : ∃ i, Try.prog.info? 22 = some i ∧ i.size = 1 := by
    cases hq : Try.prog.info? 22 with
    | none =>
      have : (Try.prog.info? 22).isSome = true := by kernel_rfl
      rw [hq] at this
      cases this
    | some i =>
      have : (Try.prog.info? 22).map (·.size) = some 1 := by kernel_rfl
      rw [hq] at this
      exact ⟨i, rfl, by simpa using this⟩
  exact run_index_cells w Try.underlying27 Try.underlying22 hi hz (j : Int) (by omega) (by omega) (arr_get .u32 256 f j hj)
set_option maxHeartbeats 4000000 in
theorem pnorm_any (f : Nat → Int) (hf : R32 f) (w : World) :
    Calls Try.prog 24 #[.agg (arr .u32 256 f)] w fun e w' => e = .returned (.int .u32 (nrm f 256)) ∧ Past w w' := by
  have HIX := Lib.hid (fun i (hi : i < 256) => runIndexP f i hi)
  have HF := Lib.hid hf
  have hif := infP f
  obtain ⟨g, hg⟩ : ∃ g, w.heap.size = g := ⟨_, rfl⟩
  obtain ⟨w1, hw1⟩ : ∃ W, w.alloc (.cells (arr .u32 256 f) 27) = W := ⟨_, rfl⟩
  have HP1 : Hid (Past w w1) := Lib.hid (by rw [← hw1]; exact (Below.refl _ _).alloc (Nat.le_refl _) _)
  have hr1 : Row w1 g 27 (arr .u32 256 f) := by rw [← hw1, ← hg]; exact Row.new _ _ _
  have HW1 := Lib.hid hw1
  clear hf hw1
  generalize arr .u32 256 f = cs at *
  go_enter Try.func24, Try.ntmps24
  go_upto_region 1 with (fail)
  rw [HW1.out]
  try rw [hg]
  clear HW1 hg
  go_wp2_with (refine wpList_load_row rfl 27 _ rfl g rfl _ _ (0, 0) _ hr1 Try.underlying27 rfl hif ?_)
  go_loopg [3, 7] 256 (fun q s3 s7 wx => ∃ (i : Nat) (n : Int), i ≤ 256 ∧ q = 256 - i ∧ s3 = .int .u32 n ∧ s7 = .int .i64 (i : Int) ∧ 0 ≤ n ∧ n ≤ 4190208 ∧ Hid (n = nrm f i) ∧ Hid (wx = w1))
  case atStart => exact ⟨0, 0, Nat.zero_le _, rfl, rfl, rfl, by decide, by decide, Lib.hid rfl, Lib.hid rfl⟩
  case round =>
    obtain ⟨i, n, hi, hq, rfl, rfl, n0, n1, HN, HW⟩ := hrel
    have HGQ := Lib.hid hq
    clear hq hr1 hif
    have hi0 : (0 : Int) ≤ (i : Int) := by omega
    by_cases hlt : i < 256
    · have hii : (i : Int) < 256 := by omega
      have HLT := Lib.hid hlt
      have hix := HIX.out i hlt
      obtain ⟨A0, A1⟩ := HF.out i
      have HS : Hid (nrm f (i + 1) = if n < szF (f i) then szF (f i) else n) := Lib.hid (by rw [HN.out]; rfl)
      have HZ : Hid (szF (f i) = if 8380417 - f i % 8380417 < f i % 8380417 then 8380417 - f i % 8380417 else f i % 8380417) := Lib.hid rfl
      generalize f i = p at *
      obtain ⟨c, hc⟩ : ∃ c, p % 8380417 = c := ⟨_, rfl⟩
      rw [hc] at HZ
      have c0 : 0 ≤ c := by omega
      have c1 : c < 8380417 := by omega
      have hpt : p.tmod 8380417 = c := by rw [Int.tmod_eq_emod_of_nonneg A0]; exact hc
      have hwc0 : IntKind.u32.wrap c = c := by rw [IntKind.wrap_u32]; omega
      have hwc : IntKind.u32.wrap (8380417 - c) = 8380417 - c := by rw [IntKind.wrap_u32]; omega
      clear hlt hi
      obtain ⟨t, ht⟩ : ∃ t, 8380417 - c = t := ⟨_, rfl⟩
      rw [ht] at HZ
      have hwt : IntKind.u32.wrap (8380417 - c) = t := by rw [hwc, ht]
      have t0 : 0 < t := by omega
      clear hwc
      by_cases hb : t < c
      · have HT : Hid (szF p = t) := Lib.hid (by rw [HZ.out, if_pos hb])
        rw [HT.out] at HS
        have HTB : Hid (0 ≤ t ∧ t ≤ 4190208) := Lib.hid (by omega)
        have hb2 : ¬ c ≤ t := by omega
        have hb3 : min c t = t := by omega
        have hb4 : t ≤ c := by omega
        by_cases hn : n < t
        · have HE : Hid (nrm f (i + 1) = t) := Lib.hid (by rw [HS.out, if_pos hn])
          have hn2 : ¬ t ≤ n := by omega
          have hn3 : max n t = t := by omega
          have hn4 : n ≤ t := by omega
          clear ht hc c1 A0 A1
          go_wp2_with fail
          go_roundg (256 - (i + 1))
          case rel => exact ⟨i + 1, t, HLT.out, rfl, rfl, by go_num, HTB.out.1, HTB.out.2, Lib.hid HE.out.symm, HW⟩
          case measure => have := HGQ.out; have := HLT.out; omega
        · have HE : Hid (nrm f (i + 1) = n) := Lib.hid (by rw [HS.out, if_neg hn])
          have HNB : Hid (0 ≤ n ∧ n ≤ 4190208) := Lib.hid ⟨n0, n1⟩
          have hn2 : t ≤ n := by omega
          have hn3 : max n t = n := by omega
          clear ht hc c1 A0 A1
          go_wp2_with fail
          go_roundg (256 - (i + 1))
          case rel => exact ⟨i + 1, n, HLT.out, rfl, rfl, by go_num, HNB.out.1, HNB.out.2, Lib.hid HE.out.symm, HW⟩
          case measure => have := HGQ.out; have := HLT.out; omega
      · have HT : Hid (szF p = c) := Lib.hid (by rw [HZ.out, if_neg hb])
        rw [HT.out] at HS
        have HTB : Hid (0 ≤ c ∧ c ≤ 4190208) := Lib.hid (by omega)
        have hb2 : c ≤ t := by omega
        have hb3 : min c t = c := by omega
        by_cases hn : n < c
        · have HE : Hid (nrm f (i + 1) = c) := Lib.hid (by rw [HS.out, if_pos hn])
          have hn2 : ¬ c ≤ n := by omega
          have hn3 : max n c = c := by omega
          have hn4 : n ≤ c := by omega
          clear ht hc c1 A0 A1
          go_wp2_with fail
          go_roundg (256 - (i + 1))
          case rel => exact ⟨i + 1, c, HLT.out, rfl, rfl, by go_num, HTB.out.1, HTB.out.2, Lib.hid HE.out.symm, HW⟩
          case measure => have := HGQ.out; have := HLT.out; omega
        · have HE : Hid (nrm f (i + 1) = n) := Lib.hid (by rw [HS.out, if_neg hn])
          have HNB : Hid (0 ≤ n ∧ n ≤ 4190208) := Lib.hid ⟨n0, n1⟩
          have hn2 : c ≤ n := by omega
          have hn3 : max n c = n := by omega
          clear ht hc c1 A0 A1
          go_wp2_with fail
          go_roundg (256 - (i + 1))
          case rel => exact ⟨i + 1, n, HLT.out, rfl, rfl, by go_num, HNB.out.1, HNB.out.2, Lib.hid HE.out.symm, HW⟩
          case measure => have := HGQ.out; have := HLT.out; omega
    · obtain rfl : i = 256 := by omega
      have hii : ¬ (256 : Int) < 256 := by omega
      go_wp2_with fail
      go_ret
      exact ⟨by rw [HN.out]; rfl, by rw [HW.out]; exact HP1.out⟩
/-- The program keeps its contracts. -/
theorem prog17 : Prog17 where
  reduce n w h0 h1 := (reduce_any n w h0 h1).mono fun e w' h => ⟨h.1, by rw [h.2]; exact Below.refl _ _⟩
  rootIn i w hi := prootIn_any i hi w
  rootOut i w h := prootOut_any i h w
  add a b w ha hb := padd_any a b ha hb w
  sub a b w ha hb := psub_any a b ha hb w
  mul a b w ha hb := pmul_any a b ha hb w
  ntt a w ha := pntt_any a ha w
  intt a w ha := pintt_any a ha w
  norm a w ha := pnorm_any a ha w
end Go.Proofs.Ytngbmaojgfocgaa.dr
