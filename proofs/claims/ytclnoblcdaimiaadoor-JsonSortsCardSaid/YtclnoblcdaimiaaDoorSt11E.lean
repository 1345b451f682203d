/- slices.rotateCmpFunc at pairs; the comparison of two pairs. -/
import Derived.Test.YtclnoblcdaimiaaDoorSt11D
namespace Go.Proofs.YtclnoblcdaimiaaDoor
open Go.RowKit Go.Sort Go.Shelf Go.Lib
set_option linter.unusedVariables false

set_option maxHeartbeats 4000000 in
set_option maxRecDepth 100000 in
theorem rotate_any (blk off cap a m b : Nat) (d0 d : Array P2) (w0 w : World) (fv : Value) (R : RowK encP 2 w0 blk off d0) (hs : d0.size = d.size) (S : SWK encP 2 w0 blk off d w) (ham : a < m) (hmb : m < b) (hbn : b ≤ d.size) (hsz : d.size ≤ 1000000) :
    Calls Tryd.prog 75 #[.slice (some ⟨blk, off, none⟩) d.size cap, .int .i64 (a : Int), .int .i64 (m : Int), .int .i64 (b : Int), fv] w fun e w' => e = .returned (.tuple #[]) ∧ ∃ d', Rot d d' a m b ∧ SWK encP 2 w0 blk off d' w' := by
  have HS := Lib.hid S
  have HSW := Lib.hid (fun p q n (e : Array P2) w (he : e.size = d.size) => swapRange_any blk off cap p q n d0 e w0 w fv R (by rw [he, hs]))
  have H0 : Hid (Rst d d a m b (m - a) (b - m)) := Lib.hid (Rst.start d (Nat.le_of_lt ham) (Nat.le_of_lt hmb) hbn)
  obtain ⟨N, hN⟩ : ∃ N, d.size = N := ⟨_, rfl⟩
  have HN := Lib.hid hN
  rw [hN] at hbn hsz ⊢
  have HW0 : Hid (IntKind.i64.wrap ((m : Int) - (a : Int)) = ((m - a : Nat) : Int) ∧ wrap64 ((m - a : Nat) : Int) = ((m - a : Nat) : Int) ∧ IntKind.i64.wrap ((b : Int) - (m : Int)) = ((b - m : Nat) : Int) ∧ wrap64 ((b - m : Nat) : Int) = ((b - m : Nat) : Int)) :=
    Lib.hid ⟨by rw [IntKind.wrap_i64]; omega, IntWalk.wrap64_in _ (by omega), by rw [IntKind.wrap_i64]; omega, IntWalk.wrap64_in _ (by omega)⟩
  obtain ⟨i0, hi0⟩ : ∃ i, m - a = i := ⟨_, rfl⟩
  obtain ⟨j0, hj0⟩ : ∃ j, b - m = j := ⟨_, rfl⟩
  rw [hi0, hj0] at H0 HW0
  have i0p : 0 < i0 := by omega
  have j0p : 0 < j0 := by omega
  have i0n : i0 ≤ m := by omega
  have j0n : m + j0 ≤ N := by omega
  clear S R hs hN hi0 hj0
  obtain ⟨h1, h2, h3, h4⟩ := HW0.out
  go_enter Tryd.func75, Tryd.ntmps75
  go_wp2_with fail
  go_loopg [10, 11] (i0 + j0) (fun q s10 s11 wx => ∃ i j : Nat, 0 < i ∧ 0 < j ∧ i ≤ m ∧ m + j ≤ N ∧ q = i + j ∧ s10 = .int .i64 (i : Int) ∧ s11 = .int .i64 (j : Int) ∧ Hid (∃ e, Rst d e a m b i j ∧ SWK encP 2 w0 blk off e wx))
  case atStart => exact ⟨i0, j0, i0p, j0p, i0n, j0n, rfl, rfl, rfl, Lib.hid ⟨d, H0.out, HS.out⟩⟩
  case round =>
    clear HS H0 h1 h2 h3 h4 i0p j0p i0n j0n
    obtain ⟨i, j, hi, hj, him, hjn, hq, rfl, rfl, HQ⟩ := hrel
    have HGQ := Lib.hid hq
    clear hq
    obtain ⟨e, hR, hS⟩ := HQ.out
    have he : e.size = N := by rw [hR.size, HN.out]
    obtain ⟨t, ht⟩ : ∃ t, m - i = t := ⟨_, rfl⟩
    have HWT : Hid (IntKind.i64.wrap ((m : Int) - (i : Int)) = (t : Int) ∧ wrap64 (t : Int) = (t : Int)) := Lib.hid ⟨by rw [IntKind.wrap_i64]; omega, IntWalk.wrap64_in _ (by omega)⟩
    by_cases hlt : j < i
    · have hne : ¬ i = j := by omega
      have hgt : (j : Int) < (i : Int) := Int.ofNat_lt.2 hlt
      have HC := HSW.out t m j e wr (by rw [he, HN.out]) hS (by omega) (by omega) (by omega)
      rw [he] at HC
      have HC := Lib.hid HC
      have HX : Hid (∀ f, Swr e f t m j → Rst d f a m b (i - j) j) := Lib.hid (fun f hf => hR.left hlt (by rw [ht]; exact hf))
      obtain ⟨k, hk⟩ : ∃ k, i - j = k := ⟨_, rfl⟩
      rw [hk] at HX
      have HWK : Hid (IntKind.i64.wrap ((i : Int) - (j : Int)) = (k : Int) ∧ wrap64 (k : Int) = (k : Int)) := Lib.hid ⟨by rw [IntKind.wrap_i64]; omega, IntWalk.wrap64_in _ (by omega)⟩
      have HKK : Hid (0 < k ∧ k ≤ m) := Lib.hid ⟨by omega, by omega⟩
      have HMS : Hid (k + j < i + j) := Lib.hid (by omega)
      have hni : ¬ (i : Int) = (j : Int) := by omega
      clear hR hS he HQ hk ht hlt hne
      obtain ⟨h1, h2⟩ := HWT.out
      obtain ⟨h3, h4⟩ := HWK.out
      go_wp2_with fail
      refine HC.out.mono ?_
      rintro e' w' ⟨rfl, f, hf, hSf⟩
      have HE : Hid (∃ e, Rst d e a m b k j ∧ SWK encP 2 w0 blk off e w') := Lib.hid ⟨f, HX.out f hf, hSf⟩
      clear hf hSf
      go_wp2_with fail
      go_roundg (k + j)
      case rel => exact ⟨k, j, HKK.out.1, hj, HKK.out.2, hjn, rfl, rfl, rfl, HE⟩
      case measure => rw [HGQ.out]; exact HMS.out
    · by_cases hlt2 : i < j
      · have hgt : ¬ (j : Int) < (i : Int) := by omega
        obtain ⟨u, hu⟩ : ∃ u, m + j = u := ⟨_, rfl⟩
        obtain ⟨v, hv⟩ : ∃ v, u - i = v := ⟨_, rfl⟩
        have HC := HSW.out t v i e wr (by rw [he, HN.out]) hS (by omega) (by omega) (by omega)
        rw [he] at HC
        have HC := Lib.hid HC
        have HX : Hid (∀ f, Swr e f t v i → Rst d f a m b i (j - i)) := Lib.hid (fun f hf => hR.right hlt2 (by rw [ht, hu, hv]; exact hf))
        obtain ⟨k, hk⟩ : ∃ k, j - i = k := ⟨_, rfl⟩
        rw [hk] at HX
        have HWK : Hid (IntKind.i64.wrap ((j : Int) - (i : Int)) = (k : Int) ∧ wrap64 (k : Int) = (k : Int) ∧ IntKind.i64.wrap ((m : Int) + (j : Int)) = (u : Int) ∧ wrap64 (u : Int) = (u : Int) ∧ IntKind.i64.wrap ((u : Int) - (i : Int)) = (v : Int) ∧ wrap64 (v : Int) = (v : Int)) :=
          Lib.hid ⟨by rw [IntKind.wrap_i64]; omega, IntWalk.wrap64_in _ (by omega), by rw [IntKind.wrap_i64]; omega, IntWalk.wrap64_in _ (by omega), by rw [IntKind.wrap_i64]; omega, IntWalk.wrap64_in _ (by omega)⟩
        have HKK : Hid (0 < k ∧ m + k ≤ N) := Lib.hid ⟨by omega, by omega⟩
        have HMS : Hid (i + k < i + j) := Lib.hid (by omega)
        have hni : ¬ (i : Int) = (j : Int) := by omega
        clear hR hS he HQ hk ht hu hv hlt hlt2
        obtain ⟨h1, h2⟩ := HWT.out
        obtain ⟨h3, h4, h5, h6, h7, h8⟩ := HWK.out
        go_wp2_with fail
        refine HC.out.mono ?_
        rintro e' w' ⟨rfl, f, hf, hSf⟩
        have HE : Hid (∃ e, Rst d e a m b i k ∧ SWK encP 2 w0 blk off e w') := Lib.hid ⟨f, HX.out f hf, hSf⟩
        clear hf hSf
        go_wp2_with fail
        go_roundg (i + k)
        case rel => exact ⟨i, k, hi, HKK.out.1, him, HKK.out.2, rfl, rfl, rfl, HE⟩
        case measure => rw [HGQ.out]; exact HMS.out
      · have hij : i = j := by omega
        subst hij
        have HC := HSW.out t m i e wr (by rw [he, HN.out]) hS (by omega) (by omega) (by omega)
        rw [he] at HC
        have HC := Lib.hid HC
        have HX : Hid (∀ f, Swr e f t m i → Rot d f a m b) := Lib.hid (fun f hf => hR.last (by rw [ht]; exact hf))
        clear hR hS he HQ ht hlt hlt2
        obtain ⟨h1, h2⟩ := HWT.out
        go_wp2_with fail
        refine HC.out.mono ?_
        rintro e' w' ⟨rfl, f, hf, hSf⟩
        have HE : Hid (∃ d', Rot d d' a m b ∧ SWK encP 2 w0 blk off d' w') := Lib.hid ⟨f, HX.out f hf, hSf⟩
        clear hf hSf
        go_wp2_with fail
        go_end0
        exact ⟨rfl, HE.out⟩

theorem isNaN_any (s : ByteArray) (w : World) : Calls Tryd.prog 56 #[.string s] w fun e w' => e = .returned (.bool false) ∧ w' = w := by
  have h : (s.toList == s.toList) = true := by simp
  go_enter Tryd.func56, Tryd.ntmps56
  go_wp2_with fail
  go_ret
  exact ⟨rfl, rfl⟩
theorem compare_any (x y : P2) (w : World) : Calls Tryd.prog 39 #[.string x.1, .string y.1] w fun e w' => e = .returned (.int .i64 (cfP x y)) ∧ w' = w := by
  have HN := Lib.hid (fun s w => isNaN_any s w)
  unfold cfP
  obtain ⟨a, a2⟩ := x
  obtain ⟨b, b2⟩ := y
  simp only
  cases h1 : Go.Op.bytesLess a.toList b.toList with
  | true =>
    go_enter Tryd.func39, Tryd.ntmps39
    go_wp2_with fail
    refine (HN.out a w).mono ?_
    rintro e w1 ⟨rfl, rfl⟩
    go_wp2_with fail
    refine (HN.out b w1).mono ?_
    rintro e w2 ⟨rfl, rfl⟩
    go_wp2_with fail
    go_ret
    exact ⟨rfl, rfl⟩
  | false =>
    cases h2 : (a.toList == b.toList) with
    | true =>
      go_enter Tryd.func39, Tryd.ntmps39
      go_wp2_with fail
      refine (HN.out a w).mono ?_
      rintro e w1 ⟨rfl, rfl⟩
      go_wp2_with fail
      refine (HN.out b w1).mono ?_
      rintro e w2 ⟨rfl, rfl⟩
      go_wp2_with fail
      go_ret
      exact ⟨rfl, rfl⟩
    | false =>
      go_enter Tryd.func39, Tryd.ntmps39
      go_wp2_with fail
      refine (HN.out a w).mono ?_
      rintro e w1 ⟨rfl, rfl⟩
      go_wp2_with fail
      refine (HN.out b w1).mono ?_
      rintro e w2 ⟨rfl, rfl⟩
      go_wp2_with fail
      go_ret
      exact ⟨rfl, rfl⟩
theorem cmp_any (x y : P2) (w : World) : Calls Tryd.prog 38 #[.agg #[.string x.1, .string x.2], .agg #[.string y.1, .string y.2]] w fun e w' => e = .returned (.int .i64 (cfP x y)) ∧ ∃ q os, w' = grow (w.drewN q) os := by
  have HC := Lib.hid (fun w => compare_any x y w)
  obtain ⟨g, hg⟩ : ∃ g, w.heap.size = g := ⟨_, rfl⟩
  obtain ⟨w2, hw2⟩ : ∃ w', w' = (w.alloc (.cells #[.string x.1, .string x.2] 54)).alloc (.cells #[.string y.1, .string y.2] 54) := ⟨_, rfl⟩
  have hr := two_rows (Below.refl _ ((w.alloc (.cells #[.string x.1, .string x.2] 54)).alloc (.cells #[.string y.1, .string y.2] 54)))
  rw [hg, ← hw2] at hr
  have hc1 : w2.cell? ⟨g, 0, none⟩ = some (.string x.1) := by rw [hr.1.cell]; rfl
  have hc2 : w2.cell? ⟨g + 1, 0, none⟩ = some (.string y.1) := by rw [hr.2.1.cell]; rfl
  have HG : Hid (∃ q os, w2 = grow (w.drewN q) os) := Lib.hid ⟨0, #[_, _], by rw [hw2, alloc_eq_grow, alloc_eq_grow, grow_grow]; rfl⟩
  have HW2 := Lib.hid hw2
  clear hr hw2
  go_enter Tryd.func38, Tryd.ntmps38
  go_upto_region 1 with (fail)
  rw [← HW2.out]
  try rw [hg]
  clear HW2 hg
  go_wp2_with fail
  refine (HC.out w2).mono ?_
  rintro e w3 ⟨rfl, rfl⟩
  go_wp2_with fail
  go_ret
  exact ⟨rfl, HG.out⟩
theorem cmp_lays (blk off size : Nat) (w0 : World) : CmpLays Tryd.prog 38 #[] encP 2 cfP blk off size w0 := fun m os dk _ x y => cmp_any x y _
end Go.Proofs.YtclnoblcdaimiaaDoor
