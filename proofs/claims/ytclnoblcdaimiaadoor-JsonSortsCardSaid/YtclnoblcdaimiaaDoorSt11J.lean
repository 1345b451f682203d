/- slices.stableCmpFunc at up to 40 pairs. -/
import Derived.Test.YtclnoblcdaimiaaDoorSt11I
namespace Go.Proofs.YtclnoblcdaimiaaDoor
open Go.RowKit Go.Sort Go.Shelf Go.Lib
set_option linter.unusedVariables false

def S2 (N j : Nat) (e : Array P2) : Prop := (j = 0 → (N ≤ 20 → SortedIn (ltOf cfP) 0 N e) ∧ (20 < N → SortedIn (ltOf cfP) 0 20 e ∧ SortedIn (ltOf cfP) 20 N e)) ∧ (j = 1 → SortedIn (ltOf cfP) 0 N e) ∧ (j = 1 → 20 < N)
def S3 (N k : Nat) (f : Array P2) : Prop := (k = 0 → SortedIn (ltOf cfP) 0 20 f ∧ SortedIn (ltOf cfP) 20 N f) ∧ (k = 1 → N = 40 ∧ SortedIn (ltOf cfP) 0 N f)
theorem om0 {k : Nat} (hk : k ≤ 2) : k = 0 ∨ k = 1 ∨ k = 2 := by omega
theorem om1 {N : Nat} (hlt : 20 ≤ N) : (20 : Int) ≤ (N : Int) := by omega
theorem om2 {N : Nat} (hn : N ≤ 40) : N ≤ 1000000 := by omega
theorem om3 {N : Nat} (hlt : ¬ 20 ≤ N) : ¬ (20 : Int) ≤ (N : Int) := by omega
theorem om4 {N : Nat} (hlt : ¬ 20 ≤ N) : ¬ 20 < N := by omega
theorem om5 {N : Nat} (hlt : ¬ 20 ≤ N) (hlt2 : 20 < N) : False := by omega
theorem om6 {N : Nat} (hlt2 : ¬ 20 < N) : ¬ (20 : Int) < (N : Int) := by omega
theorem om7 {N : Nat} (hlt2 : ¬ 20 < N) : N ≤ 20 := by omega
theorem om8 {N : Nat} (hlt : ¬ 20 ≤ N) (h20 : 20 < N) : False := by omega
theorem om9 {N : Nat} (hlt : 40 ≤ N) : (40 : Int) ≤ (N : Int) := by omega
theorem om10 {N : Nat} (hlt : ¬ 40 ≤ N) : ¬ (40 : Int) ≤ (N : Int) := by omega
theorem om11 {N : Nat} (h : N ≤ 20) (hkN : 20 * 1 ≤ N) : N = 20 := by omega
theorem om12 {N : Nat} (hlt2 : 20 < N) : (20 : Int) < (N : Int) := by omega
theorem om13 {N : Nat} (hlt : ¬ 40 ≤ N) (hlt3 : 40 ≤ N) : False := by omega
theorem om14 {N : Nat} (hlt3 : ¬ 40 ≤ N) : ¬ (40 : Int) ≤ (N : Int) := by omega
theorem om15 {N : Nat} (hn : N ≤ 40) : N - 0 ≤ 40 := by omega
theorem om16 {N : Nat} (hlt : ¬ 40 ≤ N) (h40 : N = 40) : False := by omega
theorem om17 {N : Nat} (hn : N ≤ 40) : ¬ (40 : Int) < (N : Int) := by omega
theorem om18 {N : Nat} (hn : N ≤ 40) (hkN : 20 * 2 ≤ N) : N = 40 := by omega
theorem om19 {N : Nat} (hN40 : N = 40) : ¬ (60 : Int) ≤ (N : Int) := by omega
theorem om20 {N : Nat} (hN40 : N = 40) : ¬ N ≤ 20 := by omega
theorem om21 {p : Nat} (q2 : p < 20) : p < 40 := by omega
theorem om22 {N : Nat} (hlt3 : 40 ≤ N) : (40 : Int) ≤ (N : Int) := by omega
theorem om23 {N : Nat} (hlt3 : 40 ≤ N) (hn : N ≤ 40) : N = 40 := by omega
theorem om24 {N : Nat} (hN40 : N = 40) (hlt3 : ¬ 40 ≤ N) : False := by omega
theorem om25 {N : Nat} (hN40 : N = 40) : ¬ (80 : Int) ≤ (N : Int) := by omega
theorem om26 {N : Nat} (hN40 : N = 40) : ¬ (60 : Int) < (N : Int) := by omega
theorem om27 {N : Nat} (hN40 : N = 40) : 20 < N := by omega
theorem om28 {N : Nat} (hN40 : N = 40) (hlt2 : ¬ 20 < N) : False := by omega
set_option maxHeartbeats 8000000 in
set_option maxRecDepth 100000 in
theorem stable_any (blk off cap : Nat) (d : Array P2) (w0 : World) (hH : HoldsK encP 2 w0 blk off d) (hblk : blk < w0.heap.size) (hn : d.size ≤ 40) :
    Calls Tryd.prog 55 #[.slice (some ⟨blk, off, none⟩) d.size cap, .int .i64 (d.size : Int), .func (.func 38) #[] #[]] w0 fun e w' => e = .returned (.tuple #[]) ∧ ∃ d', SWK encP 2 w0 blk off d' w' ∧ Stb clsP d d' ∧ SortedIn (ltOf cfP) 0 d.size d' := by
  have HR : Hid (RowK encP 2 w0 blk off d) := Lib.hid ⟨encP_k, encP_one, hH, hblk⟩
  obtain ⟨N, hN⟩ : ∃ N, d.size = N := ⟨_, rfl⟩
  have HDN := Lib.hid hN
  have H0 : Hid (d.size = N ∧ Stb clsP d d ∧ (1 ≤ 0 → SortedIn (ltOf cfP) 0 20 d) ∧ (2 ≤ 0 → SortedIn (ltOf cfP) 20 40 d) ∧ SWK encP 2 w0 blk off d w0) := Lib.hid ⟨hN, Stb.refl clsP d, fun h => absurd h (by decide), fun h => absurd h (by decide), SWK.start hH⟩
  rw [hN] at hn ⊢
  clear hH hN hblk
  go_enter Tryd.func55, Tryd.ntmps55
  go_wp2_with fail
  go_loopg [7, 8] 2 (fun q s7 s8 wx => ∃ (k : Nat) (e : Array P2), k ≤ 2 ∧ q = 2 - k ∧ s7 = .int .i64 ((20 * k : Nat) : Int) ∧ s8 = .int .i64 ((20 * k + 20 : Nat) : Int) ∧ 20 * k ≤ N ∧ Hid (e.size = N ∧ Stb clsP d e ∧ (1 ≤ k → SortedIn (ltOf cfP) 0 20 e) ∧ (2 ≤ k → SortedIn (ltOf cfP) 20 40 e) ∧ SWK encP 2 w0 blk off e wx))
  case atStart => exact ⟨0, d, by decide, rfl, rfl, rfl, Nat.zero_le _, H0⟩
  case round =>
    clear H0
    obtain ⟨k, e, hk, hq, rfl, rfl, hkN, HB⟩ := hrel
    have HGQ := Lib.hid hq
    clear hq
    have hes : e.size = N := HB.out.1
    have hS1 := HB.out.2.2.2.2
    rcases (om0 hk) with rfl | rfl | rfl
    · by_cases hlt : 20 ≤ N
      · have hli : (20 : Int) ≤ (N : Int) := (om1 hlt)
        have HC := insertion_any blk off cap 0 20 d e w0 wr HR.out (by rw [hes, HDN.out]) hS1 (by decide) (by rw [hes]; exact hlt) (by rw [hes]; exact (om2 hn))
        rw [hes] at HC
        simp only [show ((0 : Nat) : Int) = 0 from rfl, show ((20 : Nat) : Int) = 20 from rfl] at HC
        have HI2 : Hid (PermIn 0 20 e (insertionSort (ltOf cfP) e 0 20) ∧ SortedIn (ltOf cfP) 0 20 (insertionSort (ltOf cfP) e 0 20) ∧ Stb clsP e (insertionSort (ltOf cfP) e 0 20)) := Lib.hid ⟨(insertionSort_holds swoP e 0 20 (by decide) (by rw [hes]; exact hlt)).1, (insertionSort_holds swoP e 0 20 (by decide) (by rw [hes]; exact hlt)).2, insertionSort_stb clsP_ne e 0 20 (by rw [hes]; exact hlt)⟩
        obtain ⟨e1, he1⟩ : ∃ e1, insertionSort (ltOf cfP) e 0 20 = e1 := ⟨_, rfl⟩
        rw [he1] at HC HI2
        have HC := Lib.hid HC
        clear he1 hS1
        go_wp2_with fail
        refine HC.out.mono ?_
        rintro ee w1 ⟨rfl, hsw⟩
        have HSW := Lib.hid hsw
        clear hsw
        have HE : Hid (e1.size = N ∧ Stb clsP d e1 ∧ (1 ≤ 1 → SortedIn (ltOf cfP) 0 20 e1) ∧ (2 ≤ 1 → SortedIn (ltOf cfP) 20 40 e1) ∧ SWK encP 2 w0 blk off e1 w1) := Lib.hid ⟨by rw [HI2.out.1.1, hes], HB.out.2.1.trans HI2.out.2.2, fun _ => HI2.out.2.1, fun h => absurd h (by decide), HSW.out⟩
        go_wp2_with fail
        go_roundg (2 - 1)
        case rel => exact ⟨1, e1, by decide, rfl, rfl, rfl, hlt, HE⟩
        case measure => rw [HGQ.out]; decide
      · have hli : ¬ (20 : Int) ≤ (N : Int) := (om3 hlt)
        have HC := insertion_any blk off cap 0 N d e w0 wr HR.out (by rw [hes, HDN.out]) hS1 (Nat.zero_le _) (by rw [hes]; exact (Nat.le_refl _)) (by rw [hes]; exact (om2 hn))
        rw [hes] at HC
        simp only [show ((0 : Nat) : Int) = 0 from rfl] at HC
        have HI2 : Hid (PermIn 0 N e (insertionSort (ltOf cfP) e 0 N) ∧ SortedIn (ltOf cfP) 0 N (insertionSort (ltOf cfP) e 0 N) ∧ Stb clsP e (insertionSort (ltOf cfP) e 0 N)) := Lib.hid ⟨(insertionSort_holds swoP e 0 N (Nat.zero_le _) (by rw [hes]; exact (Nat.le_refl _))).1, (insertionSort_holds swoP e 0 N (Nat.zero_le _) (by rw [hes]; exact (Nat.le_refl _))).2, insertionSort_stb clsP_ne e 0 N (by rw [hes]; exact (Nat.le_refl _))⟩
        obtain ⟨e1, he1⟩ : ∃ e1, insertionSort (ltOf cfP) e 0 N = e1 := ⟨_, rfl⟩
        rw [he1] at HC HI2
        have HC := Lib.hid HC
        clear he1 hS1
        go_wp2_with fail
        refine HC.out.mono ?_
        rintro ee w1 ⟨rfl, hsw⟩
        have HSW := Lib.hid hsw
        clear hsw
        have HE : Hid (e1.size = N ∧ Stb clsP d e1 ∧ (N ≤ 20 → SortedIn (ltOf cfP) 0 N e1) ∧ (20 < N → SortedIn (ltOf cfP) 0 20 e1 ∧ SortedIn (ltOf cfP) 20 N e1) ∧ SWK encP 2 w0 blk off e1 w1) := Lib.hid ⟨by rw [HI2.out.1.1, hes], HB.out.2.1.trans HI2.out.2.2, fun _ => HI2.out.2.1, fun h => absurd h (om4 hlt), HSW.out⟩
        clear HI2 HSW HB hes
        go_wp2_with fail
        go_loopg [6] 1 (fun q s6 wx => ∃ (j : Nat) (C : Int) (e : Array P2), (j = 0 ∧ C = 20 ∨ j = 1 ∧ C = 40) ∧ q = 1 - j ∧ s6 = .int .i64 C ∧ Hid (e.size = N ∧ Stb clsP d e ∧ S2 N j e ∧ SWK encP 2 w0 blk off e wx))
        case atStart => exact ⟨0, 20, e1, Or.inl ⟨rfl, rfl⟩, rfl, rfl, Lib.hid ⟨HE.out.1, HE.out.2.1, ⟨fun _ => ⟨HE.out.2.2.1, HE.out.2.2.2.1⟩, fun h => absurd h (by decide), fun h => absurd h (by decide)⟩, HE.out.2.2.2.2⟩⟩
        case round =>
          clear HE
          obtain ⟨j, C, e, hj, hq, rfl, HB⟩ := hrel
          have HGQ2 := Lib.hid hq
          clear hq
          have hes : e.size = N := HB.out.1
          rcases hj with ⟨rfl, rfl⟩ | ⟨rfl, rfl⟩
          · by_cases hlt2 : 20 < N
            · exfalso
              exact (om5 hlt hlt2)
            · have hli2 : ¬ (20 : Int) < (N : Int) := (om6 hlt2)
              have HEND : Hid (∃ d', SWK encP 2 w0 blk off d' wr ∧ Stb clsP d d' ∧ SortedIn (ltOf cfP) 0 N d') := Lib.hid ⟨e, HB.out.2.2.2, HB.out.2.1, (HB.out.2.2.1.1 rfl).1 (om7 hlt2)⟩
              go_wp2_with fail
              go_end0
              exact ⟨rfl, HEND.out⟩
          · exfalso
            have h20 := HB.out.2.2.1.2.2 rfl
            exact (om8 hlt h20)
    · by_cases hlt : 40 ≤ N
      · have hli : (40 : Int) ≤ (N : Int) := (om9 hlt)
        have HC := insertion_any blk off cap 20 40 d e w0 wr HR.out (by rw [hes, HDN.out]) hS1 (by decide) (by rw [hes]; exact hlt) (by rw [hes]; exact (om2 hn))
        rw [hes] at HC
        simp only [show ((20 : Nat) : Int) = 20 from rfl, show ((40 : Nat) : Int) = 40 from rfl] at HC
        have HI2 : Hid (PermIn 20 40 e (insertionSort (ltOf cfP) e 20 40) ∧ SortedIn (ltOf cfP) 20 40 (insertionSort (ltOf cfP) e 20 40) ∧ Stb clsP e (insertionSort (ltOf cfP) e 20 40)) := Lib.hid ⟨(insertionSort_holds swoP e 20 40 (by decide) (by rw [hes]; exact hlt)).1, (insertionSort_holds swoP e 20 40 (by decide) (by rw [hes]; exact hlt)).2, insertionSort_stb clsP_ne e 20 40 (by rw [hes]; exact hlt)⟩
        obtain ⟨e1, he1⟩ : ∃ e1, insertionSort (ltOf cfP) e 20 40 = e1 := ⟨_, rfl⟩
        rw [he1] at HC HI2
        have HC := Lib.hid HC
        clear he1 hS1
        go_wp2_with fail
        refine HC.out.mono ?_
        rintro ee w1 ⟨rfl, hsw⟩
        have HSW := Lib.hid hsw
        clear hsw
        have HE : Hid (e1.size = N ∧ Stb clsP d e1 ∧ (1 ≤ 2 → SortedIn (ltOf cfP) 0 20 e1) ∧ (2 ≤ 2 → SortedIn (ltOf cfP) 20 40 e1) ∧ SWK encP 2 w0 blk off e1 w1) := Lib.hid ⟨by rw [HI2.out.1.1, hes], HB.out.2.1.trans HI2.out.2.2, fun _ => sorted_out (HB.out.2.2.1 (by decide)) fun p q1 q2 => HI2.out.1.2.1 p (Or.inl q2), fun _ => HI2.out.2.1, HSW.out⟩
        go_wp2_with fail
        go_roundg (2 - 2)
        case rel => exact ⟨2, e1, by decide, rfl, rfl, rfl, hlt, HE⟩
        case measure => rw [HGQ.out]; decide
      · have hli : ¬ (40 : Int) ≤ (N : Int) := (om10 hlt)
        have HC := insertion_any blk off cap 20 N d e w0 wr HR.out (by rw [hes, HDN.out]) hS1 hkN (by rw [hes]; exact (Nat.le_refl _)) (by rw [hes]; exact (om2 hn))
        rw [hes] at HC
        simp only [show ((20 : Nat) : Int) = 20 from rfl] at HC
        have HI2 : Hid (PermIn 20 N e (insertionSort (ltOf cfP) e 20 N) ∧ SortedIn (ltOf cfP) 20 N (insertionSort (ltOf cfP) e 20 N) ∧ Stb clsP e (insertionSort (ltOf cfP) e 20 N)) := Lib.hid ⟨(insertionSort_holds swoP e 20 N hkN (by rw [hes]; exact (Nat.le_refl _))).1, (insertionSort_holds swoP e 20 N hkN (by rw [hes]; exact (Nat.le_refl _))).2, insertionSort_stb clsP_ne e 20 N (by rw [hes]; exact (Nat.le_refl _))⟩
        obtain ⟨e1, he1⟩ : ∃ e1, insertionSort (ltOf cfP) e 20 N = e1 := ⟨_, rfl⟩
        rw [he1] at HC HI2
        have HC := Lib.hid HC
        clear he1 hS1
        go_wp2_with fail
        refine HC.out.mono ?_
        rintro ee w1 ⟨rfl, hsw⟩
        have HSW := Lib.hid hsw
        clear hsw
        have HE : Hid (e1.size = N ∧ Stb clsP d e1 ∧ (N ≤ 20 → SortedIn (ltOf cfP) 0 N e1) ∧ (20 < N → SortedIn (ltOf cfP) 0 20 e1 ∧ SortedIn (ltOf cfP) 20 N e1) ∧ SWK encP 2 w0 blk off e1 w1) := Lib.hid ⟨by rw [HI2.out.1.1, hes], HB.out.2.1.trans HI2.out.2.2, fun h => by
            have hN : N = 20 := (om11 h hkN)
            rw [hN]
            exact sorted_out (HB.out.2.2.1 (by decide)) fun p q1 q2 => HI2.out.1.2.1 p (Or.inl q2), fun _ => ⟨sorted_out (HB.out.2.2.1 (by decide)) fun p q1 q2 => HI2.out.1.2.1 p (Or.inl q2), HI2.out.2.1⟩, HSW.out⟩
        clear HI2 HSW HB hes
        go_wp2_with fail
        go_loopg [6] 1 (fun q s6 wx => ∃ (j : Nat) (C : Int) (e : Array P2), (j = 0 ∧ C = 20 ∨ j = 1 ∧ C = 40) ∧ q = 1 - j ∧ s6 = .int .i64 C ∧ Hid (e.size = N ∧ Stb clsP d e ∧ S2 N j e ∧ SWK encP 2 w0 blk off e wx))
        case atStart => exact ⟨0, 20, e1, Or.inl ⟨rfl, rfl⟩, rfl, rfl, Lib.hid ⟨HE.out.1, HE.out.2.1, ⟨fun _ => ⟨HE.out.2.2.1, HE.out.2.2.2.1⟩, fun h => absurd h (by decide), fun h => absurd h (by decide)⟩, HE.out.2.2.2.2⟩⟩
        case round =>
          clear HE
          obtain ⟨j, C, e, hj, hq, rfl, HB⟩ := hrel
          have HGQ2 := Lib.hid hq
          clear hq
          have hes : e.size = N := HB.out.1
          rcases hj with ⟨rfl, rfl⟩ | ⟨rfl, rfl⟩
          · by_cases hlt2 : 20 < N
            · have hli2 : (20 : Int) < (N : Int) := (om12 hlt2)
              go_wp2_with fail
              go_loopg [7, 8] 1 (fun q s7 s8 wx => ∃ (k : Nat) (A B : Int) (f : Array P2), (k = 0 ∧ A = 0 ∧ B = 40 ∨ k = 1 ∧ A = 40 ∧ B = 80) ∧ q = 1 - k ∧ s7 = .int .i64 A ∧ s8 = .int .i64 B ∧ Hid (f.size = N ∧ Stb clsP d f ∧ S3 N k f ∧ SWK encP 2 w0 blk off f wx))
              case atStart => exact ⟨0, 0, 40, e, Or.inl ⟨rfl, rfl, rfl⟩, rfl, rfl, rfl, Lib.hid ⟨HB.out.1, HB.out.2.1, ⟨fun _ => (HB.out.2.2.1.1 rfl).2 hlt2, fun h => absurd h (by decide)⟩, HB.out.2.2.2⟩⟩
              case round =>
                rename_i wo2
                clear HB hes
                obtain ⟨k, A, B, f, hk, hq, rfl, rfl, HB⟩ := hrel
                have HGQ3 := Lib.hid hq
                clear hq
                have hes : f.size = N := HB.out.1
                rcases hk with ⟨rfl, rfl, rfl⟩ | ⟨rfl, rfl, rfl⟩
                · obtain ⟨hsa, hsb⟩ := HB.out.2.2.1.1 rfl
                  have hS1 := HB.out.2.2.2
                  by_cases hlt3 : 40 ≤ N
                  · exfalso
                    exact (om13 hlt hlt3)
                  · have hli3 : ¬ (40 : Int) ≤ (N : Int) := (om14 hlt3)
                    have HC := merge_any blk off cap d w0 HR.out 40 0 20 N f wr (om15 hn) (by decide) hlt2 (by rw [hes]; exact Nat.le_refl _) (by rw [hes, HDN.out]) (by rw [hes]; exact (om2 hn)) hS1 hsa hsb
                    rw [hes] at HC
                    simp only [show ((0 : Nat) : Int) = 0 from rfl, show ((20 : Nat) : Int) = 20 from rfl] at HC
                    have HC := Lib.hid HC
                    clear hS1
                    go_wp2_with fail
                    refine HC.out.mono ?_
                    rintro ee w1 ⟨rfl, e1, hg1, hg2, hg3, hg4⟩
                    have HE : Hid (e1.size = N ∧ Stb clsP d e1 ∧ S2 N 1 e1 ∧ SWK encP 2 w0 blk off e1 w1) := Lib.hid ⟨by rw [hg1.1, hes], HB.out.2.1.trans hg3, ⟨fun h => absurd h (by decide), fun _ => hg2, fun _ => hlt2⟩, hg4⟩
                    clear hg1 hg2 hg3 hg4 hsa hsb
                    go_wp2_with fail
                    go_roundg (1 - 1)
                    case rel => exact ⟨1, 40, e1, Or.inr ⟨rfl, rfl⟩, rfl, rfl, HE⟩
                    case measure => rw [HGQ2.out]; decide
                · exfalso
                  have h40 := (HB.out.2.2.1.2 rfl).1
                  exact (om16 hlt h40)
            · have hli2 : ¬ (20 : Int) < (N : Int) := (om6 hlt2)
              have HEND : Hid (∃ d', SWK encP 2 w0 blk off d' wr ∧ Stb clsP d d' ∧ SortedIn (ltOf cfP) 0 N d') := Lib.hid ⟨e, HB.out.2.2.2, HB.out.2.1, (HB.out.2.2.1.1 rfl).1 (om7 hlt2)⟩
              go_wp2_with fail
              go_end0
              exact ⟨rfl, HEND.out⟩
          · have hli2 : ¬ (40 : Int) < (N : Int) := (om17 hn)
            have HEND : Hid (∃ d', SWK encP 2 w0 blk off d' wr ∧ Stb clsP d d' ∧ SortedIn (ltOf cfP) 0 N d') := Lib.hid ⟨e, HB.out.2.2.2, HB.out.2.1, HB.out.2.2.1.2.1 rfl⟩
            go_wp2_with fail
            go_end0
            exact ⟨rfl, HEND.out⟩
    · have HN40 : Hid (N = 40) := Lib.hid (om18 hn hkN)
      have hli : ¬ (60 : Int) ≤ (N : Int) := (om19 HN40.out)
      have HC := insertion_any blk off cap 40 N d e w0 wr HR.out (by rw [hes, HDN.out]) hS1 hkN (by rw [hes]; exact (Nat.le_refl _)) (by rw [hes]; exact (om2 hn))
      rw [hes] at HC
      simp only [show ((40 : Nat) : Int) = 40 from rfl] at HC
      have HI2 : Hid (PermIn 40 N e (insertionSort (ltOf cfP) e 40 N) ∧ SortedIn (ltOf cfP) 40 N (insertionSort (ltOf cfP) e 40 N) ∧ Stb clsP e (insertionSort (ltOf cfP) e 40 N)) := Lib.hid ⟨(insertionSort_holds swoP e 40 N hkN (by rw [hes]; exact (Nat.le_refl _))).1, (insertionSort_holds swoP e 40 N hkN (by rw [hes]; exact (Nat.le_refl _))).2, insertionSort_stb clsP_ne e 40 N (by rw [hes]; exact (Nat.le_refl _))⟩
      obtain ⟨e1, he1⟩ : ∃ e1, insertionSort (ltOf cfP) e 40 N = e1 := ⟨_, rfl⟩
      rw [he1] at HC HI2
      have HC := Lib.hid HC
      clear he1 hS1
      go_wp2_with fail
      refine HC.out.mono ?_
      rintro ee w1 ⟨rfl, hsw⟩
      have HSW := Lib.hid hsw
      clear hsw
      have HE : Hid (e1.size = N ∧ Stb clsP d e1 ∧ (N ≤ 20 → SortedIn (ltOf cfP) 0 N e1) ∧ (20 < N → SortedIn (ltOf cfP) 0 20 e1 ∧ SortedIn (ltOf cfP) 20 N e1) ∧ SWK encP 2 w0 blk off e1 w1) := Lib.hid ⟨by rw [HI2.out.1.1, hes], HB.out.2.1.trans HI2.out.2.2, fun h => absurd h (om20 HN40.out), fun _ => ⟨sorted_out (HB.out.2.2.1 (by decide)) fun p q1 q2 => HI2.out.1.2.1 p (Or.inl (om21 q2)), by
        rw [HN40.out]
        exact sorted_out (HB.out.2.2.2.1 (by decide)) fun p q1 q2 => HI2.out.1.2.1 p (Or.inl q2)⟩, HSW.out⟩
      clear HI2 HSW HB hes
      go_wp2_with fail
      go_loopg [6] 1 (fun q s6 wx => ∃ (j : Nat) (C : Int) (e : Array P2), (j = 0 ∧ C = 20 ∨ j = 1 ∧ C = 40) ∧ q = 1 - j ∧ s6 = .int .i64 C ∧ Hid (e.size = N ∧ Stb clsP d e ∧ S2 N j e ∧ SWK encP 2 w0 blk off e wx))
      case atStart => exact ⟨0, 20, e1, Or.inl ⟨rfl, rfl⟩, rfl, rfl, Lib.hid ⟨HE.out.1, HE.out.2.1, ⟨fun _ => ⟨HE.out.2.2.1, HE.out.2.2.2.1⟩, fun h => absurd h (by decide), fun h => absurd h (by decide)⟩, HE.out.2.2.2.2⟩⟩
      case round =>
        clear HE
        obtain ⟨j, C, e, hj, hq, rfl, HB⟩ := hrel
        have HGQ2 := Lib.hid hq
        clear hq
        have hes : e.size = N := HB.out.1
        rcases hj with ⟨rfl, rfl⟩ | ⟨rfl, rfl⟩
        · by_cases hlt2 : 20 < N
          · have hli2 : (20 : Int) < (N : Int) := (om12 hlt2)
            go_wp2_with fail
            go_loopg [7, 8] 1 (fun q s7 s8 wx => ∃ (k : Nat) (A B : Int) (f : Array P2), (k = 0 ∧ A = 0 ∧ B = 40 ∨ k = 1 ∧ A = 40 ∧ B = 80) ∧ q = 1 - k ∧ s7 = .int .i64 A ∧ s8 = .int .i64 B ∧ Hid (f.size = N ∧ Stb clsP d f ∧ S3 N k f ∧ SWK encP 2 w0 blk off f wx))
            case atStart => exact ⟨0, 0, 40, e, Or.inl ⟨rfl, rfl, rfl⟩, rfl, rfl, rfl, Lib.hid ⟨HB.out.1, HB.out.2.1, ⟨fun _ => (HB.out.2.2.1.1 rfl).2 hlt2, fun h => absurd h (by decide)⟩, HB.out.2.2.2⟩⟩
            case round =>
              rename_i wo2
              clear HB hes
              obtain ⟨k, A, B, f, hk, hq, rfl, rfl, HB⟩ := hrel
              have HGQ3 := Lib.hid hq
              clear hq
              have hes : f.size = N := HB.out.1
              rcases hk with ⟨rfl, rfl, rfl⟩ | ⟨rfl, rfl, rfl⟩
              · obtain ⟨hsa, hsb⟩ := HB.out.2.2.1.1 rfl
                have hS1 := HB.out.2.2.2
                by_cases hlt3 : 40 ≤ N
                · have hli3 : (40 : Int) ≤ (N : Int) := (om22 hlt3)
                  have HNF : Hid (N = 40) := Lib.hid (om23 hlt3 hn)
                  have hsb : SortedIn (ltOf cfP) 20 40 f := by rw [HNF.out] at hsb; exact hsb
                  have HC := merge_any blk off cap d w0 HR.out 40 0 20 40 f wr (by decide) (by decide) (by decide) (by rw [hes]; exact hlt3) (by rw [hes, HDN.out]) (by rw [hes]; exact (om2 hn)) hS1 hsa hsb
                  rw [hes] at HC
                  simp only [show ((0 : Nat) : Int) = 0 from rfl, show ((20 : Nat) : Int) = 20 from rfl, show ((40 : Nat) : Int) = 40 from rfl] at HC
                  have HC := Lib.hid HC
                  clear hS1
                  go_wp2_with fail
                  refine HC.out.mono ?_
                  rintro ee w1 ⟨rfl, e1, hg1, hg2, hg3, hg4⟩
                  have HE : Hid (e1.size = N ∧ Stb clsP d e1 ∧ S3 N 1 e1 ∧ SWK encP 2 w0 blk off e1 w1) := Lib.hid ⟨by rw [hg1.1, hes], HB.out.2.1.trans hg3, ⟨fun h => absurd h (by decide), fun _ => ⟨HNF.out, by rw [HNF.out]; exact hg2⟩⟩, hg4⟩
                  clear hg1 hg2 hg3 hg4 hsa hsb
                  go_wp2_with fail
                  go_roundg (1 - 1)
                  case rel => exact ⟨1, 40, 80, e1, Or.inr ⟨rfl, rfl, rfl⟩, rfl, rfl, rfl, HE⟩
                  case measure => rw [HGQ3.out]; decide
                · exfalso
                  exact (om24 HN40.out hlt3)
              · have HNF : Hid (N = 40) := Lib.hid (HB.out.2.2.1.2 rfl).1
                have hli3 : ¬ (80 : Int) ≤ (N : Int) := (om25 HNF.out)
                have hli4 : ¬ (60 : Int) < (N : Int) := (om26 HNF.out)
                have HE : Hid (f.size = N ∧ Stb clsP d f ∧ S2 N 1 f ∧ SWK encP 2 w0 blk off f wr) := Lib.hid ⟨hes, HB.out.2.1, ⟨fun h => absurd h (by decide), fun _ => (HB.out.2.2.1.2 rfl).2, fun _ => (om27 HNF.out)⟩, HB.out.2.2.2⟩
                go_wp2_with fail
                go_roundg (1 - 1)
                case rel => exact ⟨1, 40, f, Or.inr ⟨rfl, rfl⟩, rfl, rfl, HE⟩
                case measure => rw [HGQ2.out]; decide
          · exfalso
            exact (om28 HN40.out hlt2)
        · have hli2 : ¬ (40 : Int) < (N : Int) := (om17 hn)
          have HEND : Hid (∃ d', SWK encP 2 w0 blk off d' wr ∧ Stb clsP d d' ∧ SortedIn (ltOf cfP) 0 N d') := Lib.hid ⟨e, HB.out.2.2.2, HB.out.2.1, HB.out.2.2.1.2.1 rfl⟩
          go_wp2_with fail
          go_end0
          exact ⟨rfl, HEND.out⟩
end Go.Proofs.YtclnoblcdaimiaaDoor
