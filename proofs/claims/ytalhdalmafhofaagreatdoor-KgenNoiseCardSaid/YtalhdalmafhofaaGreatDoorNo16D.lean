/- The reference's Noise. -/
import Derived.Test.YtalhdalmafhofaaGreatDoorNo16C
import Derived.Test.YtalhdalmafhofaaGreatDoorR15C
namespace Go.Proofs.YtalhdalmafhofaaGreatDoor
open Go.RowKit
set_option maxRecDepth 100000
set_option linter.unusedVariables false

theorem own_row15 {w : World} {base : Nat} {e : TypeId} {g n c : Nat} {xs : List Value} (h : w.ownsRow base e 1 (.slice (some ⟨g, 0, none⟩) n c) n xs) : ∃ cur, Row w g e cur ∧ base ≤ g ∧ n ≤ c ∧ c ≤ maxLen ∧ cur.size = c ∧ cur.toList.take n = xs ∧ xs.length = n := by
  rcases h.2 with ⟨h1, _⟩ | ⟨g', cap, cur, h1, h2, h3, h4, h5, h6, h7⟩
  · cases h1
  · injection h1 with a1 a2 a3
    simp only [Option.some.injEq, Addr.mk.injEq, and_true] at a1
    subst a1 a3
    exact ⟨cur, h3, h2, h4, h5, by simpa using h6, by simpa using h7, by simpa using h.1⟩
set_option maxHeartbeats 4000000 in
theorem rnoise2_any (A : Option Addr) (c : Nat) (xs : List Int) (w : World) (hS : Sl w A 128 c xs) :
    Calls Tryz.prog 8 #[.int .i64 2, .slice A 128 c] w fun r w' => r = .returned (.agg (arr .u16 256 (noF xs 2))) ∧ Past w w' := by
  have HB := Lib.hid (fun w' (h : Past w w') => rbits_any A 128 c xs w' (hS.past h) (by decide))
  obtain ⟨g, hg⟩ : ∃ g, w.heap.size = g := ⟨_, rfl⟩
  obtain ⟨w1, hw1⟩ : ∃ w', w.alloc (.cells (arr .u16 256 fun _ => 0) 29) = w' := ⟨_, rfl⟩
  have HP1 : Hid (Past w w1) := Lib.hid (by rw [← hw1]; exact (Below.refl _ _).alloc (Nat.le_refl _) _)
  have HR1 : Hid (Row w1 g 29 (arr .u16 256 fun _ => 0)) := Lib.hid (by rw [← hw1, ← hg]; exact Row.new _ _ _)
  have HZ := Lib.hid zero256
  have HA := Lib.hid (arr_one .u16 256 (noF xs 2))
  have HSZ : Hid ((arr .u16 256 fun _ => 0).size = (arr .u16 256 (noF xs 2)).size) := Lib.hid (by rw [arr_size, arr_size])
  have HI := Lib.hid (inf256 (noF xs 2))
  have HW1 := Lib.hid hw1
  have HG := Lib.hid hg
  clear hS hw1 hg
  go_enter Tryz.func8, Tryz.ntmps8
  have hz := HZ.out
  go_upto_region 1 with (fail)
  rw [HW1.out]
  try rw [HG.out]
  clear HW1 hz
  go_wp2_with fail
  refine (HB.out w1 HP1.out).mono ?_
  rintro r w2 ⟨v, rfl, hown, hp⟩
  have hown' : w2.ownsRow w1.heap.size 3 1 v 1024 ((lbits xs 1024).map (Value.int .i64)) := hown
  obtain ⟨gb, cap, rfl, hgb, hgl, hcells⟩ := own_some hown' (by decide)
  obtain ⟨cur, hrow, _, hcap1, hcap2, hcs, htk, htl⟩ := own_row15 hown'
  have HC : Hid (∀ j, j < 1024 → cur[j]? = some (.int .i64 (lbit xs j))) := Lib.hid (fun j hj => by
    have h1 : (cur.toList.take 1024)[j]? = some (.int .i64 (lbit xs j)) := by
      rw [htk]
      simp [lbits, hj]
    rw [List.getElem?_take_of_lt hj, Array.getElem?_toList] at h1
    exact h1)
  have HP2 : Hid (Past w w2) := Lib.hid (HP1.out.trans' hp)
  have HRG : Hid (Row w2 g 29 (arr .u16 256 fun _ => 0)) := Lib.hid (HR1.out.past hp)
  have HRB : Hid (Row w2 gb 3 cur ∧ gb < w2.heap.size ∧ g < w2.heap.size ∧ g ≠ gb) := Lib.hid ⟨hrow, hgl, (HR1.out.past hp).lt, by have := HR1.out.lt; omega⟩
  have HCAP : Hid ((1024 : Int) ≤ (cap : Int)) := Lib.hid (by omega)
  clear hown hown' hp hgb hgl hcells hrow hcap1 hcap2 hcs htk htl HB
  go_upto_region 2 with (fail)
  obtain ⟨w3, hw3⟩ : ∃ w', w2.alloc (.cells (arr .u16 256 fun _ => 0) 29) = w' := ⟨_, rfl⟩
  obtain ⟨u, hu⟩ : ∃ u, w2.heap.size = u := ⟨_, rfl⟩
  have HU : Hid (g < u ∧ gb < u ∧ w.heap.size ≤ u) := Lib.hid (by have h1 := HRB.out; have h2 := HP2.out.size; omega)
  have H0 : Hid (Fx [(g, 29, arr .u16 256 fun _ => 0), (gb, 3, cur)] .u16 256 w w3 u 29 fun _ => 0) := Lib.hid (by
    rw [← hw3, ← hu]
    refine ⟨HP2.out.alloc HP2.out.size _, ?_, Row.new _ _ _⟩
    intro x hx
    rcases List.mem_cons.1 hx with rfl | hx
    · exact HRG.out.alloc _
    · rcases List.mem_cons.1 hx with rfl | hx
      · exact HRB.out.1.alloc _
      · cases hx)
  have HW3 := Lib.hid hw3
  have hz := HZ.out
  clear hw3
  go_upto_region 3 with (fail)
  try rw [HW3.out]
  try rw [hu]
  clear HW3 hz hu HRB
  go_wp2_with fail
  go_loopg [7] 256 (fun q s7 wx => ∃ i : Nat, i ≤ 256 ∧ q = 256 - i ∧ s7 = .int .i64 (i : Int) ∧ Hid (∃ F, Fx [(g, 29, arr .u16 256 fun _ => 0), (gb, 3, cur)] .u16 256 w wx u 29 F ∧ ∀ j, j < i → F j = noF xs 2 j))
  case atStart => exact ⟨0, Nat.zero_le _, rfl, rfl, Lib.hid ⟨_, H0.out, fun j hj => absurd hj (by omega)⟩⟩
  case round =>
    clear H0
    obtain ⟨i, hi, hq, rfl, HQ⟩ := hrel
    generalize wr = wo at *
    have HGQ := Lib.hid hq
    clear hq
    have hi0 : (0 : Int) ≤ (i : Int) := by omega
    by_cases hlt : i < 256
    · have hii : (i : Int) < 256 := by omega
      have HLT := Lib.hid hlt
      have HSN := Lib.hid (sumF_no xs 2 i)
      clear hi
      go_wp2_with fail
      go_loopg [8, 9] 2 (fun q s8 s9 wx => ∃ (k : Nat) (v : Int), k ≤ 2 ∧ q = 2 - k ∧ s8 = .int .i64 v ∧ s9 = .int .i64 (k : Int) ∧ 3326 ≤ v ∧ v ≤ 3332 ∧ Hid (v = sumF xs 2 i k) ∧ Hid (∃ m, wx = wo.drewN m))
      case atStart => exact ⟨0, 3329, Nat.zero_le _, rfl, rfl, rfl, by decide, by decide, Lib.hid rfl, Lib.hid ⟨0, rfl⟩⟩
      case round =>
        obtain ⟨k, v, hk, hq, rfl, rfl, v0, v1, HV, HWX⟩ := hrel
        have HGQ2 := Lib.hid hq
        clear hq
        have hk0 : (0 : Int) ≤ (k : Int) := by omega
        by_cases hlt2 : k < 2
        · have hkk : (k : Int) < 2 := by omega
          have HLT2 := Lib.hid hlt2
          obtain ⟨F, hT, _⟩ := HQ.out
          have hrb := hT.2.1 (gb, 3, cur) (by simp)
          obtain ⟨p, hp⟩ : ∃ p, 4 * i = p := ⟨_, rfl⟩
          obtain ⟨p1, hp1⟩ : ∃ p1, p + k = p1 := ⟨_, rfl⟩
          obtain ⟨p2, hp2⟩ : ∃ p2, p + 2 = p2 := ⟨_, rfl⟩
          obtain ⟨p3, hp3⟩ : ∃ p3, p2 + k = p3 := ⟨_, rfl⟩
          have hb1 : p1 < 1024 := by have := HLT.out; omega
          have hb3 : p3 < 1024 := by have := HLT.out; omega
          have k1 : wr.cell? ⟨gb, p1, none⟩ = some (.int .i64 (lbit xs p1)) := by obtain ⟨m, hm⟩ := HWX.out; rw [hm]; exact (hrb.cell p1).trans (HC.out p1 hb1)
          have k3 : wr.cell? ⟨gb, p3, none⟩ = some (.int .i64 (lbit xs p3)) := by obtain ⟨m, hm⟩ := HWX.out; rw [hm]; exact (hrb.cell p3).trans (HC.out p3 hb3)
          have HWY : Hid (∃ m, wr.drew = wo.drewN m) := Lib.hid (by obtain ⟨m, hm⟩ := HWX.out; exact ⟨m + 1, by rw [hm]; rfl⟩)
          have HS : Hid (sumF xs 2 i (k + 1) = v + lbit xs p1 - lbit xs p3) := Lib.hid (by
            rw [HV.out, ← hp3, ← hp2, ← hp1, ← hp]
            show sumF xs 2 i k + lbit xs (2 * 2 * i + k) - lbit xs (2 * 2 * i + 2 + k) = _
            rw [show 2 * 2 * i = 4 * i by omega])
          have HSR := Lib.hid (sumF_rng xs 2 i (k + 1) (by omega))
          have b1 := lbit_rng xs p1
          have b3 := lbit_rng xs p3
          generalize lbit xs p1 = x1 at *
          generalize lbit xs p3 = x3 at *
          obtain ⟨va, hva⟩ : ∃ x, v + x1 = x := ⟨_, rfl⟩
          obtain ⟨vb, hvb⟩ : ∃ x, va - x3 = x := ⟨_, rfl⟩
          rw [hva, hvb] at HS
          rw [HS.out] at HSR
          have HWA : Hid (IntKind.i64.wrap (4 * (i : Int)) = (p : Int) ∧ wrap64 (p : Int) = (p : Int) ∧ IntKind.i64.wrap ((p : Int) + (k : Int)) = (p1 : Int) ∧ wrap64 (p1 : Int) = (p1 : Int) ∧ IntKind.i64.wrap ((p : Int) + 2) = (p2 : Int) ∧ wrap64 (p2 : Int) = (p2 : Int) ∧ IntKind.i64.wrap ((p2 : Int) + (k : Int)) = (p3 : Int) ∧ wrap64 (p3 : Int) = (p3 : Int)
              ∧ IntKind.i64.wrap (v + x1) = va ∧ wrap64 va = va ∧ IntKind.i64.wrap (va - x3) = vb ∧ wrap64 vb = vb ∧ (0 : Int) ≤ (p1 : Int) ∧ (p1 : Int) < 1024 ∧ (0 : Int) ≤ (p3 : Int) ∧ (p3 : Int) < 1024) := Lib.hid ⟨by rw [IntKind.wrap_i64]; omega, IntWalk.wrap64_in _ (by omega), by rw [IntKind.wrap_i64]; omega, IntWalk.wrap64_in _ (by omega), by rw [IntKind.wrap_i64]; omega, IntWalk.wrap64_in _ (by omega), by rw [IntKind.wrap_i64]; omega, IntWalk.wrap64_in _ (by omega), by rw [IntKind.wrap_i64]; omega, IntWalk.wrap64_in _ (by omega), by rw [IntKind.wrap_i64]; omega, IntWalk.wrap64_in _ (by omega), by omega, by omega, by omega, by omega⟩
          have HNK : Hid (wrap64 ((k : Int) + 1) = ((k + 1 : Nat) : Int)) := Lib.hid (by rw [IntWalk.wrap64_in _ (by omega)]; omega)
          clear hT hrb hp hp1 hp2 hp3 hb1 hb3 hva hvb b1 b3 v0 v1 hk hlt2
          obtain ⟨h1, h2, h3, h4, h5, h6, h7, h8, h9, h10, h11, h12, h13, h14, h15, h16⟩ := HWA.out
          go_wp2_with fail
          go_region
          clear h1 h2 h3 h4 h5 h6 h7 h8 h9 h10 h11 h12 h13 h14 h15 h16 k1 k3
          go_wp2_with fail
          go_roundg (2 - (k + 1))
          case rel => exact ⟨k + 1, vb, HLT2.out, rfl, rfl, by first | exact congrArg (Value.int .i64) HNK.out | go_num, HSR.out.1, HSR.out.2, Lib.hid HS.out.symm, HWY⟩
          case measure => have := HGQ2.out; have := HLT2.out; omega
        · obtain rfl : k = 2 := by omega
          have hkk : ¬ ((2 : Nat) : Int) < 2 := by omega
          obtain ⟨F, hT, hF⟩ := HQ.out
          obtain ⟨m, hWX⟩ := HWX.out
          have hT := hT.drewN m
          have hc1 := hT.2.2.at i HLT.out
          have hf1 := hT.2.2.fr i
          have hT1 := hT.put HU.out.2.2 (by intro x hx; have := HU.out; simp at hx; rcases hx with rfl | rfl <;> simp <;> omega) i HLT.out (noF xs 2 i)
          have HT2 := Lib.hid (show ∃ F', Fx _ _ _ _ _ _ _ F' ∧ ∀ j, j < i + 1 → F' j = noF xs 2 j from ⟨_, hT1, fun j hj => by
            by_cases e1 : j = i
            · subst e1; rw [upd_at]
            · rw [upd_ne _ _ e1]; exact hF j (by omega)⟩)
          rw [← hWX] at hc1 hf1 HT2
          rw [← HSN.out, ← HV.out] at HT2
          obtain ⟨y, hy⟩ : ∃ y, v % 3329 = y := ⟨_, rfl⟩
          rw [hy] at HT2
          have hyb : 0 ≤ y ∧ y < 3329 := by omega
          obtain ⟨y0, y1⟩ := hyb
          clear hT hF hT1 hWX HQ hkk
          go_wp2_with fail
          go_roundg (256 - (i + 1))
          case rel => exact ⟨i + 1, HLT.out, rfl, by go_num, HT2⟩
          case measure => have := HGQ.out; have := HLT.out; omega
    · obtain rfl : i = 256 := by omega
      obtain ⟨F, hT, hF⟩ := HQ.out
      have he : arr .u16 256 F = arr .u16 256 (noF xs 2) := arr_ext fun j hj => hF j (by omega)
      have hr2 := hT.2.2
      have hr1 := hT.2.1 (g, 29, arr .u16 256 fun _ => 0) (by simp)
      unfold LM at hr2
      rw [he] at hr2
      have hi2 := HI.out
      have hs2 := HSZ.out
      have ho2 := HA.out
      have HP := Lib.hid hT.1
      clear hT hF he HQ
      generalize hcc : arr .u16 256 (noF xs 2) = c2 at *
      have HCC := Lib.hid hcc
      clear hcc
      generalize arr .u16 256 (fun _ => 0) = c1 at *
      simp only at hr1
      go_wp2_with (first | (refine wpList_load_row rfl 29 _ rfl u rfl _ _ (0, 0) _ hr2 Tryz.underlying29 rfl hi2 ?_) | (refine wpList_store_row rfl 29 _ _ rfl g _ rfl rfl _ _ hr1 hi2 hs2 ho2 ?_))
      refine bodyPost_ret (results_cell_row rfl _ _ g _ c2 (0, 0) _ rfl (setRow_heap _ g c1 c2 _ _ hr1) Tryz.underlying29 rfl hi2) rfl ?_
      exact ⟨by rw [HCC.out], below_setRow HP.out (by have := HG.out; omega) _⟩
set_option maxHeartbeats 4000000 in
theorem rnoise3_any (A : Option Addr) (c : Nat) (xs : List Int) (w : World) (hS : Sl w A 192 c xs) :
    Calls Tryz.prog 8 #[.int .i64 3, .slice A 192 c] w fun r w' => r = .returned (.agg (arr .u16 256 (noF xs 3))) ∧ Past w w' := by
  have HB := Lib.hid (fun w' (h : Past w w') => rbits_any A 192 c xs w' (hS.past h) (by decide))
  obtain ⟨g, hg⟩ : ∃ g, w.heap.size = g := ⟨_, rfl⟩
  obtain ⟨w1, hw1⟩ : ∃ w', w.alloc (.cells (arr .u16 256 fun _ => 0) 29) = w' := ⟨_, rfl⟩
  have HP1 : Hid (Past w w1) := Lib.hid (by rw [← hw1]; exact (Below.refl _ _).alloc (Nat.le_refl _) _)
  have HR1 : Hid (Row w1 g 29 (arr .u16 256 fun _ => 0)) := Lib.hid (by rw [← hw1, ← hg]; exact Row.new _ _ _)
  have HZ := Lib.hid zero256
  have HA := Lib.hid (arr_one .u16 256 (noF xs 3))
  have HSZ : Hid ((arr .u16 256 fun _ => 0).size = (arr .u16 256 (noF xs 3)).size) := Lib.hid (by rw [arr_size, arr_size])
  have HI := Lib.hid (inf256 (noF xs 3))
  have HW1 := Lib.hid hw1
  have HG := Lib.hid hg
  clear hS hw1 hg
  go_enter Tryz.func8, Tryz.ntmps8
  have hz := HZ.out
  go_upto_region 1 with (fail)
  rw [HW1.out]
  try rw [HG.out]
  clear HW1 hz
  go_wp2_with fail
  refine (HB.out w1 HP1.out).mono ?_
  rintro r w2 ⟨v, rfl, hown, hp⟩
  have hown' : w2.ownsRow w1.heap.size 3 1 v 1536 ((lbits xs 1536).map (Value.int .i64)) := hown
  obtain ⟨gb, cap, rfl, hgb, hgl, hcells⟩ := own_some hown' (by decide)
  obtain ⟨cur, hrow, _, hcap1, hcap2, hcs, htk, htl⟩ := own_row15 hown'
  have HC : Hid (∀ j, j < 1536 → cur[j]? = some (.int .i64 (lbit xs j))) := Lib.hid (fun j hj => by
    have h1 : (cur.toList.take 1536)[j]? = some (.int .i64 (lbit xs j)) := by
      rw [htk]
      simp [lbits, hj]
    rw [List.getElem?_take_of_lt hj, Array.getElem?_toList] at h1
    exact h1)
  have HP2 : Hid (Past w w2) := Lib.hid (HP1.out.trans' hp)
  have HRG : Hid (Row w2 g 29 (arr .u16 256 fun _ => 0)) := Lib.hid (HR1.out.past hp)
  have HRB : Hid (Row w2 gb 3 cur ∧ gb < w2.heap.size ∧ g < w2.heap.size ∧ g ≠ gb) := Lib.hid ⟨hrow, hgl, (HR1.out.past hp).lt, by have := HR1.out.lt; omega⟩
  have HCAP : Hid ((1536 : Int) ≤ (cap : Int)) := Lib.hid (by omega)
  clear hown hown' hp hgb hgl hcells hrow hcap1 hcap2 hcs htk htl HB
  go_upto_region 2 with (fail)
  obtain ⟨w3, hw3⟩ : ∃ w', w2.alloc (.cells (arr .u16 256 fun _ => 0) 29) = w' := ⟨_, rfl⟩
  obtain ⟨u, hu⟩ : ∃ u, w2.heap.size = u := ⟨_, rfl⟩
  have HU : Hid (g < u ∧ gb < u ∧ w.heap.size ≤ u) := Lib.hid (by have h1 := HRB.out; have h2 := HP2.out.size; omega)
  have H0 : Hid (Fx [(g, 29, arr .u16 256 fun _ => 0), (gb, 3, cur)] .u16 256 w w3 u 29 fun _ => 0) := Lib.hid (by
    rw [← hw3, ← hu]
    refine ⟨HP2.out.alloc HP2.out.size _, ?_, Row.new _ _ _⟩
    intro x hx
    rcases List.mem_cons.1 hx with rfl | hx
    · exact HRG.out.alloc _
    · rcases List.mem_cons.1 hx with rfl | hx
      · exact HRB.out.1.alloc _
      · cases hx)
  have HW3 := Lib.hid hw3
  have hz := HZ.out
  clear hw3
  go_upto_region 3 with (fail)
  try rw [HW3.out]
  try rw [hu]
  clear HW3 hz hu HRB
  go_wp2_with fail
  go_loopg [7] 256 (fun q s7 wx => ∃ i : Nat, i ≤ 256 ∧ q = 256 - i ∧ s7 = .int .i64 (i : Int) ∧ Hid (∃ F, Fx [(g, 29, arr .u16 256 fun _ => 0), (gb, 3, cur)] .u16 256 w wx u 29 F ∧ ∀ j, j < i → F j = noF xs 3 j))
  case atStart => exact ⟨0, Nat.zero_le _, rfl, rfl, Lib.hid ⟨_, H0.out, fun j hj => absurd hj (by omega)⟩⟩
  case round =>
    clear H0
    obtain ⟨i, hi, hq, rfl, HQ⟩ := hrel
    generalize wr = wo at *
    have HGQ := Lib.hid hq
    clear hq
    have hi0 : (0 : Int) ≤ (i : Int) := by omega
    by_cases hlt : i < 256
    · have hii : (i : Int) < 256 := by omega
      have HLT := Lib.hid hlt
      have HSN := Lib.hid (sumF_no xs 3 i)
      clear hi
      go_wp2_with fail
      go_loopg [8, 9] 3 (fun q s8 s9 wx => ∃ (k : Nat) (v : Int), k ≤ 3 ∧ q = 3 - k ∧ s8 = .int .i64 v ∧ s9 = .int .i64 (k : Int) ∧ 3326 ≤ v ∧ v ≤ 3332 ∧ Hid (v = sumF xs 3 i k) ∧ Hid (∃ m, wx = wo.drewN m))
      case atStart => exact ⟨0, 3329, Nat.zero_le _, rfl, rfl, rfl, by decide, by decide, Lib.hid rfl, Lib.hid ⟨0, rfl⟩⟩
      case round =>
        obtain ⟨k, v, hk, hq, rfl, rfl, v0, v1, HV, HWX⟩ := hrel
        have HGQ2 := Lib.hid hq
        clear hq
        have hk0 : (0 : Int) ≤ (k : Int) := by omega
        by_cases hlt2 : k < 3
        · have hkk : (k : Int) < 3 := by omega
          have HLT2 := Lib.hid hlt2
          obtain ⟨F, hT, _⟩ := HQ.out
          have hrb := hT.2.1 (gb, 3, cur) (by simp)
          obtain ⟨p, hp⟩ : ∃ p, 6 * i = p := ⟨_, rfl⟩
          obtain ⟨p1, hp1⟩ : ∃ p1, p + k = p1 := ⟨_, rfl⟩
          obtain ⟨p2, hp2⟩ : ∃ p2, p + 3 = p2 := ⟨_, rfl⟩
          obtain ⟨p3, hp3⟩ : ∃ p3, p2 + k = p3 := ⟨_, rfl⟩
          have hb1 : p1 < 1536 := by have := HLT.out; omega
          have hb3 : p3 < 1536 := by have := HLT.out; omega
          have k1 : wr.cell? ⟨gb, p1, none⟩ = some (.int .i64 (lbit xs p1)) := by obtain ⟨m, hm⟩ := HWX.out; rw [hm]; exact (hrb.cell p1).trans (HC.out p1 hb1)
          have k3 : wr.cell? ⟨gb, p3, none⟩ = some (.int .i64 (lbit xs p3)) := by obtain ⟨m, hm⟩ := HWX.out; rw [hm]; exact (hrb.cell p3).trans (HC.out p3 hb3)
          have HWY : Hid (∃ m, wr.drew = wo.drewN m) := Lib.hid (by obtain ⟨m, hm⟩ := HWX.out; exact ⟨m + 1, by rw [hm]; rfl⟩)
          have HS : Hid (sumF xs 3 i (k + 1) = v + lbit xs p1 - lbit xs p3) := Lib.hid (by
            rw [HV.out, ← hp3, ← hp2, ← hp1, ← hp]
            show sumF xs 3 i k + lbit xs (2 * 3 * i + k) - lbit xs (2 * 3 * i + 3 + k) = _
            rw [show 2 * 3 * i = 6 * i by omega])
          have HSR := Lib.hid (sumF_rng xs 3 i (k + 1) (by omega))
          have b1 := lbit_rng xs p1
          have b3 := lbit_rng xs p3
          generalize lbit xs p1 = x1 at *
          generalize lbit xs p3 = x3 at *
          obtain ⟨va, hva⟩ : ∃ x, v + x1 = x := ⟨_, rfl⟩
          obtain ⟨vb, hvb⟩ : ∃ x, va - x3 = x := ⟨_, rfl⟩
          rw [hva, hvb] at HS
          rw [HS.out] at HSR
          have HWA : Hid (IntKind.i64.wrap (6 * (i : Int)) = (p : Int) ∧ wrap64 (p : Int) = (p : Int) ∧ IntKind.i64.wrap ((p : Int) + (k : Int)) = (p1 : Int) ∧ wrap64 (p1 : Int) = (p1 : Int) ∧ IntKind.i64.wrap ((p : Int) + 3) = (p2 : Int) ∧ wrap64 (p2 : Int) = (p2 : Int) ∧ IntKind.i64.wrap ((p2 : Int) + (k : Int)) = (p3 : Int) ∧ wrap64 (p3 : Int) = (p3 : Int)
              ∧ IntKind.i64.wrap (v + x1) = va ∧ wrap64 va = va ∧ IntKind.i64.wrap (va - x3) = vb ∧ wrap64 vb = vb ∧ (0 : Int) ≤ (p1 : Int) ∧ (p1 : Int) < 1536 ∧ (0 : Int) ≤ (p3 : Int) ∧ (p3 : Int) < 1536) := Lib.hid ⟨by rw [IntKind.wrap_i64]; omega, IntWalk.wrap64_in _ (by omega), by rw [IntKind.wrap_i64]; omega, IntWalk.wrap64_in _ (by omega), by rw [IntKind.wrap_i64]; omega, IntWalk.wrap64_in _ (by omega), by rw [IntKind.wrap_i64]; omega, IntWalk.wrap64_in _ (by omega), by rw [IntKind.wrap_i64]; omega, IntWalk.wrap64_in _ (by omega), by rw [IntKind.wrap_i64]; omega, IntWalk.wrap64_in _ (by omega), by omega, by omega, by omega, by omega⟩
          have HNK : Hid (wrap64 ((k : Int) + 1) = ((k + 1 : Nat) : Int)) := Lib.hid (by rw [IntWalk.wrap64_in _ (by omega)]; omega)
          clear hT hrb hp hp1 hp2 hp3 hb1 hb3 hva hvb b1 b3 v0 v1 hk hlt2
          obtain ⟨h1, h2, h3, h4, h5, h6, h7, h8, h9, h10, h11, h12, h13, h14, h15, h16⟩ := HWA.out
          go_wp2_with fail
          go_region
          clear h1 h2 h3 h4 h5 h6 h7 h8 h9 h10 h11 h12 h13 h14 h15 h16 k1 k3
          go_wp2_with fail
          go_roundg (3 - (k + 1))
          case rel => exact ⟨k + 1, vb, HLT2.out, rfl, rfl, by first | exact congrArg (Value.int .i64) HNK.out | go_num, HSR.out.1, HSR.out.2, Lib.hid HS.out.symm, HWY⟩
          case measure => have := HGQ2.out; have := HLT2.out; omega
        · obtain rfl : k = 3 := by omega
          have hkk : ¬ ((3 : Nat) : Int) < 3 := by omega
          obtain ⟨F, hT, hF⟩ := HQ.out
          obtain ⟨m, hWX⟩ := HWX.out
          have hT := hT.drewN m
          have hc1 := hT.2.2.at i HLT.out
          have hf1 := hT.2.2.fr i
          have hT1 := hT.put HU.out.2.2 (by intro x hx; have := HU.out; simp at hx; rcases hx with rfl | rfl <;> simp <;> omega) i HLT.out (noF xs 3 i)
          have HT2 := Lib.hid (show ∃ F', Fx _ _ _ _ _ _ _ F' ∧ ∀ j, j < i + 1 → F' j = noF xs 3 j from ⟨_, hT1, fun j hj => by
            by_cases e1 : j = i
            · subst e1; rw [upd_at]
            · rw [upd_ne _ _ e1]; exact hF j (by omega)⟩)
          rw [← hWX] at hc1 hf1 HT2
          rw [← HSN.out, ← HV.out] at HT2
          obtain ⟨y, hy⟩ : ∃ y, v % 3329 = y := ⟨_, rfl⟩
          rw [hy] at HT2
          have hyb : 0 ≤ y ∧ y < 3329 := by omega
          obtain ⟨y0, y1⟩ := hyb
          clear hT hF hT1 hWX HQ hkk
          go_wp2_with fail
          go_roundg (256 - (i + 1))
          case rel => exact ⟨i + 1, HLT.out, rfl, by go_num, HT2⟩
          case measure => have := HGQ.out; have := HLT.out; omega
    · obtain rfl : i = 256 := by omega
      obtain ⟨F, hT, hF⟩ := HQ.out
      have he : arr .u16 256 F = arr .u16 256 (noF xs 3) := arr_ext fun j hj => hF j (by omega)
      have hr2 := hT.2.2
      have hr1 := hT.2.1 (g, 29, arr .u16 256 fun _ => 0) (by simp)
      unfold LM at hr2
      rw [he] at hr2
      have hi2 := HI.out
      have hs2 := HSZ.out
      have ho2 := HA.out
      have HP := Lib.hid hT.1
      clear hT hF he HQ
      generalize hcc : arr .u16 256 (noF xs 3) = c2 at *
      have HCC := Lib.hid hcc
      clear hcc
      generalize arr .u16 256 (fun _ => 0) = c1 at *
      simp only at hr1
      go_wp2_with (first | (refine wpList_load_row rfl 29 _ rfl u rfl _ _ (0, 0) _ hr2 Tryz.underlying29 rfl hi2 ?_) | (refine wpList_store_row rfl 29 _ _ rfl g _ rfl rfl _ _ hr1 hi2 hs2 ho2 ?_))
      refine bodyPost_ret (results_cell_row rfl _ _ g _ c2 (0, 0) _ rfl (setRow_heap _ g c1 c2 _ _ hr1) Tryz.underlying29 rfl hi2) rfl ?_
      exact ⟨by rw [HCC.out], below_setRow HP.out (by have := HG.out; omega) _⟩
end Go.Proofs.YtalhdalmafhofaaGreatDoor
