/- Matrix's closure. -/
import Derived.Test.YtalhdalmafhofaaGreatDoorCc16
import Derived.Test.YtalhdalmafhofaaGreatDoorRow16B
import Derived.Test.YtalhdalmafhofaaGreatDoorUn16B
namespace Go.Proofs.YtalhdalmafhofaaGreatDoor
open Go.RowKit
set_option linter.unusedVariables false
set_option maxRecDepth 100000

/-- Two slices in a literal: xs, and two bytes. -/
theorem sls_two (w1 : World) (A : Option Addr) (n c : Nat) (xs : List Int) (a b : Int) (ha : 0 ≤ a ∧ a < 256) (hb : 0 ≤ b ∧ b < 256) (hS : Sl w1 A n c xs) :
    ∃ V C X, Sls ((w1.alloc (.cells #[.int .u8 a, .int .u8 b] 5)).alloc (.cells #[.slice A n c, .slice (some ⟨w1.heap.size, 0, none⟩) 2 2] 25)) (some ⟨w1.heap.size + 1, 0, none⟩) 2 2 V C X ∧ cat X 2 = xs ++ [a, b] := by
  obtain ⟨w2, hw2⟩ : ∃ w', w1.alloc (.cells #[.int .u8 a, .int .u8 b] 5) = w' := ⟨_, rfl⟩
  have hp2 : Past w1 w2 := by rw [← hw2]; exact (Below.refl _ _).alloc (Nat.le_refl _) _
  have hs2 : w2.heap.size = w1.heap.size + 1 := by rw [← hw2]; simp [World.size_alloc]
  have hr2 : Row w2 w1.heap.size 5 #[.int .u8 a, .int .u8 b] := by rw [← hw2]; exact Row.new _ _ _
  rw [hw2]
  obtain ⟨w3, hw3⟩ : ∃ w', w2.alloc (.cells #[.slice A n c, .slice (some ⟨w1.heap.size, 0, none⟩) 2 2] 25) = w' := ⟨_, rfl⟩
  have hp3 : Past w2 w3 := by rw [← hw3]; exact (Below.refl _ _).alloc (Nat.le_refl _) _
  have hr3 : Row w3 (w1.heap.size + 1) 25 #[.slice A n c, .slice (some ⟨w1.heap.size, 0, none⟩) 2 2] := by rw [← hw3, ← hs2]; exact Row.new _ _ _
  rw [hw3]
  refine ⟨fun k => if k = 0 then A else some ⟨w1.heap.size, 0, none⟩, fun k => if k = 0 then c else 2, fun k => if k = 0 then xs else [a, b], ⟨Nat.le_refl _, by unfold maxLen; omega, (fun e => by cases e), fun _ => ⟨_, 0, rfl, fun k hk => ?_⟩⟩, ?_⟩
  · have hSA := (hS.past hp2).past hp3
    have hSB : Sl w3 (some ⟨w1.heap.size, 0, none⟩) 2 2 [a, b] := by
      have ho := World.ownsRow_lit (base := w1.heap.size) (e := 5) (size := 1) w1 #[.int .u8 a, .int .u8 b] 2 (Nat.le_refl _) (by unfold maxLen; omega) rfl
      rw [hw2] at ho
      refine (Sl.of_own (xs := [a, b]) ho ?_).past hp3
      intro x hx
      simp at hx
      rcases hx with rfl | rfl
      · exact ha
      · exact hb
    have hl := hSA.len
    rcases (show k = 0 ∨ k = 1 by omega) with rfl | rfl
    · refine ⟨?_, ?_⟩
      · rw [hr3.cell]; simp [hl]
      · simp only [if_pos]; rw [hl]; exact hSA
    · refine ⟨?_, ?_⟩
      · rw [hr3.cell]; simp
      · exact hSB
  · simp [cat, List.range, List.range.loop]
set_option maxHeartbeats 2000000 in
theorem mcell_any (j i : Nat) (g1 g2 : Nat) (A : Option Addr) (n c : Nat) (xs : List Int) (w : World) (h1 : Row w g1 25 #[.slice A n c]) (h2 : Row w g2 3 #[.int .i64 (i : Int)]) (hS : Sl w A n c xs) (hn : n ≤ 100) (hj : j < 256) (hi : i < 256) (hu : UOk (xs ++ [(j : Int), (i : Int)])) :
    Calls Tryz.prog 28 #[.int .i64 (j : Int), .pointer (some ⟨g1, 0, none⟩), .pointer (some ⟨g2, 0, none⟩)] w (MkP w) := by
  obtain ⟨vl, hvl⟩ : ∃ vl : Nat, vl = 256 := ⟨_, rfl⟩
  have hz := zeroP
  obtain ⟨cz, hcz⟩ : ∃ cz, arr .u16 256 (fun _ => 0) = cz := ⟨_, rfl⟩
  have HCZ := Lib.hid hcz
  rw [hcz] at hz
  have HZ := Lib.hid hz
  clear hcz
  obtain ⟨g, hg⟩ : ∃ g, w.heap.size = g := ⟨_, rfl⟩
  obtain ⟨w1, hw1⟩ : ∃ w', w.alloc (.cells cz 30) = w' := ⟨_, rfl⟩
  have hp1 : Past w w1 := by rw [← hw1]; exact (Below.refl _ _).alloc (Nat.le_refl _) _
  have hr1 : Row w1 g 30 cz := by rw [← hw1, ← hg]; exact Row.new _ _ _
  have H1 := Lib.hid (And.intro hp1 hr1)
  have HB := Lib.hid (And.intro (h1.past hp1) (h2.past hp1))
  have HS := Lib.hid (hS.past hp1)
  have k1 := (h1.past hp1).cell 0
  have k2 := (h2.past hp1).cell 0
  have HW1 := Lib.hid hw1
  have HG := Lib.hid hg
  have HU := Lib.hid hu
  clear h1 h2 hS hu hp1 hr1 hw1 hg
  have hwj : IntKind.u8.wrap (j : Int) = (j : Int) := by rw [IntKind.wrap_u8]; omega
  have hwi : IntKind.u8.wrap (i : Int) = (i : Int) := by rw [IntKind.wrap_u8]; omega
  go_enter Tryz.func28, Tryz.ntmps28
  go_upto_region 1 with (fail)
  rw [HW1.out]
  try rw [HG.out]
  clear HW1 hz
  go_wp2_with fail
  obtain ⟨V, C, X, hX, hcat⟩ := sls_two w1 A n c xs (j : Int) (i : Int) ⟨by omega, by omega⟩ ⟨by omega, by omega⟩ HS.out
  obtain ⟨w2, hw2⟩ : ∃ w', (w1.alloc (.cells #[.int .u8 (j : Int), .int .u8 (i : Int)] 5)).alloc (.cells #[.slice A n c, .slice (some ⟨w1.heap.size, 0, none⟩) 2 2] 25) = w' := ⟨_, rfl⟩
  rw [hw2] at hX ⊢
  have hp2 : Past w1 w2 := by rw [← hw2]; exact ((Below.refl _ _).alloc (Nat.le_refl _) _).alloc (by simp) _
  have hL : (xs ++ [(j : Int), (i : Int)]).length = n + 2 := by rw [List.length_append, ← HS.out.len]; rfl
  have H2 : Hid (Past w w2 ∧ Row w2 g 30 cz) := Lib.hid ⟨H1.out.1.trans' hp2, H1.out.2.past hp2⟩
  have HCC := concat_any _ 2 2 V C X w2 hX (by omega) (by rw [hcat, hL]; omega)
  rw [hcat] at HCC
  obtain ⟨ys, hys⟩ : ∃ ys, xs ++ [(j : Int), (i : Int)] = ys := ⟨_, rfl⟩
  rw [hys] at HCC HU hL
  clear hX hcat hw2 hys k1 k2 HS HB H1 hp2
  have HLN := Lib.hid hL
  clear hL
  refine HCC.mono ?_
  rintro e w3 ⟨v, rfl, hown, hrg, hp⟩
  obtain ⟨A3, c3, rfl⟩ := own_slice hown
  have HS3 := Lib.hid (Sl.of_own hown hrg)
  have H3 : Hid (Past w w3 ∧ Row w3 g 30 cz) := Lib.hid ⟨H2.out.1.trans' hp, H2.out.2.past hp⟩
  clear HCC hown hrg hp H2
  go_wp2_with fail
  refine (uniform_any A3 ys.length c3 ys w3 HS3.out (by rw [HLN.out]; omega) HU.out).mono ?_
  rintro e w4 ⟨F, v, rfl, hF, hp⟩
  have H4 : Hid (Past w w4 ∧ Row w4 g 30 cz) := Lib.hid ⟨H3.out.1.trans' hp, H3.out.2.past hp⟩
  have HF := Lib.hid hF
  clear hF hp H3 HS3 HLN HU
  have hi2 := infP F
  have ho2 := arr_one .u16 256 F
  have hs2 : cz.size = (arr .u16 256 F).size := by rw [← HCZ.out, arr_size, arr_size]
  obtain ⟨cf, hcf⟩ : ∃ cf, arr .u16 256 F = cf := ⟨_, rfl⟩
  have HCF := Lib.hid hcf
  rw [hcf] at hi2 ho2 hs2 ⊢
  clear hcf
  have hz := HZ.out
  have HGL : Hid (w.heap.size ≤ g ∧ g < w4.heap.size) := Lib.hid ⟨by have := HG.out; omega, H4.out.2.lt⟩
  have hA : Row (w4.alloc (.cells cz 30)) w4.heap.size 30 cz := Row.new _ _ _
  have hB : Row ((w4.alloc (.cells cz 30)).setRow w4.heap.size cf) w4.heap.size 30 cf := setRow_heap _ _ _ _ _ _ hA
  have hC : Row ((w4.alloc (.cells cz 30)).setRow w4.heap.size cf) g 30 cz := (setRow_other _ _ _ _ (by have := HGL.out; omega)).trans (H4.out.2.alloc _)
  have HPW : Hid (Past w ((w4.alloc (.cells cz 30)).setRow w4.heap.size cf)) := Lib.hid (below_setRow (H4.out.1.alloc H4.out.1.size _) H4.out.1.size _)
  unfold Row at hA hB hC
  obtain ⟨k, hk⟩ : ∃ k, w4.heap.size = k := ⟨_, rfl⟩
  rw [hk] at hA hB hC HPW
  clear H4 hwj hwi hj hi hn hvl
  go_wp2_with (first | (refine wpList_store_row rfl 30 _ _ rfl k _ (by rw [← hk]; rfl) rfl _ _ hA hi2 hs2 ho2 ?_) | (refine wpList_load_row rfl 30 _ rfl k (by rw [← hk]; rfl) _ _ (0, 0) _ hB Tryz.underlying30 rfl hi2 ?_) | (refine wpList_store_row rfl 30 _ _ rfl g _ rfl rfl _ _ hC hi2 hs2 ho2 ?_))
  refine bodyPost_ret (results_cell_row rfl _ _ g _ cf (0, 0) _ rfl (setRow_heap _ g _ _ _ _ hC) Tryz.underlying30 rfl hi2) rfl ?_
  exact ⟨F, by rw [HCF.out], fun j => ⟨(HF.out j).1, by have := (HF.out j).2; omega⟩, below_setRow HPW.out HGL.out.1 _⟩
end Go.Proofs.YtalhdalmafhofaaGreatDoor
