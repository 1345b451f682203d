/- The program's ByOID, BySize. -/
import Derived.Test.YtnjoccmjembppaaDoorPm13J
namespace Go.Proofs.YtnjoccmjembppaaDoor
open Go.RowKit Go.Shelf
set_option linter.unusedVariables false

/-- A list of numbers that a call hands back. -/
def IntsP (L : List Int) (w : World) (e : Ending) (w' : World) : Prop := ∃ A c, e = .returned (.slice A L.length c) ∧ SlK .i64 w' A L.length c L ∧ Past w w'
set_option maxHeartbeats 4000000 in
set_option maxRecDepth 100000 in
theorem byOid_any (A : Option Addr) (n c : Nat) (l : List Int) (w : World) (hG : Glob13 w) (h : SlK .u32 w A n c l) (hr : Rng l) (hn : n ≤ 1000) :
    Calls Tryd.prog 19 #[.slice A n c] w (IntsP (algs (pText (textS l)) 25) w) := by
  have HT := Lib.hid (ptext_any A n c l w hG.lib h hr hn)
  have HG := Lib.hid hG
  obtain ⟨T, hT⟩ : ∃ T, textS l = T := ⟨_, rfl⟩
  rw [hT] at HT ⊢
  clear hT hG h hr hn
  go_enter Tryd.func19, Tryd.ntmps19
  go_wp2_with fail
  refine (HT.out).mono ?_
  rintro e w2 ⟨rfl, hp⟩
  have H2 := Lib.hid hp
  clear hp HT
  obtain ⟨b, hb⟩ : ∃ b, w2.heap.size = b := ⟨_, rfl⟩
  obtain ⟨w3, hw3⟩ : ∃ w3, w3 = w2.alloc (.cells #[.string T] 9) := ⟨_, rfl⟩
  have hp3 : Past w2 w3 := by rw [hw3]; exact past_alloc13 _ _
  have hr3 : Row w3 b 9 #[.string T] := by rw [hw3, ← hb]; exact Row.new _ _ _
  have H3 : Hid (Past w w3) := Lib.hid (H2.out.trans' hp3)
  have HAL := Lib.hid (all1_any 31 (enters_of Tryd.func31 (by kernel_rfl) rfl) (.pointer (some ⟨b, 0, none⟩)) (pText T) w3 (HG.out.past H3.out) (fun a W _ _ hp => textC a b T W ((hr3.past hp).cell 0)))
  have HW3 := Lib.hid hw3
  have HB := Lib.hid hb
  clear hp3 hr3 hw3 hb H2
  go_upto_region 2 with (fail)
  rw [← HW3.out]
  try rw [HB.out]
  clear HW3 HB
  go_wp2_with fail
  refine (HAL.out).mono ?_
  rintro e w4 ⟨B, d, rfl, hown, hp⟩
  have H4 : Hid (SlK .i64 w4 B (algs (pText T) 25).length d (algs (pText T) 25) ∧ Past w w4) := Lib.hid ⟨slK_of_own hown, H3.out.trans' hp⟩
  clear hown hp HAL
  go_wp2_with fail
  go_ret
  exact ⟨B, d, rfl, H4.out.1, H4.out.2⟩
set_option maxHeartbeats 4000000 in
set_option maxRecDepth 100000 in
theorem bySize_any (f s : Int) (w : World) (hG : Glob13 w) : Calls Tryd.prog 20 #[.int .i64 f, .int .i64 s] w (IntsP (algs (pSize f s) 25) w) := by
  obtain ⟨b, hb⟩ : ∃ b, w.heap.size = b := ⟨_, rfl⟩
  obtain ⟨w0, hw0⟩ : ∃ w0, w0 = w.alloc (.cells #[.int .i64 f] 3) := ⟨_, rfl⟩
  have hp0 : Past w w0 := by rw [hw0]; exact past_alloc13 _ _
  have hr0 : Row w0 b 3 #[.int .i64 f] := by rw [hw0, ← hb]; exact Row.new _ _ _
  have hz0 : w0.heap.size = b + 1 := by rw [hw0, ← hb]; simp
  obtain ⟨w1, hw1⟩ : ∃ w1, w1 = w0.alloc (.cells #[.int .i64 s] 3) := ⟨_, rfl⟩
  have hp1 : Past w0 w1 := by rw [hw1]; exact past_alloc13 _ _
  have hr1 : Row w1 (b + 1) 3 #[.int .i64 s] := by rw [hw1, ← hz0]; exact Row.new _ _ _
  obtain ⟨g, hg⟩ : ∃ g, b + 1 = g := ⟨_, rfl⟩
  rw [hg] at hr1
  have hr01 := hr0.past hp1
  have H1 : Hid (Past w w1) := Lib.hid (hp0.trans' hp1)
  have HAL := Lib.hid (all2_any 32 (enters_of Tryd.func32 (by kernel_rfl) rfl) (.pointer (some ⟨b, 0, none⟩)) (.pointer (some ⟨g, 0, none⟩)) (pSize f s) w1 (hG.past H1.out) (fun a W _ _ hp => sizeC a b g f s W ((hr01.past hp).cell 0) ((hr1.past hp).cell 0)))
  have HW0 := Lib.hid hw0
  have HW1 := Lib.hid hw1
  have HGS := Lib.hid hg
  have HB := Lib.hid hb
  clear hp0 hr0 hz0 hp1 hr1 hr01 hw0 hw1 hg hb hG
  go_enter Tryd.func20, Tryd.ntmps20
  go_upto_region 1 with (fail)
  rw [← HW0.out]
  rw [← HW1.out]
  try rw [HB.out]
  try rw [HGS.out]
  clear HW0 HW1 HB HGS
  go_wp2_with fail
  refine (HAL.out).mono ?_
  rintro e w4 ⟨B, d, rfl, hown, hp⟩
  have H4 : Hid (SlK .i64 w4 B (algs (pSize f s) 25).length d (algs (pSize f s) 25) ∧ Past w w4) := Lib.hid ⟨slK_of_own hown, H1.out.trans' hp⟩
  clear hown hp HAL
  go_wp2_with fail
  go_ret
  exact ⟨B, d, rfl, H4.out.1, H4.out.2⟩
end Go.Proofs.YtnjoccmjembppaaDoor
