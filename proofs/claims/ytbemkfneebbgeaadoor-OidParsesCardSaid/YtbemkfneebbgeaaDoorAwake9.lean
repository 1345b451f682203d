/- The chapter's examples hold of the program's package oid. -/
import Derived.Test.YtbemkfneebbgeaaDoorP9
namespace Go.Proofs.YtbemkfneebbgeaaDoor
open Go.RowKit
set_option linter.unusedVariables false

theorem Sl.lit9 (w : World) (xs : List Int) (cs : Array Value) (n : Nat) (hcs : cs.toList = xs.map (Value.int .u8)) (hn : cs.size = n) (hm : n ≤ maxLen) (hr : ∀ x ∈ xs, 0 ≤ x ∧ x < 256) : Sl (w.alloc (.cells cs 5)) (some ⟨w.heap.size, 0, none⟩) n n xs := by
  have h := World.ownsRow_lit (base := w.heap.size) (e := 5) (size := 1) w cs n (Nat.le_refl _) hm (by rw [hn, Nat.mul_one])
  rw [hcs] at h
  exact Sl.of_own h hr
theorem SlK.lit9 (w : World) (xs : List Int) (cs : Array Value) (n : Nat) (hcs : cs.toList = xs.map (Value.int .u32)) (hn : cs.size = n) (hm : n ≤ maxLen) : SlK .u32 (w.alloc (.cells cs 33)) (some ⟨w.heap.size, 0, none⟩) n n xs := by
  have h := World.ownsRow_lit (base := w.heap.size) (e := 33) (size := 1) w cs n (Nat.le_refl _) hm (by rw [hn, Nat.mul_one])
  rw [hcs] at h
  exact slK_of_own h
theorem Past.ofDrewN (w : World) (m : Nat) : Past w (w.drewN m) := Past.drewN (Below.refl _ w) m

set_option maxHeartbeats 4000000 in
set_option maxRecDepth 100000 in
theorem awake9 (H : Prog9) (w : World) (hG : Glob w) : Calls Tryd.prog 8 #[] w fun e w' => e = .returned (.bool true) ∧ Past w w' := by
  have hP1 := fun w hG => H.parse ⟨#[50, 46, 49, 54, 46, 56, 52, 48, 46, 49, 46, 49, 48, 49, 46, 51, 46, 52, 46, 52, 46, 49]⟩ w hG (by decide)
  have hP2 := fun w hG => H.parse ⟨#[49, 46, 52, 48]⟩ w hG (by decide)
  rw [show parseL (ints ⟨#[50, 46, 49, 54, 46, 56, 52, 48, 46, 49, 46, 49, 48, 49, 46, 51, 46, 52, 46, 52, 46, 49]⟩) = some ex9 from ex_parse] at hP1
  rw [no_parse] at hP2
  have HP1 := Lib.hid hP1
  have HP2 := Lib.hid hP2
  have HR1 := Lib.hid (fun A c w (h : Sl w A 9 c exC) => H.read A 9 c exC w h (by omega))
  have HR2 := Lib.hid (fun A c w (h : Sl w A 3 c [96, 128, 1]) => H.read A 3 c [96, 128, 1] w h (by omega))
  rw [ex_read] at HR1
  rw [no_read] at HR2
  have HT := Lib.hid (fun A c w hG (h : SlK .u32 w A 9 c ex9) => H.text A 9 c ex9 w hG h ex_rng (by omega))
  rw [ex_text] at HT
  have HC := Lib.hid (fun A c w (h : SlK .u32 w A 9 c ex9) => H.content A 9 c ex9 w h ex_rng (by omega))
  rw [ex_cont] at HC
  have HV := Lib.hid (fun A c w (h : SlK .u32 w A 9 c ex9) => H.valid A 9 c ex9 w h ex_rng (by omega))
  rw [ex_ok] at HV
  have HB1 := Lib.hid (fun A c B d w (h : SlK .u32 w A 9 c ex9) (h2 : SlK .u32 w B 2 d [2, 16]) => H.below A 9 c ex9 B 2 d [2, 16] w h h2 ex_rng (by unfold Rng; decide) (by omega) (by omega))
  rw [ex_below] at HB1
  have HB2 := Lib.hid (fun A c w (h : SlK .u32 w A 9 c ex9) => H.below A 9 c ex9 A 9 c ex9 w h h ex_rng ex_rng (by omega) (by omega))
  rw [no_below] at HB2
  have HG := Lib.hid hG
  clear hP1 hP2 H hG
  go_enter Tryd.func8, Tryd.ntmps8
  go_wp2_with fail
  refine (HP1.out _ HG.out).mono ?_
  rintro e w1 ⟨A1, c1, rfl, h1, hp⟩
  rw [show ex9.length = 9 from rfl] at h1 ⊢
  have H1 : Hid (Past w w1 ∧ SlK .u32 w1 A1 9 c1 ex9) := Lib.hid ⟨hp, h1⟩
  clear hp h1
  go_wp2_with fail
  refine (HP2.out _ (HG.out.past H1.out.1)).mono ?_
  rintro e w2 ⟨A2, c2, rfl, _, hp⟩
  have hL := Sl.lit9 w2 exC #[.int .u8 96, .int .u8 134, .int .u8 72, .int .u8 1, .int .u8 101, .int .u8 3, .int .u8 4, .int .u8 4, .int .u8 1] 9 rfl rfl (by unfold maxLen; omega) (by decide)
  have H2 : Hid (Past w (w2.alloc (.cells #[.int .u8 96, .int .u8 134, .int .u8 72, .int .u8 1, .int .u8 101, .int .u8 3, .int .u8 4, .int .u8 4, .int .u8 1] 5)) ∧ SlK .u32 (w2.alloc (.cells #[.int .u8 96, .int .u8 134, .int .u8 72, .int .u8 1, .int .u8 101, .int .u8 3, .int .u8 4, .int .u8 4, .int .u8 1] 5)) A1 9 c1 ex9) :=
    Lib.hid ⟨(H1.out.1.trans' hp).trans' (past_alloc9 _ _), (H1.out.2.past hp).past (past_alloc9 _ _)⟩
  have HL := Lib.hid hL
  clear hp H1 hL
  go_wp2_with fail
  refine (HR1.out _ _ _ HL.out).mono ?_
  rintro e w3 ⟨A3, c3, rfl, h3, hp⟩
  rw [show ex9.length = 9 from rfl] at h3 ⊢
  have hL := Sl.lit9 w3 [96, 128, 1] #[.int .u8 96, .int .u8 128, .int .u8 1] 3 rfl rfl (by unfold maxLen; omega) (by decide)
  have hpl := past_alloc9 w3 (.cells #[.int .u8 96, .int .u8 128, .int .u8 1] 5)
  have H3 : Hid (Past w (w3.alloc (.cells #[.int .u8 96, .int .u8 128, .int .u8 1] 5)) ∧ SlK .u32 (w3.alloc (.cells #[.int .u8 96, .int .u8 128, .int .u8 1] 5)) A1 9 c1 ex9 ∧ SlK .u32 (w3.alloc (.cells #[.int .u8 96, .int .u8 128, .int .u8 1] 5)) A3 9 c3 ex9) :=
    Lib.hid ⟨(H2.out.1.trans' hp).trans' hpl, (H2.out.2.past hp).past hpl, h3.past hpl⟩
  clear HL
  have HL := Lib.hid hL
  clear hp H2 hL hpl h3
  go_wp2_with fail
  refine (HR2.out _ _ _ HL.out).mono ?_
  rintro e w4 ⟨A4, c4, rfl, _, hp⟩
  have H4 : Hid (Past w w4 ∧ SlK .u32 w4 A1 9 c1 ex9 ∧ SlK .u32 w4 A3 9 c3 ex9) := Lib.hid ⟨H3.out.1.trans' hp, H3.out.2.1.past hp, H3.out.2.2.past hp⟩
  clear hp H3 HL
  go_wp2_with fail
  refine (equal_any _ _ _ _ _ _ _ _ _ H4.out.2.1 H4.out.2.2).mono ?_
  rintro e w5 ⟨rfl, m5, hw5⟩
  rw [sameB_refl]
  have H5 : Hid (Past w w5 ∧ SlK .u32 w5 A1 9 c1 ex9) := by
    rw [hw5]
    exact Lib.hid ⟨H4.out.1.drewN _, H4.out.2.1.drewN _⟩
  clear hw5 H4
  go_wp2_with fail
  refine (HT.out _ _ _ (HG.out.past H5.out.1) H5.out.2).mono ?_
  rintro e w6 ⟨rfl, hp⟩
  have H6 : Hid (Past w w6 ∧ SlK .u32 w6 A1 9 c1 ex9) := Lib.hid ⟨H5.out.1.trans' hp, H5.out.2.past hp⟩
  clear hp H5
  unfold exS
  go_wp2_with fail
  refine (HC.out _ _ _ H6.out.2).mono ?_
  rintro e w7 ⟨A7, c7, rfl, h7, hp⟩
  rw [show exC.length = 9 from rfl] at h7 ⊢
  have hL := Sl.lit9 w7 exC #[.int .u8 96, .int .u8 134, .int .u8 72, .int .u8 1, .int .u8 101, .int .u8 3, .int .u8 4, .int .u8 4, .int .u8 1] 9 rfl rfl (by unfold maxLen; omega) (by decide)
  have hpl := past_alloc9 w7 (.cells #[.int .u8 96, .int .u8 134, .int .u8 72, .int .u8 1, .int .u8 101, .int .u8 3, .int .u8 4, .int .u8 4, .int .u8 1] 5)
  have H7 : Hid (Past w (w7.alloc (.cells #[.int .u8 96, .int .u8 134, .int .u8 72, .int .u8 1, .int .u8 101, .int .u8 3, .int .u8 4, .int .u8 4, .int .u8 1] 5)) ∧ SlK .u32 (w7.alloc (.cells #[.int .u8 96, .int .u8 134, .int .u8 72, .int .u8 1, .int .u8 101, .int .u8 3, .int .u8 4, .int .u8 4, .int .u8 1] 5)) A1 9 c1 ex9 ∧ Sl (w7.alloc (.cells #[.int .u8 96, .int .u8 134, .int .u8 72, .int .u8 1, .int .u8 101, .int .u8 3, .int .u8 4, .int .u8 4, .int .u8 1] 5)) A7 9 c7 exC) :=
    Lib.hid ⟨(H6.out.1.trans' hp).trans' hpl, (H6.out.2.past hp).past hpl, h7.past hpl⟩
  have HL := Lib.hid hL
  clear hp H6 hL hpl h7
  go_wp2_with fail
  refine (rsame_any _ _ _ _ _ _ _ _ _ H7.out.2.2 HL.out).mono ?_
  rintro e w8 ⟨rfl, m8, hw8⟩
  rw [sameB_refl]
  have H8 : Hid (Past w w8 ∧ SlK .u32 w8 A1 9 c1 ex9) := by
    rw [hw8]
    exact Lib.hid ⟨H7.out.1.drewN _, H7.out.2.1.drewN _⟩
  clear hw8 H7 HL
  go_wp2_with fail
  refine (HV.out _ _ _ H8.out.2).mono ?_
  rintro e w9 ⟨rfl, hp⟩
  have hL := SlK.lit9 w9 [2, 16] #[.int .u32 2, .int .u32 16] 2 rfl rfl (by unfold maxLen; omega)
  have hpl := past_alloc9 w9 (.cells #[.int .u32 2, .int .u32 16] 33)
  have H9 : Hid (Past w (w9.alloc (.cells #[.int .u32 2, .int .u32 16] 33)) ∧ SlK .u32 (w9.alloc (.cells #[.int .u32 2, .int .u32 16] 33)) A1 9 c1 ex9) := Lib.hid ⟨(H8.out.1.trans' hp).trans' hpl, (H8.out.2.past hp).past hpl⟩
  have HL := Lib.hid hL
  clear hp H8 hL hpl
  go_wp2_with fail
  refine (HB1.out _ _ _ _ _ H9.out.2 HL.out).mono ?_
  rintro e wa ⟨rfl, hp⟩
  have Ha : Hid (Past w wa ∧ SlK .u32 wa A1 9 c1 ex9) := Lib.hid ⟨H9.out.1.trans' hp, H9.out.2.past hp⟩
  clear hp H9 HL
  go_wp2_with fail
  refine (HB2.out _ _ _ Ha.out.2).mono ?_
  rintro e wb ⟨rfl, hp⟩
  have Hb : Hid (Past w wb) := Lib.hid (Ha.out.1.trans' hp)
  clear hp Ha
  go_wp2_with fail
  go_ret
  exact ⟨rfl, Hb.out⟩

end Go.Proofs.YtbemkfneebbgeaaDoor
