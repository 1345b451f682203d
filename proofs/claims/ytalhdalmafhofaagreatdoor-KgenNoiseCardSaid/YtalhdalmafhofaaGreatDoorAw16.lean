/- Keys of a wrong size; Matrix of no algorithm. The law's awake. -/
import Derived.Test.YtalhdalmafhofaaGreatDoorRk16
import Derived.Handy
import Derived.Test.YtalhdalmafhofaaGreatDoorKy16
import Derived.Test.YtalhdalmafhofaaGreatDoorNz16
namespace Go.Proofs.YtalhdalmafhofaaGreatDoor
open Go.RowKit
set_option linter.unusedVariables false
set_option maxRecDepth 100000
set_option maxHeartbeats 4000000

theorem keysBad_any (A : Option Addr) (n c : Nat) (w : World) (hG : Glob13 w) (hn : ¬ n = 64) :
    Calls Tryz.prog 9 #[.int .i64 1, .slice A n c] w fun r w' => r = .returned (.tuple #[.slice none 0 0, .slice none 0 0, .bool false]) ∧ Past w w' := by
  have HRK : Hid (Calls Tryz.prog 20 #[.int .i64 1] w fun r w'' => r = .returned (.int .i64 2) ∧ Past w w'') := Lib.hid (rank_any 1 w hG)
  have hn2 : ¬ (n : Int) = 64 := by omega
  clear hG
  go_enter Tryz.func9, Tryz.ntmps9
  go_wp2_with fail
  refine HRK.out.mono ?_
  rintro e w2 ⟨rfl, hp2⟩
  have HP := Lib.hid hp2
  clear hp2
  go_wp2_with fail
  go_returns
  exact ⟨rfl, HP.out⟩
theorem matrixNo_any (w : World) (hG : Glob13 w) :
    Calls Tryz.prog 11 #[.int .i64 0, .slice none 0 0] w fun r w' => r = .returned (.slice none 0 0) ∧ Past w w' := by
  obtain ⟨w1, hw1⟩ : ∃ w', w.alloc (.cells #[.slice none 0 0] 25) = w' := ⟨_, rfl⟩
  have hp1 : Past w w1 := by rw [← hw1]; exact (Below.refl _ _).alloc (Nat.le_refl _) _
  have HRK : Hid (Calls Tryz.prog 20 #[.int .i64 0] w1 fun r w'' => r = .returned (.int .i64 0) ∧ Past w1 w'') := Lib.hid (rank_any 0 w1 (hG.past hp1))
  have HP1 := Lib.hid hp1
  have HW1 := Lib.hid hw1
  clear hG hp1 hw1
  go_enter Tryz.func11, Tryz.ntmps11
  go_upto_region 1 with (fail)
  rw [HW1.out]
  clear HW1
  go_wp2_with fail
  refine HRK.out.mono ?_
  rintro e w2 ⟨rfl, hp2⟩
  have HP := Lib.hid (HP1.out.trans' hp2)
  clear hp2
  go_wp2_with fail
  go_ret
  exact ⟨rfl, HP.out⟩
end Go.Proofs.YtalhdalmafhofaaGreatDoor

namespace Go.Proofs.YtalhdalmafhofaaGreatDoor
open Go.RowKit
set_option linter.unusedVariables false
set_option maxRecDepth 100000
set_option maxHeartbeats 4000000

def ones128 : List Int := List.replicate 128 1
theorem noF_ex : noF ones128 2 0 = 1 ∧ noF ones128 2 1 = 0 ∧ noF ones128 2 254 = 1 := by decide +kernel
theorem rep_map (i : Nat) : (List.replicate (i + 1) (1 : Int)).map (Value.int .u8) = List.replicate i (Value.int .u8 1) ++ [Value.int .u8 1] := by rw [List.map_replicate, List.replicate_succ']
theorem awake16 (w : World) (hG : Glob13 w) : Calls Tryz.prog 4 #[] w fun e w' => e = .returned (.bool true) ∧ Past w w' := by
  have HG := Lib.hid hG
  have H0 : Hid (w.ownsRow w.heap.size 5 1 (.slice none 0 0) 0 ((List.replicate 0 (1 : Int)).map (Value.int .u8)) ∧ Past w w) := Lib.hid ⟨World.ownsRow_nil _ _ _ _, Below.refl _ _⟩
  clear hG
  go_enter Tryz.func4, Tryz.ntmps4
  go_wp2_with fail
  go_loopg [1, 2] 128 (fun q u1 s2 wx => ∃ i : Nat, i ≤ 128 ∧ q = 128 - i ∧ s2 = .int .i64 (i : Int) ∧ Hid (wx.ownsRow w.heap.size 5 1 u1 i ((List.replicate i (1 : Int)).map (Value.int .u8)) ∧ Past w wx))
  case atStart => exact ⟨0, Nat.zero_le _, rfl, rfl, H0⟩
  case round =>
    clear H0
    obtain ⟨i, hi, hq, rfl, HI⟩ := hrel
    have HGQ := Lib.hid hq
    clear hq
    by_cases hlt : i < 128
    · have hii : (i : Int) < 128 := by omega
      have HLT := Lib.hid hlt
      obtain ⟨wn, hwn⟩ : ∃ w', wr.alloc (.cells #[.int .u8 1] 5) = w' := ⟨_, rfl⟩
      obtain ⟨h, hh⟩ : ∃ h, wr.heap.size = h := ⟨_, rfl⟩
      have hpn : Past wr wn := by rw [← hwn]; exact (Below.refl _ _).alloc (Nat.le_refl _) _
      have hS1 : Sl wn (some ⟨h, 0, none⟩) 1 1 [1] := by rw [← hwn, ← hh]; exact sl_one16 _ _ (by decide)
      have hown0 := own_past15 HI.out.1 hpn
      have HO := Lib.hid hown0
      have HOB := Lib.hid (own_block_ge hown0)
      have HS1 := Lib.hid hS1
      have HP1 := Lib.hid (HI.out.2.trans' hpn)
      have HW := Lib.hid hwn
      clear hown0 hS1 hpn hwn hi hlt HI
      have hhk := hh
      go_wp2_with (at_builtin; refine wpList_append_sl rfl _ _ 25 5 rfl Tryz.underlying25 info_u8 w.heap.size _ i (List.replicate i 1) rfl (by rw [HW.out]; exact HO.out) (some ⟨h, 0, none⟩) 1 1 [1] rfl (by rw [HW.out]; exact HS1.out) (by have := HLT.out; omega) (by rw [HW.out]; exact HP1.out.size) ?_)
      intro v5 w5 hown5 hgrow5
      rw [HW.out] at hgrow5
      rw [← rep_map i] at hown5
      have HR5 : Hid (w5.ownsRow w.heap.size 5 1 v5 (i + 1) ((List.replicate (i + 1) (1 : Int)).map (Value.int .u8)) ∧ Past w w5) := Lib.hid ⟨hown5, HP1.out.grown hgrow5 HP1.out.size HOB.out⟩
      clear hown5 hgrow5
      go_wp2_with fail
      go_roundg (128 - (i + 1))
      case rel => exact ⟨i + 1, HLT.out, rfl, by go_num, HR5⟩
      case measure => have := HGQ.out; have := HLT.out; omega
    · obtain rfl : i = 128 := by omega
      obtain ⟨A, c, rfl⟩ := own_slice HI.out.1
      have hSB : Sl wr A 128 c ones128 := Sl.of_own HI.out.1 (by intro x hx; rw [(List.mem_replicate.1 hx).2]; decide)
      obtain ⟨b0, o0, rfl, _⟩ := hSB.bytes (by decide)
      have hcap := hSB.cap
      have HSB := Lib.hid hSB
      have HPW := Lib.hid HI.out.2
      clear hi hlt HI hSB
      have hc1 : (128 : Int) ≤ (c : Int) := by omega
      have hc2 : ¬ (c : Int) = 1 := by omega
      have hc3 : ¬ c = 1 := by omega
      have hz := zeroP
      obtain ⟨cz, hcz⟩ : ∃ cz, arr .u16 256 (fun _ => 0) = cz := ⟨_, rfl⟩
      obtain ⟨cN, hcN⟩ : ∃ cz, arr .u16 256 (noF ones128 2) = cz := ⟨_, rfl⟩
      have HINF : Hid ((Tryz.prog.info? 30).map (·.size) = some cN.size ∧ cz.size = cN.size ∧ cN.all (·.oneCell') = true ∧ (Tryz.prog.info? 30).map (·.size) = some cz.size ∧ cz.all (·.oneCell') = true) := Lib.hid (by rw [← hcN, ← hcz]; exact ⟨infP _, by rw [arr_size, arr_size], arr_one .u16 256 _, infP _, arr_one .u16 256 _⟩)
      have HCELL : Hid (cN[0]? = some (.int .u16 1) ∧ cN[1]? = some (.int .u16 0) ∧ cN[254]? = some (.int .u16 1)) := Lib.hid (by
        rw [← hcN]
        refine ⟨?_, ?_, ?_⟩
        · rw [arr_get .u16 256 _ 0 (by decide), noF_ex.1]
        · rw [arr_get .u16 256 _ 1 (by decide), noF_ex.2.1]
        · rw [arr_get .u16 256 _ 254 (by decide), noF_ex.2.2])
      have HKN : Hid (∀ A c w, Sl w A 128 c ones128 → Calls Tryz.prog 7 #[.int .i64 2, .slice A 128 c] w fun r w' => r = .returned (.tuple #[.agg cN, .bool true]) ∧ Past w w') := Lib.hid (by intro A c w h; rw [← hcN]; exact knoise2_any A c ones128 w h)
      have HKW : Hid (∀ A n c w, ¬ n = 128 → Calls Tryz.prog 7 #[.int .i64 2, .slice A n c] w fun r w' => r = .returned (.tuple #[.agg cz, .bool false]) ∧ Past w w') := Lib.hid (by intro A n c w h; rw [← hcz]; exact knoiseW2_any A n c w h)
      rw [hcz] at hz
      have HZ := Lib.hid hz
      clear hcz hcN hz
      go_wp2_with fail
      refine (HKN.out _ c wr HSB.out).mono ?_
      rintro e w2 ⟨rfl, hp2⟩
      obtain ⟨u3, hu3⟩ : ∃ u, w2.heap.size = u := ⟨_, rfl⟩
      obtain ⟨w3, hw3⟩ : ∃ w', w2.alloc (.cells cN 30) = w' := ⟨_, rfl⟩
      have hp3 : Past w2 w3 := by rw [← hw3]; exact (Below.refl _ _).alloc (Nat.le_refl _) _
      have hr3 : Row w3 u3 30 cN := by rw [← hw3, ← hu3]; exact Row.new _ _ _
      have H3 := Lib.hid (And.intro (HPW.out.trans' (hp2.trans' hp3)) hr3)
      have hn1 := heap_alloc_new w2 (.cells cz 30)
      rw [hu3] at hn1
      have HSR : Hid ((w2.alloc (.cells cz 30)).setRow u3 cN = w3) := Lib.hid (by rw [← hu3, World.setRow_alloc_new]; exact hw3)
      clear hp2 hp3 hr3 hw3
      obtain ⟨hi1, hi2, hi3, _, _⟩ := HINF.out
      have hz := HZ.out
      go_upto_region 7 with (refine wpList_store_row rfl 30 _ _ rfl u3 _ rfl rfl _ _ hn1 hi1 hi2 hi3 ?_)
      rw [HSR.out]
      clear HSR hn1 hi1 hi2 hi3 hu3
      go_wp2_with fail
      refine (HKW.out _ 127 (c - 1) w3 (by decide)).mono ?_
      rintro e w4 ⟨rfl, hp4⟩
      obtain ⟨u5, hu5⟩ : ∃ u, w4.heap.size = u := ⟨_, rfl⟩
      obtain ⟨w5, hw5⟩ : ∃ w', w4.alloc (.cells cz 30) = w' := ⟨_, rfl⟩
      have hp5 : Past w4 w5 := by rw [← hw5]; exact (Below.refl _ _).alloc (Nat.le_refl _) _
      have H5 := Lib.hid (And.intro (H3.out.1.trans' (hp4.trans' hp5)) (H3.out.2.past (hp4.trans' hp5)))
      have hn1 := heap_alloc_new w4 (.cells cz 30)
      rw [hu5] at hn1
      have HSR : Hid ((w4.alloc (.cells cz 30)).setRow u5 cz = w5) := Lib.hid (by rw [← hu5, World.setRow_alloc_new]; exact hw5)
      clear hp4 hp5 hw5 H3
      obtain ⟨_, _, _, hi1, hi3⟩ := HINF.out
      have hz := HZ.out
      go_upto_region 8 with (refine wpList_store_row rfl 30 _ _ rfl u5 _ rfl rfl _ _ hn1 hi1 rfl hi3 ?_)
      rw [HSR.out]
      clear HSR hn1 hi1 hi3 hu5 hz
      obtain ⟨b6, hb6⟩ : ∃ u, w5.heap.size = u := ⟨_, rfl⟩
      obtain ⟨w6, hw6⟩ : ∃ w', w5.alloc (.cells (arr .u8 64 fun _ => 0) 5) = w' := ⟨_, rfl⟩
      have hp6 : Past w5 w6 := by rw [← hw6]; exact (Below.refl _ _).alloc (Nat.le_refl _) _
      have hr6 : Row w6 b6 5 (arr .u8 64 fun _ => 0) := by rw [← hw6, ← hb6]; exact Row.new _ _ _
      have hs6 := sl_arr hr6 (fun _ => by decide) (by decide)
      rw [show bl (fun _ => 0) 64 = List.replicate 64 0 by decide] at hs6
      have hmk : (Instr.makeSlice 25 (.int .i64 64) (.int .i64 64)).run Tryz.prog w5 = .ok (.slice (some ⟨b6, 0, none⟩) 64 64) w6 := by rw [← hw6, ← hb6]; exact make8 64 (by decide) w5
      have H6 := Lib.hid (And.intro (H5.out.1.trans' hp6) (H5.out.2.past hp6))
      have HS6 := Lib.hid hs6
      clear hw6 hp6 hr6 hs6 hb6 H5
      go_wp2_with fail
      clear hmk
      refine (keys1_any b6 w6 HS6.out (HG.out.past H6.out.1)).mono ?_
      rintro e w7 ⟨A7, c7, B7, d7, rfl, hp7⟩
      have H7 := Lib.hid (And.intro (H6.out.1.trans' hp7) (H6.out.2.past hp7))
      clear hp7 HS6 H6
      go_upto_region 9 with (fail)
      obtain ⟨b8, hb8⟩ : ∃ u, w7.heap.size = u := ⟨_, rfl⟩
      obtain ⟨w8, hw8⟩ : ∃ w', w7.alloc (.cells (arr .u8 32 fun _ => 0) 5) = w' := ⟨_, rfl⟩
      have hp8 : Past w7 w8 := by rw [← hw8]; exact (Below.refl _ _).alloc (Nat.le_refl _) _
      have hmk : (Instr.makeSlice 25 (.int .i64 32) (.int .i64 32)).run Tryz.prog w7 = .ok (.slice (some ⟨b8, 0, none⟩) 32 32) w8 := by rw [← hw8, ← hb8]; exact make8 32 (by decide) w7
      have H8 := Lib.hid (And.intro (H7.out.1.trans' hp8) (H7.out.2.past hp8))
      clear hw8 hp8 hb8 H7
      go_wp2_with fail
      clear hmk
      refine (keysBad_any _ 32 32 w8 (HG.out.past H8.out.1) (by decide)).mono ?_
      rintro e w9 ⟨rfl, hp9⟩
      have H9 := Lib.hid (And.intro (H8.out.1.trans' hp9) (H8.out.2.past hp9))
      clear hp9 H8
      go_upto_region 10 with (fail)
      obtain ⟨c1, c2, c3⟩ := HCELL.out
      have k0 : w9.cell? ⟨u3, 0, none⟩ = some (.int .u16 1) := by rw [H9.out.2.cell]; exact c1
      have k1 : w9.cell? ⟨u3, 1, none⟩ = some (.int .u16 0) := by rw [H9.out.2.cell]; exact c2
      have k2 : w9.cell? ⟨u3, 254, none⟩ = some (.int .u16 1) := by rw [H9.out.2.cell]; exact c3
      clear c1 c2 c3 hc1 hc2 hc3 hcap
      go_wp2_with fail
      clear k0 k1 k2
      refine (cost_any 1 w9 (HG.out.past H9.out.1)).mono ?_
      rintro e w10 ⟨rfl, hp10⟩
      rw [show costF 1 = 11 from rfl]
      have H10 := Lib.hid (H9.out.1.trans' hp10)
      clear hp10 H9
      go_wp2_with fail
      refine (cost_any 4 w10 (HG.out.past H10.out)).mono ?_
      rintro e w11 ⟨rfl, hp11⟩
      rw [show costF 4 = 0 from rfl]
      have H11 := Lib.hid (H10.out.trans' hp11)
      clear hp11 H10
      go_wp2_with fail
      refine (matrixNo_any w11 (HG.out.past H11.out)).mono ?_
      rintro e w12 ⟨rfl, hp12⟩
      have H12 := Lib.hid (H11.out.trans' hp12)
      clear hp12 H11
      go_wp2_with fail
      go_ret
      exact ⟨rfl, H12.out⟩
end Go.Proofs.YtalhdalmafhofaaGreatDoor
