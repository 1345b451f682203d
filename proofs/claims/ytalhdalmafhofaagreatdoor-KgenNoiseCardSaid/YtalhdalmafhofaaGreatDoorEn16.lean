/- encoded: two polynomials as bytes. -/
import Derived.Test.YtalhdalmafhofaaGreatDoorSn16
import Derived.Test.YtalhdalmafhofaaGreatDoorQ15H
namespace Go.Proofs.YtalhdalmafhofaaGreatDoor
open Go.RowKit
set_option linter.unusedVariables false
set_option maxRecDepth 100000
set_option maxHeartbeats 4000000

theorem encoded_any (g c : Nat) (F : Nat → Nat → Int) (w : World) (hP : PL w g F) :
    Calls Tryz.prog 25 #[.slice (some ⟨g, 0, none⟩) 2 c] w fun r w' => ∃ xs, xs.length = 768 ∧ OwnB xs w r w' := by
  have HP := Lib.hid hP
  have hlf := fun i => (lst_len (F i)).2
  have HLF := Lib.hid hlf
  have hz := zeroP
  obtain ⟨cz, hcz⟩ : ∃ cz, arr .u16 256 (fun _ => 0) = cz := ⟨_, rfl⟩
  have HCZ : Hid (cz.size = 256) := Lib.hid (by rw [← hcz, arr_size])
  rw [hcz] at hz
  have HZ := Lib.hid hz
  have HN : Hid (w.ownsRow w.heap.size 5 1 (.slice none 0 0) 0 (([] : List Int).map (Value.int .u8)) ∧ Past w w ∧ (∀ x ∈ ([] : List Int), 0 ≤ x ∧ x < 256) ∧ ([] : List Int).length = 0) := Lib.hid ⟨World.ownsRow_nil _ _ _ _, Below.refl _ _, (by simp), rfl⟩
  clear hP hlf hcz hz
  go_enter Tryz.func25, Tryz.ntmps25
  go_wp2_with fail
  go_loopg [3, 8] 2 (fun q u3 s8 wx => ∃ (i : Nat) (ys : List Int), i ≤ 2 ∧ q = 2 - i ∧ s8 = .int .i64 (i : Int) ∧ Hid (wx.ownsRow w.heap.size 5 1 u3 (384 * i) (ys.map (Value.int .u8)) ∧ Past w wx ∧ (∀ x ∈ ys, 0 ≤ x ∧ x < 256) ∧ ys.length = 384 * i))
  case atStart => exact ⟨0, [], Nat.zero_le _, rfl, rfl, HN⟩
  case round =>
    clear HN
    obtain ⟨i, ys, hi, hq, rfl, HQ⟩ := hrel
    have HGQ := Lib.hid hq
    clear hq
    have hi0 : (0 : Int) ≤ (i : Int) := by omega
    by_cases hlt : i < 2
    · rcases (show i = 0 ∨ i = 1 by omega) with rfl | rfl
      · have hpw := HP.out.past HQ.out.2.1
        have hrg := hpw.2.2 0 (by decide)
        have hlf := HLF.out 0
        have HKB := Lib.hid (fun w => kbytes_any (F 0) (HP.out.1 0) w)
        have HBL := Lib.hid (bytesL_len (F 0))
        rw [arr_lst] at HKB
        have hin : (Tryz.prog.info? 30).map (·.size) = some ((lst (F 0)).toArray).size := by rw [← arr_lst]; exact infP _
        have hof : ((lst (F 0)).toArray).all (·.oneCell') = true := by rw [← arr_lst]; exact arr_one .u16 256 _
        have hsf : cz.size = ((lst (F 0)).toArray).size := by rw [← arr_lst, HCZ.out, arr_size]
        obtain ⟨u, hu⟩ : ∃ u, wr.heap.size = u := ⟨_, rfl⟩
        obtain ⟨wn, hwn⟩ : ∃ w', wr.alloc (.cells (lst (F 0)).toArray 30) = w' := ⟨_, rfl⟩
        have hpn : Past wr wn := by rw [← hwn]; exact (Below.refl _ _).alloc (Nat.le_refl _) _
        have hrn : Row wn u 30 (lst (F 0)).toArray := by rw [← hwn, ← hu]; exact Row.new _ _ _
        have HN := Lib.hid (And.intro hpn hrn)
        have HSR : Hid ((wr.alloc (.cells cz 30)).setRow u (lst (F 0)).toArray = wn) := Lib.hid (by rw [← hu, World.setRow_alloc_new]; exact hwn)
        have hn1 := heap_alloc_new wr (.cells cz 30)
        rw [hu] at hn1
        have hz := HZ.out
        have HYB := Lib.hid HQ.out
        clear hpw hwn hpn hrn hi hlt HQ hi0
        obtain ⟨lf, hl⟩ : ∃ lf, lst (F 0) = lf := ⟨_, rfl⟩
        rw [hl] at hrg hlf HKB hin hof hsf HN HSR
        clear hl
        obtain ⟨bs, hbs⟩ : ∃ bs, bytesL (F 0) = bs := ⟨_, rfl⟩
        rw [hbs] at HKB HBL
        clear hbs
        go_upto_region 5 with (first | (refine wpList_load_mid rfl 30 _ rfl g 0 rfl lf _ hrg Tryz.underlying30 rfl hlf ?_) | (refine wpList_store_row rfl 30 _ _ rfl u _ rfl rfl _ _ hn1 hin hof hsf ?_) | (refine wpList_store_row rfl 30 _ _ rfl u _ rfl rfl _ _ hn1 hin hsf hof ?_))
        rw [HSR.out]
        clear HSR hn1 hu hz hrg hlf hsf hof
        have hrn := HN.out.2
        go_wp2_with (refine wpList_load_row rfl 30 _ rfl u rfl _ _ (0, 0) _ hrn Tryz.underlying30 rfl hin ?_)
        refine (HKB.out wn).mono ?_
        rintro e w4 ⟨A4, n4, c4, rfl, hS4, hp4⟩
        have hl4 := hS4.len
        rw [HBL.out] at hl4
        subst hl4
        have HS4 := Lib.hid hS4
        have hown0 : w4.ownsRow w.heap.size 5 1 u3 (384 * 0) (ys.map (Value.int .u8)) := own_past15 HYB.out.1 (HN.out.1.trans' hp4)
        have HO := Lib.hid hown0
        have HP4 : Hid (Past w w4) := Lib.hid ((HYB.out.2.1.trans' HN.out.1).trans' hp4)
        have HOB := Lib.hid (own_block_ge hown0)
        clear hown0 hS4 hp4 hrn hin
        go_wp2_with (at_builtin; refine wpList_append_sl rfl _ _ 25 5 rfl Tryz.underlying25 info_u8 w.heap.size _ (384 * 0) ys rfl HO.out A4 384 c4 bs rfl HS4.out (by decide) HP4.out.size ?_)
        intro v5 w5 hown5 hgrow5
        have HR5 : Hid (w5.ownsRow w.heap.size 5 1 v5 (384 * (0 + 1)) ((ys ++ bs).map (Value.int .u8)) ∧ Past w w5 ∧ (∀ x ∈ ys ++ bs, 0 ≤ x ∧ x < 256) ∧ (ys ++ bs).length = 384 * (0 + 1)) := Lib.hid ⟨by rw [List.map_append]; exact hown5, HP4.out.grown hgrow5 HP4.out.size HOB.out, fun x hx => (List.mem_append.1 hx).elim (HYB.out.2.2.1 x) (HS4.out.rng x), by rw [List.length_append, HYB.out.2.2.2, HBL.out]⟩
        clear hown5 hgrow5
        go_wp2_with fail
        go_roundg (2 - (0 + 1))
        case rel => exact ⟨0 + 1, ys ++ bs, by decide, rfl, by first | rfl | go_num, HR5⟩
        case measure => have := HGQ.out; omega
      · have hpw := HP.out.past HQ.out.2.1
        have hrg := hpw.2.2 1 (by decide)
        have hlf := HLF.out 1
        have HKB := Lib.hid (fun w => kbytes_any (F 1) (HP.out.1 1) w)
        have HBL := Lib.hid (bytesL_len (F 1))
        rw [arr_lst] at HKB
        have hin : (Tryz.prog.info? 30).map (·.size) = some ((lst (F 1)).toArray).size := by rw [← arr_lst]; exact infP _
        have hof : ((lst (F 1)).toArray).all (·.oneCell') = true := by rw [← arr_lst]; exact arr_one .u16 256 _
        have hsf : cz.size = ((lst (F 1)).toArray).size := by rw [← arr_lst, HCZ.out, arr_size]
        obtain ⟨u, hu⟩ : ∃ u, wr.heap.size = u := ⟨_, rfl⟩
        obtain ⟨wn, hwn⟩ : ∃ w', wr.alloc (.cells (lst (F 1)).toArray 30) = w' := ⟨_, rfl⟩
        have hpn : Past wr wn := by rw [← hwn]; exact (Below.refl _ _).alloc (Nat.le_refl _) _
        have hrn : Row wn u 30 (lst (F 1)).toArray := by rw [← hwn, ← hu]; exact Row.new _ _ _
        have HN := Lib.hid (And.intro hpn hrn)
        have HSR : Hid ((wr.alloc (.cells cz 30)).setRow u (lst (F 1)).toArray = wn) := Lib.hid (by rw [← hu, World.setRow_alloc_new]; exact hwn)
        have hn1 := heap_alloc_new wr (.cells cz 30)
        rw [hu] at hn1
        have hz := HZ.out
        have HYB := Lib.hid HQ.out
        clear hpw hwn hpn hrn hi hlt HQ hi0
        obtain ⟨lf, hl⟩ : ∃ lf, lst (F 1) = lf := ⟨_, rfl⟩
        rw [hl] at hrg hlf HKB hin hof hsf HN HSR
        clear hl
        obtain ⟨bs, hbs⟩ : ∃ bs, bytesL (F 1) = bs := ⟨_, rfl⟩
        rw [hbs] at HKB HBL
        clear hbs
        go_upto_region 5 with (first | (refine wpList_load_mid rfl 30 _ rfl g 256 rfl lf _ hrg Tryz.underlying30 rfl hlf ?_) | (refine wpList_store_row rfl 30 _ _ rfl u _ rfl rfl _ _ hn1 hin hof hsf ?_) | (refine wpList_store_row rfl 30 _ _ rfl u _ rfl rfl _ _ hn1 hin hsf hof ?_))
        rw [HSR.out]
        clear HSR hn1 hu hz hrg hlf hsf hof
        have hrn := HN.out.2
        go_wp2_with (refine wpList_load_row rfl 30 _ rfl u rfl _ _ (0, 0) _ hrn Tryz.underlying30 rfl hin ?_)
        refine (HKB.out wn).mono ?_
        rintro e w4 ⟨A4, n4, c4, rfl, hS4, hp4⟩
        have hl4 := hS4.len
        rw [HBL.out] at hl4
        subst hl4
        have HS4 := Lib.hid hS4
        have hown0 : w4.ownsRow w.heap.size 5 1 u3 (384 * 1) (ys.map (Value.int .u8)) := own_past15 HYB.out.1 (HN.out.1.trans' hp4)
        have HO := Lib.hid hown0
        have HP4 : Hid (Past w w4) := Lib.hid ((HYB.out.2.1.trans' HN.out.1).trans' hp4)
        have HOB := Lib.hid (own_block_ge hown0)
        clear hown0 hS4 hp4 hrn hin
        go_wp2_with (at_builtin; refine wpList_append_sl rfl _ _ 25 5 rfl Tryz.underlying25 info_u8 w.heap.size _ (384 * 1) ys rfl HO.out A4 384 c4 bs rfl HS4.out (by decide) HP4.out.size ?_)
        intro v5 w5 hown5 hgrow5
        have HR5 : Hid (w5.ownsRow w.heap.size 5 1 v5 (384 * (1 + 1)) ((ys ++ bs).map (Value.int .u8)) ∧ Past w w5 ∧ (∀ x ∈ ys ++ bs, 0 ≤ x ∧ x < 256) ∧ (ys ++ bs).length = 384 * (1 + 1)) := Lib.hid ⟨by rw [List.map_append]; exact hown5, HP4.out.grown hgrow5 HP4.out.size HOB.out, fun x hx => (List.mem_append.1 hx).elim (HYB.out.2.2.1 x) (HS4.out.rng x), by rw [List.length_append, HYB.out.2.2.2, HBL.out]⟩
        clear hown5 hgrow5
        go_wp2_with fail
        go_roundg (2 - (1 + 1))
        case rel => exact ⟨1 + 1, ys ++ bs, by decide, rfl, by first | rfl | go_num, HR5⟩
        case measure => have := HGQ.out; omega
    · obtain rfl : i = 2 := by omega
      obtain ⟨A, c', rfl⟩ := own_slice HQ.out.1
      clear hi hlt hi0
      go_wp2_with fail
      go_ret
      exact ⟨ys, HQ.out.2.2.2, _, rfl, by rw [HQ.out.2.2.2]; exact HQ.out.1, HQ.out.2.2.1, HQ.out.2.1⟩
end Go.Proofs.YtalhdalmafhofaaGreatDoor
