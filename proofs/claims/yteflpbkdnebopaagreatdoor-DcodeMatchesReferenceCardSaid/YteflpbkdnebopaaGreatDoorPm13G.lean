/- The program's row for every number, and Get. -/
import Derived.Test.YteflpbkdnebopaaGreatDoorPm13D
import Derived.Test.YteflpbkdnebopaaGreatDoorPm13E
import Derived.Test.YteflpbkdnebopaaGreatDoorPm13F
namespace Go.Proofs.YteflpbkdnebopaaGreatDoor
open Go.RowKit
set_option linter.unusedVariables false

theorem row13_out {a : Int} (h : ¬ (1 ≤ a ∧ a ≤ 25)) : row13 a = zero13 := by unfold row13; exact if_neg h
set_option maxHeartbeats 4000000 in
set_option maxRecDepth 100000 in
theorem row_out (a : Int) (w : World) (h : ¬ (1 ≤ a ∧ a ≤ 25)) : Calls Tryz.prog 70 #[.int .i64 a] w (RowP a w) := by
  have HRO := Lib.hid (row13_out h)
  obtain ⟨w1, hw1⟩ : ∃ w1, w1 = w.alloc (.cells zeroC 81) := ⟨_, rfl⟩
  obtain ⟨g, hg⟩ : ∃ g, w.heap.size = g := ⟨_, rfl⟩
  have hp1 : Past w w1 := by rw [hw1]; exact past_alloc13 _ _
  have hr1 : Row w1 g 81 zeroC := by rw [hw1, ← hg]; exact Row.new _ _ _
  have H5 : Hid (Past w w1 ∧ Row w1 g 81 zeroC ∧ w.heap.size ≤ g) := Lib.hid ⟨hp1, hr1, by omega⟩
  have HW1 := Lib.hid hw1
  have HGS := Lib.hid hg
  rcases (show a < 1 ∨ 25 < a by omega) with h | h
  case' inl =>
    have h1 : ¬ (1 : Int) ≤ a := by omega
    have h4 : ¬ (4 : Int) ≤ a := by omega
    have h7 : ¬ (7 : Int) ≤ a := by omega
    have h13 : ¬ (13 : Int) ≤ a := by omega
    have h19 : ¬ (19 : Int) ≤ a := by omega
    have h20 : ¬ (20 : Int) ≤ a := by omega
    have h25 : ¬ (25 : Int) < a := by omega
  all_goals
    clear hw1 hg hp1
    go_enter Tryz.func70, Tryz.ntmps70
    go_upto_region 1 with (fail)
    rw [← HW1.out]
    try rw [HGS.out]
    clear HW1 HGS
    have hrow := H5.out.2.1
    go_wp2_with (first
      | (refine wpList_load_row rfl 81 _ rfl g rfl _ _ _ _ hrow Tryz.underlying81 rfl (resS _ (by rfl)) ?_)
      | (refine wpList_store_row rfl 81 _ _ rfl g _ rfl rfl _ _ hrow (resS _ (by rfl)) rfl (by simp [Value.oneCell']) ?_))
    refine bodyPost_ret (results_cr rfl _ _ ⟨g, 0, none⟩ _ rfl (load_set _ g _ (setRow_heap _ g _ _ _ _ hrow) (by rfl))) (by rfl) ?_
    unfold RowP
    rw [HRO.out]
    exact ⟨rfl, past_row13 H5.out.1 H5.out.2.2 _⟩
theorem row_any (a : Int) (w : World) (hG : Glob13 w) : Calls Tryz.prog 70 #[.int .i64 a] w (RowP a w) := by
  by_cases h : 1 ≤ a ∧ a ≤ 25
  · have : a = 1 ∨ a = 2 ∨ a = 3 ∨ a = 4 ∨ a = 5 ∨ a = 6 ∨ a = 7 ∨ a = 8 ∨ a = 9 ∨ a = 10 ∨ a = 11 ∨ a = 12 ∨ a = 13 ∨ a = 14 ∨ a = 15 ∨ a = 16 ∨ a = 17 ∨ a = 18 ∨ a = 19 ∨ a = 20 ∨ a = 21 ∨ a = 22 ∨ a = 23 ∨ a = 24 ∨ a = 25 := by omega
    rcases this with rfl | rfl | rfl | rfl | rfl | rfl | rfl | rfl | rfl | rfl | rfl | rfl | rfl | rfl | rfl | rfl | rfl | rfl | rfl | rfl | rfl | rfl | rfl | rfl | rfl
    · exact row_1 w hG
    · exact row_2 w hG
    · exact row_3 w hG
    · exact row_4 w hG
    · exact row_5 w hG
    · exact row_6 w hG
    · exact row_7 w hG
    · exact row_8 w hG
    · exact row_9 w hG
    · exact row_10 w hG
    · exact row_11 w hG
    · exact row_12 w hG
    · exact row_13 w hG
    · exact row_14 w hG
    · exact row_15 w hG
    · exact row_16 w hG
    · exact row_17 w hG
    · exact row_18 w hG
    · exact row_19 w hG
    · exact row_20 w hG
    · exact row_21 w hG
    · exact row_22 w hG
    · exact row_23 w hG
    · exact row_24 w hG
    · exact row_25 w hG
  · exact row_out a w h
/-- The numbers of a row's identifier. -/
def oidL (a : Int) : List Int := (parseL (ints (row13 a).text)).getD []
theorem oid_all : ∀ k : Fin 25, (parseL (ints (row13 ((k.val : Int) + 1)).text)).isSome = true ∧ (row13 ((k.val : Int) + 1)).text.size ≤ 100 ∧ 1 ≤ (row13 ((k.val : Int) + 1)).text.size ∧ (oidL ((k.val : Int) + 1)).length ≤ 20 ∧ 2 ≤ (oidL ((k.val : Int) + 1)).length := by decide +kernel
theorem oid_some {a : Int} (h : 1 ≤ a ∧ a ≤ 25) : parseL (ints (row13 a).text) = some (oidL a) ∧ (row13 a).text.size ≤ 100 ∧ 1 ≤ (row13 a).text.size ∧ (oidL a).length ≤ 20 ∧ 2 ≤ (oidL a).length := by
  have := oid_all ⟨(a - 1).toNat, by omega⟩
  simp only at this
  rw [show (((a - 1).toNat : Nat) : Int) + 1 = a by omega] at this
  refine ⟨?_, this.2⟩
  unfold oidL
  cases hp : parseL (ints (row13 a).text) with
  | none => rw [hp] at this; simp at this
  | some l => rfl
/-- What Get answers. -/
def GetP (a : Int) (w : World) (e : Ending) (w' : World) : Prop :=
  (if 1 ≤ a ∧ a ≤ 25 then ∃ A c, e = .returned (.tuple #[setV (row13 a) (.slice A (oidL a).length c), .bool true]) ∧ SlK .u32 w' A (oidL a).length c (oidL a)
    else e = .returned (.tuple #[setV zero13 (.slice none 0 0), .bool false])) ∧ Past w w'
set_option maxHeartbeats 4000000 in
set_option maxRecDepth 100000 in
theorem get_out (a : Int) (w : World) (hG : Glob13 w) (h : ¬ (1 ≤ a ∧ a ≤ 25)) : Calls Tryz.prog 56 #[.int .i64 a] w (GetP a w) := by
  have HNO := Lib.hid h
  obtain ⟨w1, hw1⟩ : ∃ w1, w1 = w.alloc (.cells zeroC 81) := ⟨_, rfl⟩
  obtain ⟨g, hg⟩ : ∃ g, w.heap.size = g := ⟨_, rfl⟩
  have hp1 : Past w w1 := by rw [hw1]; exact past_alloc13 _ _
  have hr1 : Row w1 g 81 zeroC := by rw [hw1, ← hg]; exact Row.new _ _ _
  have H1 : Hid (Past w w1 ∧ Row w1 g 81 zeroC ∧ w.heap.size ≤ g) := Lib.hid ⟨hp1, hr1, by omega⟩
  have HRW := Lib.hid (row_any a w1 (hG.past hp1))
  have HW1 := Lib.hid hw1
  have HGS := Lib.hid hg
  have HRO := Lib.hid (row13_out h)
  unfold RowP at HRW
  rw [HRO.out] at HRW
  clear hw1 hg hp1 hr1 h hG
  go_enter Tryz.func56, Tryz.ntmps56
  go_upto_region 1 with (fail)
  rw [← HW1.out]
  try rw [HGS.out]
  clear HW1 HGS
  go_wp2_with fail
  refine (HRW.out).mono ?_
  rintro e w2 ⟨rfl, hp⟩
  unfold setV zero13
  obtain ⟨w3, hw3⟩ : ∃ w3, w2.alloc (.cells zeroC 81) = w3 := ⟨_, rfl⟩
  have hp3 : Past w2 w3 := by rw [← hw3]; exact past_alloc13 _ _
  have H3 : Hid (Past w w3 ∧ Row w3 g 81 zeroC ∧ w.heap.size ≤ g) := Lib.hid ⟨(H1.out.1.trans' hp).trans' hp3, (H1.out.2.1.past hp).past hp3, H1.out.2.2⟩
  have HW3 := Lib.hid hw3
  clear hp hp3 hw3 H1 HRW
  go_upto_region 2 with (fail)
  rw [HW3.out]
  clear HW3
  have hrow := H3.out.2.1
  go_wp2_with (refine wpList_store_row rfl 81 _ _ rfl g _ rfl rfl _ _ hrow (resS _ (by rfl)) rfl (by simp [Value.oneCell']) ?_)
  refine bodyPost_ret (results_cr rfl _ _ ⟨g, 0, none⟩ _ rfl (load_set _ g _ (setRow_heap _ g _ _ _ _ hrow) (by rfl))) (by rfl) ?_
  unfold GetP
  rw [if_neg HNO.out]
  exact ⟨rfl, past_row13 H3.out.1 H3.out.2.2 _⟩
theorem not_in_set {W : World} {A : Option Addr} {n c g : Nat} {xs : List Int} {r : R13} {o : Value} (h : SlK .u32 W A n c xs) (hn : 2 ≤ n) (hr : Row W g 81 (setC r o)) (ho : ∀ x, o ≠ .int .u32 x) : ∃ b off, A = some ⟨b, off, none⟩ ∧ b ≠ g := by
  obtain ⟨b, off, e, hc⟩ := h.cells (by omega)
  refine ⟨b, off, e, fun hb => ?_⟩
  subst hb
  have h0 := hc 0 (by omega)
  have h1 := hc 1 (by omega)
  rw [hr.cell] at h0 h1
  rcases off with _ | _ | _ | _ | _ | _ | _ | _ | _ | _ | off
  all_goals first
    | (simp at h0; done)
    | (simp at h1; done)
    | (have e0 : o = .int .u32 (xs.getD 0 0) := by simpa using h0
       exact ho _ e0)
theorem SlK.only13 {W W' : World} {A : Option Addr} {n c g : Nat} {xs : List Int} (h : SlK .u32 W A n c xs) (hA : ∃ b off, A = some ⟨b, off, none⟩ ∧ b ≠ g) (hg : W.grownBy W' (some g)) : SlK .u32 W' A n c xs :=
  ⟨h.len, h.cap, h.big, fun hn => by
    obtain ⟨b, o, e, hc⟩ := h.cells hn
    obtain ⟨b', o', e', hb⟩ := hA
    rw [e] at e'
    injection e' with e'
    injection e' with e1 e2
    subst e1 e2
    exact ⟨b, o, e, fun i hi => hg.cell (hc i hi) (fun e => by injection e with e; exact hb e)⟩, h.nil0⟩
theorem setRow_grown13 (W : World) (g : Nat) (cs : Array Value) : W.grownBy (W.setRow g cs) (some g) :=
  ⟨rfl, rfl, rfl, by simp, fun i hi hne => setRow_other W g i cs (fun e => hne (by rw [e]))⟩
set_option maxHeartbeats 8000000 in
set_option maxRecDepth 100000 in
theorem get_in (a : Int) (w : World) (hG : Glob13 w) (h : 1 ≤ a ∧ a ≤ 25) : Calls Tryz.prog 56 #[.int .i64 a] w (GetP a w) := by
  have HIN := Lib.hid h
  obtain ⟨o1, o2, o3, o4, o5⟩ := oid_some h
  have HG := Lib.hid hG
  obtain ⟨w1, hw1⟩ : ∃ w1, w1 = w.alloc (.cells zeroC 81) := ⟨_, rfl⟩
  obtain ⟨g, hg⟩ : ∃ g, w.heap.size = g := ⟨_, rfl⟩
  have hp1 : Past w w1 := by rw [hw1]; exact past_alloc13 _ _
  have hr1 : Row w1 g 81 zeroC := by rw [hw1, ← hg]; exact Row.new _ _ _
  have H1 : Hid (Past w w1 ∧ Row w1 g 81 zeroC ∧ w.heap.size = g) := Lib.hid ⟨hp1, hr1, hg⟩
  have HRW := Lib.hid (row_any a w1 (hG.past hp1))
  have HW1 := Lib.hid hw1
  unfold RowP at HRW
  have HPA := Lib.hid (fun w hG => pparse_any (row13 a).text w hG (by omega))
  rw [o1] at HPA
  obtain ⟨r, hr⟩ : ∃ r, row13 a = r := ⟨_, rfl⟩
  have HR := Lib.hid hr
  rw [hr] at HRW HPA o2 o3
  obtain ⟨l, hl⟩ : ∃ l, oidL a = l := ⟨_, rfl⟩
  have HL := Lib.hid hl
  rw [hl] at HPA o4 o5
  have HL2 := Lib.hid o5
  obtain ⟨T, hT⟩ : ∃ T, r.text = T := ⟨_, rfl⟩
  rw [hT] at HRW HPA o2 o3
  have hne : (T.toList == []) = false := by
    rw [Lib.toList_data]
    have : T.data.toList.length ≠ 0 := by rw [← Lib.size_eq]; omega
    cases hl : T.data.toList with
    | nil => rw [hl] at this; simp at this
    | cons => rfl
  have hne2 : T.toList.isEmpty = false := by
    cases he : T.toList with
    | nil => rw [he] at hne; simp at hne
    | cons => rfl
  clear hw1 hp1 hr1 h hG o1 o2 o3 o4 o5 hr hl hT
  go_enter Tryz.func56, Tryz.ntmps56
  go_upto_region 1 with (fail)
  rw [← HW1.out]
  try rw [hg]
  clear HW1 hg
  go_wp2_with fail
  refine (HRW.out).mono ?_
  rintro e w2 ⟨rfl, hp⟩
  unfold setV
  obtain ⟨u, hu⟩ : ∃ u, w2.heap.size = u := ⟨_, rfl⟩
  obtain ⟨w3, hw3⟩ : ∃ w3, w2.alloc (.cells (setC r (.slice none 0 0)) 81) = w3 := ⟨_, rfl⟩
  have hp3 : Past w2 w3 := by rw [← hw3]; exact past_alloc13 _ _
  have hgu : g < u := by have := (H1.out.2.1.past hp).lt; omega
  have hru : Row w3 u 81 (setC r (.slice none 0 0)) := by rw [← hw3, ← hu]; exact Row.new _ _ _
  have H3 : Hid (Past w w3 ∧ Row w3 g 81 zeroC ∧ Row w3 u 81 (setC r (.slice none 0 0)) ∧ w.heap.size = g ∧ g < u) := Lib.hid ⟨(H1.out.1.trans' hp).trans' hp3, (H1.out.2.1.past hp).past hp3, hru, H1.out.2.2, hgu⟩
  have HW3 := Lib.hid hw3
  have HU := Lib.hid hu
  clear hp hp3 hw3 H1 HRW hgu hru hu
  go_upto_region 2 with (fail)
  rw [HW3.out]
  try rw [HU.out]
  clear HW3 HU
  go_wp2_with fail
  refine (HPA.out _ (HG.out.past H3.out.1).lib).mono ?_
  rintro e w4 ⟨A, c, rfl, hS, hp⟩
  have H4 : Hid (Past w w4 ∧ Row w4 g 81 zeroC ∧ Row w4 u 81 (setC r (.slice none 0 0)) ∧ w.heap.size = g ∧ g < u) := Lib.hid ⟨H3.out.1.trans' hp, H3.out.2.1.past hp, H3.out.2.2.1.past hp, H3.out.2.2.2⟩
  have HS4 := Lib.hid hS
  have c7 := H4.out.2.2.1.cell 7
  have f7 := H4.out.2.2.1.fr 7
  clear hp hS H3
  go_upto_region 5 with (fail)
  obtain ⟨w5, hw5⟩ : ∃ w5, w4.setCell ⟨u, 7, none⟩ (.slice A l.length c) = w5 := ⟨_, rfl⟩
  have hp5 : Past w w5 := by rw [← hw5]; exact H4.out.1.setCell (by show w.heap.size ≤ u; have := H4.out.2.2.2; omega) _
  have hr5 : Row w5 u 81 (setC r (.slice A l.length c)) := by rw [← hw5]; exact H4.out.2.2.1.set 7 _
  have hg5 : Row w5 g 81 zeroC := by
    rw [← hw5]
    exact (Below.heap_setCell w4 ⟨u, 7, none⟩ _ g (by show g ≠ u; have := H4.out.2.2.2; omega)).trans H4.out.2.1
  have hS5 : SlK .u32 w5 A l.length c l := by
    rw [← hw5]
    exact HS4.out.only13 (not_in_set HS4.out HL2.out H4.out.2.2.1 (by intro x e; cases e)) (only_setCell (World.grownBy.refl w4 _) (.inl rfl) _)
  have H5 : Hid (Past w w5 ∧ w.heap.size = g ∧ SlK .u32 w5 A l.length c l) := Lib.hid ⟨hp5, H4.out.2.2.2.1, hS5⟩
  rw [hw5]
  clear hw5 hp5 hS5 H4 HS4 c7 f7
  go_wp2_with (first
    | (refine wpList_load_row rfl 81 _ rfl u rfl _ _ _ _ hr5 Tryz.underlying81 rfl (resS _ (by rfl)) ?_)
    | (refine wpList_store_row rfl 81 _ _ rfl g _ rfl rfl _ _ hg5 (resS _ (by rfl)) rfl (by simp [Value.oneCell']) ?_))
  refine bodyPost_ret (results_cr rfl _ _ ⟨g, 0, none⟩ _ rfl (load_set _ g _ (setRow_heap _ g _ _ _ _ hg5) (by rfl))) (by rfl) ?_
  unfold GetP
  rw [if_pos HIN.out, HR.out, HL.out]
  refine ⟨⟨A, c, rfl, ?_⟩, past_row13 H5.out.1 (by rw [H5.out.2.1]; exact Nat.le_refl _) _⟩
  exact H5.out.2.2.only13 (not_in_set H5.out.2.2 HL2.out (show Row w5 g 81 (setC zero13 (.slice none 0 0)) from hg5) (by intro x e; cases e)) (setRow_grown13 _ _ _)
theorem get_any (a : Int) (w : World) (hG : Glob13 w) : Calls Tryz.prog 56 #[.int .i64 a] w (GetP a w) := by
  by_cases h : 1 ≤ a ∧ a ≤ 25
  · exact get_in a w hG h
  · exact get_out a w hG h
end Go.Proofs.YteflpbkdnebopaaGreatDoor
