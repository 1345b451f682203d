/- The walk of the law ParamsMatchesReference where there is no row. -/
import Derived.Test.YtnjoccmjembppaaDoorLm13A
import Derived.Test.YtnjoccmjembppaaDoorSkip10
import Derived.Deep.RegionHeld3
namespace Go.Proofs.YtnjoccmjembppaaDoor.paramsMatchesReference
open Go.RowKit
set_option linter.unusedVariables false

set_option maxHeartbeats 8000000 in
set_option maxRecDepth 100000 in
theorem walk_out (a : Int) (w : World) (hno : ¬ (1 ≤ a ∧ a ≤ 25)) (hG : Glob13 w) : Calls Tryd.prog 3 #[.int .i64 a] w fun e w' => e = .returned (.bool true) ∧ Past w w' := by
  have HG := Lib.hid hG
  have HGE2 := Lib.hid (fun w hG => get_any a w hG)
  have HRG := Lib.hid (fun w => rget_any a w)
  have HLS := Lib.hid (fun w h => lsame_any zero13 none 0 0 [] w h (by simp) text_nil (by omega))
  have hG2 : Hid (∀ w e w', GetP a w e w' → e = .returned (.tuple #[setV zero13 (.slice none 0 0), .bool false]) ∧ Past w w') := Lib.hid (fun w e w' h => by
    obtain ⟨h, hp⟩ := h
    rw [if_neg hno] at h
    exact ⟨h, hp⟩)
  rw [row13_out hno] at HRG
  unfold setV at HLS
  obtain ⟨r, hr⟩ : ∃ r, zero13 = r := ⟨_, rfl⟩
  rw [hr] at HRG HLS hG2
  clear hr hG
  rcases (show a < 1 ∨ 25 < a by omega) with h | h
  · have h1 : ¬ (1 : Int) ≤ a := by omega
    have h3 : decide ((1 : Int) ≤ a) = false := by simpa using h1
    clear hno
    go_enter Tryd.func3, Tryd.ntmps3
    go_wp2_with fail
    refine (awake13 w HG.out).mono ?_
    rintro e w1 ⟨rfl, hp⟩
    have H1 := Lib.hid hp
    clear hp
    go_wp2_with fail
    refine (HGE2.out w1 (HG.out.past H1.out)).mono ?_
    intro e w2 he
    obtain ⟨rfl, hp⟩ := hG2.out _ _ _ he
    unfold setV
    obtain ⟨u, hu⟩ : ∃ u, w2.heap.size = u := ⟨_, rfl⟩
    obtain ⟨w3, hw3⟩ : ∃ w3, w2.alloc (.cells (setC r (.slice none 0 0)) 26) = w3 := ⟨_, rfl⟩
    have hp3 : Past w2 w3 := by rw [← hw3]; exact past_alloc13 _ _
    have hru : Row w3 u 26 (setC r (.slice none 0 0)) := by rw [← hw3, ← hu]; exact Row.new _ _ _
    have H3 : Hid (Past w w3 ∧ Row w3 u 26 (setC r (.slice none 0 0))) := Lib.hid ⟨(H1.out.trans' hp).trans' hp3, hru⟩
    have HW3 := Lib.hid hw3
    have HU := Lib.hid hu
    clear hp hp3 hru hw3 hu H1 he
    go_upto_region 4 with (fail)
    rw [HW3.out]
    try rw [HU.out]
    clear HW3 HU
    have hrow := H3.out.2
    have HSK : Hid (∀ w', Past w3 w' → (w'.cell? ⟨u, 0, none⟩ = some (.int .i64 r.alg) ∧ w'.cell? ⟨u, 1, none⟩ = some (.int .i64 r.fam) ∧ w'.cell? ⟨u, 2, none⟩ = some (.string r.name) ∧ w'.cell? ⟨u, 3, none⟩ = some (.int .i64 r.pub) ∧ w'.cell? ⟨u, 4, none⟩ = some (.int .i64 r.priv) ∧ w'.cell? ⟨u, 5, none⟩ = some (.int .i64 r.seed) ∧ w'.cell? ⟨u, 6, none⟩ = some (.int .i64 r.sig) ∧ w'.cell? ⟨u, 7, none⟩ = some (.slice none 0 0) ∧ w'.cell? ⟨u, 8, none⟩ = some (.int .i64 r.cose) ∧ w'.cell? ⟨u, 9, none⟩ = some (.int .u32 r.typ))) := by
      refine Lib.hid fun w' hp => ?_
      have q := hrow.past hp
      exact ⟨q.cell 0, q.cell 1, q.cell 2, q.cell 3, q.cell 4, q.cell 5, q.cell 6, q.cell 7, q.cell 8, q.cell 9⟩
    obtain ⟨wd, hwd⟩ : ∃ wd, wd = w3.drew := ⟨_, rfl⟩
    have HPD : Hid (Past w3 wd) := Lib.hid (by rw [hwd]; exact Past.drewN (Below.refl _ w3) 1)
    have HWD := Lib.hid hwd
    clear hrow hwd
    have hU : undef = Value.tuple #[] := rfl
    refine wp_region_any (by kernel_rfl) ?_
    change wpAny _ _ _ _ _ _ _ (World.drew _)
    rw [← HWD.out]
    clear HWD
    obtain ⟨p0, p1, p2, p3, p4, p5, p6, p7, p8, p9⟩ := HSK.out _ HPD.out
    refine wpAny_take (i := 1) (v := .int .i64 a) rfl (by kernel_rfl) (by kernel_rfl) (by kernel_rfl) (fun _ _ _ h => h) (Or.inl ⟨by kernel_rfl, fun w => by kernel_rfl⟩) ?_; (try dsimp only [Act.put])
    refine wpAny_ready (rs := [0, 2]) (by kernel_rfl) (by simp) ?_
    refine AllReady.cons rfl (fun K hK => ?_) (AllReady.cons rfl (fun K hK => ?_) AllReady.nil)
    · go_simp
      refine hK _ _ ?_
      clear hK K
      (try dsimp only [Act.put])
      refine wpAny_ready (rs := [2]) (by kernel_rfl) (by simp) ?_
      refine AllReady.cons rfl (fun K hK => ?_) AllReady.nil
      go_simp
      refine (HRG.out _).mono ?_
      rintro e7 w7 ⟨rfl, hp7⟩
      have HP7 : Hid (Past w3 w7) := Lib.hid (HPD.out.trans' hp7)
      obtain ⟨q0, q1, q2, q3, q4, q5, q6, q7, q8, q9⟩ := HSK.out _ HP7.out
      clear hp7
      refine hK _ _ ?_
      clear hK K
      (try dsimp only [Act.put])
      refine wpAny_ready (rs := [3]) (by kernel_rfl) (by simp) ?_
      refine AllReady.cons rfl (fun K hK => ?_) AllReady.nil
      go_simp
      refine (HLS.out _ (SlK.nil _ _)).mono ?_
      rintro e8 w8 ⟨rfl, hp8⟩
      have HP8 : Hid (Past w3 w8) := Lib.hid (HP7.out.trans' hp8)
      clear hp8
      refine hK _ _ ?_
      clear hK K
      (try dsimp only [Act.put])
      refine wpAny_take (i := 4) (v := .bool false) rfl (by kernel_rfl) (by kernel_rfl) (by kernel_rfl) (fun _ _ _ h => h) (Or.inl ⟨by kernel_rfl, fun w => by kernel_rfl⟩) ?_; (try dsimp only [Act.put])
      refine wpAny_take (i := 5) (v := .bool false) rfl (by kernel_rfl) (by kernel_rfl) (by kernel_rfl) (fun _ _ _ h => h) (Or.inl ⟨by kernel_rfl, fun w => by kernel_rfl⟩) ?_; (try dsimp only [Act.put])
      refine wpAny_take (i := 6) (v := .bool false) rfl (by kernel_rfl) (by kernel_rfl) (by kernel_rfl) (fun _ _ _ h => h) (Or.inl ⟨by kernel_rfl, fun w => by kernel_rfl⟩) ?_; (try dsimp only [Act.put])
      refine wpAny_take (i := 7) (v := .int .i64 a) rfl (by kernel_rfl) (by kernel_rfl) (by kernel_rfl) (fun _ _ _ h => h) (Or.inl ⟨by kernel_rfl, fun w => by kernel_rfl⟩) ?_; (try dsimp only [Act.put])
      refine wpAny_take (i := 8) (v := .bool false) rfl (by kernel_rfl) (by kernel_rfl) (by kernel_rfl) (fun _ _ _ h => h) (Or.inl ⟨by kernel_rfl, fun w => by go_simp⟩) ?_; (try dsimp only [Act.put])
      refine wpAny_take (i := 9) (v := .bool false) rfl (by kernel_rfl) (by kernel_rfl) (by kernel_rfl) (fun _ _ _ h => h) (Or.inl ⟨by kernel_rfl, fun w => by kernel_rfl⟩) ?_; (try dsimp only [Act.put])
      refine wpAny_skips (fuel := 3) (by kernel_rfl) [10, 11] _ _ (by repeat (first | exact trivial | refine ⟨fun _ _ _ h => h, ?_⟩)) (by kernel_rfl) ?_; dsimp only [skipL, skipA]; (try dsimp only [Act.put])
      refine wpAny_take (i := 12) (v := .bool false) rfl (by kernel_rfl) (by kernel_rfl) (by kernel_rfl) (fun _ _ _ h => h) (Or.inl ⟨by kernel_rfl, fun w => by kernel_rfl⟩) ?_; (try dsimp only [Act.put])
      refine wpAny_take (i := 13) (v := .bool false) rfl (by kernel_rfl) (by kernel_rfl) (by kernel_rfl) (fun _ _ _ h => h) (Or.inl ⟨by kernel_rfl, fun w => by kernel_rfl⟩) ?_; (try dsimp only [Act.put])
      refine wpAny_take (i := 14) (v := .bool false) rfl (by kernel_rfl) (by kernel_rfl) (by kernel_rfl) (fun _ _ _ h => h) (Or.inl ⟨by kernel_rfl, fun w => by kernel_rfl⟩) ?_; (try dsimp only [Act.put])
      refine wpAny_done (by kernel_rfl) ?_ _
      go_simp
      have H8 : Hid (Past w w8 ∧ Row w8 u 26 (setC r (.slice none 0 0))) := Lib.hid ⟨H3.out.1.trans' HP8.out, H3.out.2.past HP8.out⟩
      clear HP8 HP7 HPD HSK H3
      go_wp2_with fail
      go_loopg [5] 0 (fun q s5 wx => s5 = .int .i64 0 ∧ Hid (Past w wx ∧ Row wx u 26 (setC r (.slice none 0 0))))
      case atStart => exact ⟨rfl, H8⟩
      case round =>
        clear H8
        obtain ⟨rfl, HO⟩ := hrel
        have k7 := HO.out.2.cell 7
        go_wp2_with fail
        refine (HGE2.out wr (HG.out.past HO.out.1)).mono ?_
        intro e w4 he
        obtain ⟨rfl, hp⟩ := hG2.out _ _ _ he
        unfold setV
        obtain ⟨u2, hu⟩ : ∃ u2, w4.heap.size = u2 := ⟨_, rfl⟩
        obtain ⟨w5, hw5⟩ : ∃ w5, w4.alloc (.cells (setC r (.slice none 0 0)) 26) = w5 := ⟨_, rfl⟩
        have hp5 : Past w4 w5 := by rw [← hw5]; exact past_alloc13 _ _
        have hrow : Row w5 u2 26 (setC r (.slice none 0 0)) := by rw [← hw5, ← hu]; exact Row.new _ _ _
        have H5 : Hid (Past w w5) := Lib.hid ((HO.out.1.trans' hp).trans' hp5)
        have HW5 := Lib.hid hw5
        have HU2 := Lib.hid hu
        clear hp hp5 hw5 hu he HO
        go_upto_region 11 with (fail)
        rw [HW5.out]
        try rw [HU2.out]
        clear HW5 HU2
        have HSL3 : Hid (∀ w', Past w5 w' → (w'.cell? ⟨u2, 0, none⟩ = some (.int .i64 r.alg) ∧ w'.cell? ⟨u2, 1, none⟩ = some (.int .i64 r.fam) ∧ w'.cell? ⟨u2, 2, none⟩ = some (.string r.name) ∧ w'.cell? ⟨u2, 3, none⟩ = some (.int .i64 r.pub) ∧ w'.cell? ⟨u2, 4, none⟩ = some (.int .i64 r.priv) ∧ w'.cell? ⟨u2, 5, none⟩ = some (.int .i64 r.seed) ∧ w'.cell? ⟨u2, 6, none⟩ = some (.int .i64 r.sig) ∧ w'.cell? ⟨u2, 7, none⟩ = some (.slice none 0 0) ∧ w'.cell? ⟨u2, 8, none⟩ = some (.int .i64 r.cose) ∧ w'.cell? ⟨u2, 9, none⟩ = some (.int .u32 r.typ))) := by
          refine Lib.hid fun w' hp => ?_
          have q := hrow.past hp
          exact ⟨q.cell 0, q.cell 1, q.cell 2, q.cell 3, q.cell 4, q.cell 5, q.cell 6, q.cell 7, q.cell 8, q.cell 9⟩
        have HPE : Hid (Past w5 w5.drew) := Lib.hid (Past.drewN (Below.refl _ w5) 1)
        clear hrow
        first | (go_region_held3 (fun w' => w'.cell? ⟨u2, 0, none⟩ = some (.int .i64 r.alg) ∧ w'.cell? ⟨u2, 1, none⟩ = some (.int .i64 r.fam) ∧ w'.cell? ⟨u2, 2, none⟩ = some (.string r.name) ∧ w'.cell? ⟨u2, 3, none⟩ = some (.int .i64 r.pub) ∧ w'.cell? ⟨u2, 4, none⟩ = some (.int .i64 r.priv) ∧ w'.cell? ⟨u2, 5, none⟩ = some (.int .i64 r.seed) ∧ w'.cell? ⟨u2, 6, none⟩ = some (.int .i64 r.sig) ∧ w'.cell? ⟨u2, 7, none⟩ = some (.slice none 0 0) ∧ w'.cell? ⟨u2, 8, none⟩ = some (.int .i64 r.cose) ∧ w'.cell? ⟨u2, 9, none⟩ = some (.int .u32 r.typ))
          (first
          | exact HSL3.out _ HP10.out
          | exact HSL3.out _ HP9.out
          | exact HSL3.out _ HPE.out)
          (first
          | (go_at_call 11; (with_reducible refine (HRG.out _).mono ?_); rintro e9 w9 ⟨rfl, hp9⟩; have HP9 : Hid (Past w5 w9) := Lib.hid (HPE.out.trans' hp9); clear hp9)
          | (go_at_call 10; (with_reducible refine (HLS.out _ (SlK.nil _ _)).mono ?_); rintro e10 w10 ⟨rfl, hp10⟩; have HP10 : Hid (Past w5 w10) := Lib.hid (HP9.out.trans' hp10); clear hp10))) | fail
        all_goals
          go_wp2_with fail
          go_ret
          exact ⟨rfl, H5.out.trans' HP10.out⟩
    · go_simp
      refine (HRG.out _).mono ?_
      rintro e7 w7 ⟨rfl, hp7⟩
      have HP7 : Hid (Past w3 w7) := Lib.hid (HPD.out.trans' hp7)
      obtain ⟨q0, q1, q2, q3, q4, q5, q6, q7, q8, q9⟩ := HSK.out _ HP7.out
      clear hp7
      refine hK _ _ ?_
      clear hK K
      (try dsimp only [Act.put])
      refine wpAny_ready (rs := [0]) (by kernel_rfl) (by simp) ?_
      refine AllReady.cons rfl (fun K hK => ?_) AllReady.nil
      go_simp
      refine hK _ _ ?_
      clear hK K
      (try dsimp only [Act.put])
      refine wpAny_ready (rs := [3]) (by kernel_rfl) (by simp) ?_
      refine AllReady.cons rfl (fun K hK => ?_) AllReady.nil
      go_simp
      refine (HLS.out _ (SlK.nil _ _)).mono ?_
      rintro e8 w8 ⟨rfl, hp8⟩
      have HP8 : Hid (Past w3 w8) := Lib.hid (HP7.out.trans' hp8)
      clear hp8
      refine hK _ _ ?_
      clear hK K
      (try dsimp only [Act.put])
      refine wpAny_take (i := 4) (v := .bool false) rfl (by kernel_rfl) (by kernel_rfl) (by kernel_rfl) (fun _ _ _ h => h) (Or.inl ⟨by kernel_rfl, fun w => by kernel_rfl⟩) ?_; (try dsimp only [Act.put])
      refine wpAny_take (i := 5) (v := .bool false) rfl (by kernel_rfl) (by kernel_rfl) (by kernel_rfl) (fun _ _ _ h => h) (Or.inl ⟨by kernel_rfl, fun w => by kernel_rfl⟩) ?_; (try dsimp only [Act.put])
      refine wpAny_take (i := 6) (v := .bool false) rfl (by kernel_rfl) (by kernel_rfl) (by kernel_rfl) (fun _ _ _ h => h) (Or.inl ⟨by kernel_rfl, fun w => by kernel_rfl⟩) ?_; (try dsimp only [Act.put])
      refine wpAny_take (i := 7) (v := .int .i64 a) rfl (by kernel_rfl) (by kernel_rfl) (by kernel_rfl) (fun _ _ _ h => h) (Or.inl ⟨by kernel_rfl, fun w => by kernel_rfl⟩) ?_; (try dsimp only [Act.put])
      refine wpAny_take (i := 8) (v := .bool false) rfl (by kernel_rfl) (by kernel_rfl) (by kernel_rfl) (fun _ _ _ h => h) (Or.inl ⟨by kernel_rfl, fun w => by go_simp⟩) ?_; (try dsimp only [Act.put])
      refine wpAny_take (i := 9) (v := .bool false) rfl (by kernel_rfl) (by kernel_rfl) (by kernel_rfl) (fun _ _ _ h => h) (Or.inl ⟨by kernel_rfl, fun w => by kernel_rfl⟩) ?_; (try dsimp only [Act.put])
      refine wpAny_skips (fuel := 3) (by kernel_rfl) [10, 11] _ _ (by repeat (first | exact trivial | refine ⟨fun _ _ _ h => h, ?_⟩)) (by kernel_rfl) ?_; dsimp only [skipL, skipA]; (try dsimp only [Act.put])
      refine wpAny_take (i := 12) (v := .bool false) rfl (by kernel_rfl) (by kernel_rfl) (by kernel_rfl) (fun _ _ _ h => h) (Or.inl ⟨by kernel_rfl, fun w => by kernel_rfl⟩) ?_; (try dsimp only [Act.put])
      refine wpAny_take (i := 13) (v := .bool false) rfl (by kernel_rfl) (by kernel_rfl) (by kernel_rfl) (fun _ _ _ h => h) (Or.inl ⟨by kernel_rfl, fun w => by kernel_rfl⟩) ?_; (try dsimp only [Act.put])
      refine wpAny_take (i := 14) (v := .bool false) rfl (by kernel_rfl) (by kernel_rfl) (by kernel_rfl) (fun _ _ _ h => h) (Or.inl ⟨by kernel_rfl, fun w => by kernel_rfl⟩) ?_; (try dsimp only [Act.put])
      refine wpAny_done (by kernel_rfl) ?_ _
      go_simp
      have H8 : Hid (Past w w8 ∧ Row w8 u 26 (setC r (.slice none 0 0))) := Lib.hid ⟨H3.out.1.trans' HP8.out, H3.out.2.past HP8.out⟩
      clear HP8 HP7 HPD HSK H3
      go_wp2_with fail
      go_loopg [5] 0 (fun q s5 wx => s5 = .int .i64 0 ∧ Hid (Past w wx ∧ Row wx u 26 (setC r (.slice none 0 0))))
      case atStart => exact ⟨rfl, H8⟩
      case round =>
        clear H8
        obtain ⟨rfl, HO⟩ := hrel
        have k7 := HO.out.2.cell 7
        go_wp2_with fail
        refine (HGE2.out wr (HG.out.past HO.out.1)).mono ?_
        intro e w4 he
        obtain ⟨rfl, hp⟩ := hG2.out _ _ _ he
        unfold setV
        obtain ⟨u2, hu⟩ : ∃ u2, w4.heap.size = u2 := ⟨_, rfl⟩
        obtain ⟨w5, hw5⟩ : ∃ w5, w4.alloc (.cells (setC r (.slice none 0 0)) 26) = w5 := ⟨_, rfl⟩
        have hp5 : Past w4 w5 := by rw [← hw5]; exact past_alloc13 _ _
        have hrow : Row w5 u2 26 (setC r (.slice none 0 0)) := by rw [← hw5, ← hu]; exact Row.new _ _ _
        have H5 : Hid (Past w w5) := Lib.hid ((HO.out.1.trans' hp).trans' hp5)
        have HW5 := Lib.hid hw5
        have HU2 := Lib.hid hu
        clear hp hp5 hw5 hu he HO
        go_upto_region 11 with (fail)
        rw [HW5.out]
        try rw [HU2.out]
        clear HW5 HU2
        have HSL3 : Hid (∀ w', Past w5 w' → (w'.cell? ⟨u2, 0, none⟩ = some (.int .i64 r.alg) ∧ w'.cell? ⟨u2, 1, none⟩ = some (.int .i64 r.fam) ∧ w'.cell? ⟨u2, 2, none⟩ = some (.string r.name) ∧ w'.cell? ⟨u2, 3, none⟩ = some (.int .i64 r.pub) ∧ w'.cell? ⟨u2, 4, none⟩ = some (.int .i64 r.priv) ∧ w'.cell? ⟨u2, 5, none⟩ = some (.int .i64 r.seed) ∧ w'.cell? ⟨u2, 6, none⟩ = some (.int .i64 r.sig) ∧ w'.cell? ⟨u2, 7, none⟩ = some (.slice none 0 0) ∧ w'.cell? ⟨u2, 8, none⟩ = some (.int .i64 r.cose) ∧ w'.cell? ⟨u2, 9, none⟩ = some (.int .u32 r.typ))) := by
          refine Lib.hid fun w' hp => ?_
          have q := hrow.past hp
          exact ⟨q.cell 0, q.cell 1, q.cell 2, q.cell 3, q.cell 4, q.cell 5, q.cell 6, q.cell 7, q.cell 8, q.cell 9⟩
        have HPE : Hid (Past w5 w5.drew) := Lib.hid (Past.drewN (Below.refl _ w5) 1)
        clear hrow
        first | (go_region_held3 (fun w' => w'.cell? ⟨u2, 0, none⟩ = some (.int .i64 r.alg) ∧ w'.cell? ⟨u2, 1, none⟩ = some (.int .i64 r.fam) ∧ w'.cell? ⟨u2, 2, none⟩ = some (.string r.name) ∧ w'.cell? ⟨u2, 3, none⟩ = some (.int .i64 r.pub) ∧ w'.cell? ⟨u2, 4, none⟩ = some (.int .i64 r.priv) ∧ w'.cell? ⟨u2, 5, none⟩ = some (.int .i64 r.seed) ∧ w'.cell? ⟨u2, 6, none⟩ = some (.int .i64 r.sig) ∧ w'.cell? ⟨u2, 7, none⟩ = some (.slice none 0 0) ∧ w'.cell? ⟨u2, 8, none⟩ = some (.int .i64 r.cose) ∧ w'.cell? ⟨u2, 9, none⟩ = some (.int .u32 r.typ))
          (first
          | exact HSL3.out _ HP10.out
          | exact HSL3.out _ HP9.out
          | exact HSL3.out _ HPE.out)
          (first
          | (go_at_call 11; (with_reducible refine (HRG.out _).mono ?_); rintro e9 w9 ⟨rfl, hp9⟩; have HP9 : Hid (Past w5 w9) := Lib.hid (HPE.out.trans' hp9); clear hp9)
          | (go_at_call 10; (with_reducible refine (HLS.out _ (SlK.nil _ _)).mono ?_); rintro e10 w10 ⟨rfl, hp10⟩; have HP10 : Hid (Past w5 w10) := Lib.hid (HP9.out.trans' hp10); clear hp10))) | fail
        all_goals
          go_wp2_with fail
          go_ret
          exact ⟨rfl, H5.out.trans' HP10.out⟩
  · have h1 : (1 : Int) ≤ a := by omega
    have h2 : ¬ a ≤ (25 : Int) := by omega
    have h3 : decide ((1 : Int) ≤ a) = true := by simpa using h1
    have h4 : decide (a ≤ (25 : Int)) = false := by simpa using h2
    clear hno
    go_enter Tryd.func3, Tryd.ntmps3
    go_wp2_with fail
    refine (awake13 w HG.out).mono ?_
    rintro e w1 ⟨rfl, hp⟩
    have H1 := Lib.hid hp
    clear hp
    go_wp2_with fail
    refine (HGE2.out w1 (HG.out.past H1.out)).mono ?_
    intro e w2 he
    obtain ⟨rfl, hp⟩ := hG2.out _ _ _ he
    unfold setV
    obtain ⟨u, hu⟩ : ∃ u, w2.heap.size = u := ⟨_, rfl⟩
    obtain ⟨w3, hw3⟩ : ∃ w3, w2.alloc (.cells (setC r (.slice none 0 0)) 26) = w3 := ⟨_, rfl⟩
    have hp3 : Past w2 w3 := by rw [← hw3]; exact past_alloc13 _ _
    have hru : Row w3 u 26 (setC r (.slice none 0 0)) := by rw [← hw3, ← hu]; exact Row.new _ _ _
    have H3 : Hid (Past w w3 ∧ Row w3 u 26 (setC r (.slice none 0 0))) := Lib.hid ⟨(H1.out.trans' hp).trans' hp3, hru⟩
    have HW3 := Lib.hid hw3
    have HU := Lib.hid hu
    clear hp hp3 hru hw3 hu H1 he
    go_upto_region 4 with (fail)
    rw [HW3.out]
    try rw [HU.out]
    clear HW3 HU
    have hrow := H3.out.2
    have HSK : Hid (∀ w', Past w3 w' → (w'.cell? ⟨u, 0, none⟩ = some (.int .i64 r.alg) ∧ w'.cell? ⟨u, 1, none⟩ = some (.int .i64 r.fam) ∧ w'.cell? ⟨u, 2, none⟩ = some (.string r.name) ∧ w'.cell? ⟨u, 3, none⟩ = some (.int .i64 r.pub) ∧ w'.cell? ⟨u, 4, none⟩ = some (.int .i64 r.priv) ∧ w'.cell? ⟨u, 5, none⟩ = some (.int .i64 r.seed) ∧ w'.cell? ⟨u, 6, none⟩ = some (.int .i64 r.sig) ∧ w'.cell? ⟨u, 7, none⟩ = some (.slice none 0 0) ∧ w'.cell? ⟨u, 8, none⟩ = some (.int .i64 r.cose) ∧ w'.cell? ⟨u, 9, none⟩ = some (.int .u32 r.typ))) := by
      refine Lib.hid fun w' hp => ?_
      have q := hrow.past hp
      exact ⟨q.cell 0, q.cell 1, q.cell 2, q.cell 3, q.cell 4, q.cell 5, q.cell 6, q.cell 7, q.cell 8, q.cell 9⟩
    obtain ⟨wd, hwd⟩ : ∃ wd, wd = w3.drew := ⟨_, rfl⟩
    have HPD : Hid (Past w3 wd) := Lib.hid (by rw [hwd]; exact Past.drewN (Below.refl _ w3) 1)
    have HWD := Lib.hid hwd
    clear hrow hwd
    have hU : undef = Value.tuple #[] := rfl
    refine wp_region_any (by kernel_rfl) ?_
    change wpAny _ _ _ _ _ _ _ (World.drew _)
    rw [← HWD.out]
    clear HWD
    obtain ⟨p0, p1, p2, p3, p4, p5, p6, p7, p8, p9⟩ := HSK.out _ HPD.out
    refine wpAny_take (i := 1) (v := .int .i64 a) rfl (by kernel_rfl) (by kernel_rfl) (by kernel_rfl) (fun _ _ _ h => h) (Or.inl ⟨by kernel_rfl, fun w => by kernel_rfl⟩) ?_; (try dsimp only [Act.put])
    refine wpAny_ready (rs := [0, 2]) (by kernel_rfl) (by simp) ?_
    refine AllReady.cons rfl (fun K hK => ?_) (AllReady.cons rfl (fun K hK => ?_) AllReady.nil)
    · go_simp
      refine hK _ _ ?_
      clear hK K
      (try dsimp only [Act.put])
      refine wpAny_ready (rs := [2]) (by kernel_rfl) (by simp) ?_
      refine AllReady.cons rfl (fun K hK => ?_) AllReady.nil
      go_simp
      refine (HRG.out _).mono ?_
      rintro e7 w7 ⟨rfl, hp7⟩
      have HP7 : Hid (Past w3 w7) := Lib.hid (HPD.out.trans' hp7)
      obtain ⟨q0, q1, q2, q3, q4, q5, q6, q7, q8, q9⟩ := HSK.out _ HP7.out
      clear hp7
      refine hK _ _ ?_
      clear hK K
      (try dsimp only [Act.put])
      refine wpAny_ready (rs := [3]) (by kernel_rfl) (by simp) ?_
      refine AllReady.cons rfl (fun K hK => ?_) AllReady.nil
      go_simp
      refine (HLS.out _ (SlK.nil _ _)).mono ?_
      rintro e8 w8 ⟨rfl, hp8⟩
      have HP8 : Hid (Past w3 w8) := Lib.hid (HP7.out.trans' hp8)
      clear hp8
      refine hK _ _ ?_
      clear hK K
      (try dsimp only [Act.put])
      refine wpAny_take (i := 4) (v := .bool false) rfl (by kernel_rfl) (by kernel_rfl) (by kernel_rfl) (fun _ _ _ h => h) (Or.inl ⟨by kernel_rfl, fun w => by kernel_rfl⟩) ?_; (try dsimp only [Act.put])
      refine wpAny_take (i := 5) (v := .bool false) rfl (by kernel_rfl) (by kernel_rfl) (by kernel_rfl) (fun _ _ _ h => h) (Or.inl ⟨by kernel_rfl, fun w => by kernel_rfl⟩) ?_; (try dsimp only [Act.put])
      refine wpAny_take (i := 6) (v := .bool false) rfl (by kernel_rfl) (by kernel_rfl) (by kernel_rfl) (fun _ _ _ h => h) (Or.inl ⟨by kernel_rfl, fun w => by kernel_rfl⟩) ?_; (try dsimp only [Act.put])
      refine wpAny_take (i := 7) (v := .int .i64 a) rfl (by kernel_rfl) (by kernel_rfl) (by kernel_rfl) (fun _ _ _ h => h) (Or.inl ⟨by kernel_rfl, fun w => by kernel_rfl⟩) ?_; (try dsimp only [Act.put])
      refine wpAny_take (i := 8) (v := .bool true) rfl (by kernel_rfl) (by kernel_rfl) (by kernel_rfl) (fun _ _ _ h => h) (Or.inl ⟨by kernel_rfl, fun w => by go_simp⟩) ?_; (try dsimp only [Act.put])
      refine wpAny_take (i := 9) (v := .bool true) rfl (by kernel_rfl) (by kernel_rfl) (by kernel_rfl) (fun _ _ _ h => h) (Or.inl ⟨by kernel_rfl, fun w => by kernel_rfl⟩) ?_; (try dsimp only [Act.put])
      refine wpAny_take (i := 10) (v := .int .i64 a) rfl (by kernel_rfl) (by kernel_rfl) (by kernel_rfl) (fun _ _ _ h => h) (Or.inl ⟨by kernel_rfl, fun w => by kernel_rfl⟩) ?_; (try dsimp only [Act.put])
      refine wpAny_take (i := 11) (v := .bool false) rfl (by kernel_rfl) (by kernel_rfl) (by kernel_rfl) (fun _ _ _ h => h) (Or.inl ⟨by kernel_rfl, fun w => by go_simp⟩) ?_; (try dsimp only [Act.put])
      refine wpAny_take (i := 12) (v := .bool false) rfl (by kernel_rfl) (by kernel_rfl) (by kernel_rfl) (fun _ _ _ h => h) (Or.inl ⟨by kernel_rfl, fun w => by kernel_rfl⟩) ?_; (try dsimp only [Act.put])
      refine wpAny_take (i := 13) (v := .bool false) rfl (by kernel_rfl) (by kernel_rfl) (by kernel_rfl) (fun _ _ _ h => h) (Or.inl ⟨by kernel_rfl, fun w => by kernel_rfl⟩) ?_; (try dsimp only [Act.put])
      refine wpAny_take (i := 14) (v := .bool false) rfl (by kernel_rfl) (by kernel_rfl) (by kernel_rfl) (fun _ _ _ h => h) (Or.inl ⟨by kernel_rfl, fun w => by kernel_rfl⟩) ?_; (try dsimp only [Act.put])
      refine wpAny_done (by kernel_rfl) ?_ _
      go_simp
      have H8 : Hid (Past w w8 ∧ Row w8 u 26 (setC r (.slice none 0 0))) := Lib.hid ⟨H3.out.1.trans' HP8.out, H3.out.2.past HP8.out⟩
      clear HP8 HP7 HPD HSK H3
      go_wp2_with fail
      go_loopg [5] 0 (fun q s5 wx => s5 = .int .i64 0 ∧ Hid (Past w wx ∧ Row wx u 26 (setC r (.slice none 0 0))))
      case atStart => exact ⟨rfl, H8⟩
      case round =>
        clear H8
        obtain ⟨rfl, HO⟩ := hrel
        have k7 := HO.out.2.cell 7
        go_wp2_with fail
        refine (HGE2.out wr (HG.out.past HO.out.1)).mono ?_
        intro e w4 he
        obtain ⟨rfl, hp⟩ := hG2.out _ _ _ he
        unfold setV
        obtain ⟨u2, hu⟩ : ∃ u2, w4.heap.size = u2 := ⟨_, rfl⟩
        obtain ⟨w5, hw5⟩ : ∃ w5, w4.alloc (.cells (setC r (.slice none 0 0)) 26) = w5 := ⟨_, rfl⟩
        have hp5 : Past w4 w5 := by rw [← hw5]; exact past_alloc13 _ _
        have hrow : Row w5 u2 26 (setC r (.slice none 0 0)) := by rw [← hw5, ← hu]; exact Row.new _ _ _
        have H5 : Hid (Past w w5) := Lib.hid ((HO.out.1.trans' hp).trans' hp5)
        have HW5 := Lib.hid hw5
        have HU2 := Lib.hid hu
        clear hp hp5 hw5 hu he HO
        go_upto_region 11 with (fail)
        rw [HW5.out]
        try rw [HU2.out]
        clear HW5 HU2
        have HSL3 : Hid (∀ w', Past w5 w' → (w'.cell? ⟨u2, 0, none⟩ = some (.int .i64 r.alg) ∧ w'.cell? ⟨u2, 1, none⟩ = some (.int .i64 r.fam) ∧ w'.cell? ⟨u2, 2, none⟩ = some (.string r.name) ∧ w'.cell? ⟨u2, 3, none⟩ = some (.int .i64 r.pub) ∧ w'.cell? ⟨u2, 4, none⟩ = some (.int .i64 r.priv) ∧ w'.cell? ⟨u2, 5, none⟩ = some (.int .i64 r.seed) ∧ w'.cell? ⟨u2, 6, none⟩ = some (.int .i64 r.sig) ∧ w'.cell? ⟨u2, 7, none⟩ = some (.slice none 0 0) ∧ w'.cell? ⟨u2, 8, none⟩ = some (.int .i64 r.cose) ∧ w'.cell? ⟨u2, 9, none⟩ = some (.int .u32 r.typ))) := by
          refine Lib.hid fun w' hp => ?_
          have q := hrow.past hp
          exact ⟨q.cell 0, q.cell 1, q.cell 2, q.cell 3, q.cell 4, q.cell 5, q.cell 6, q.cell 7, q.cell 8, q.cell 9⟩
        have HPE : Hid (Past w5 w5.drew) := Lib.hid (Past.drewN (Below.refl _ w5) 1)
        clear hrow
        first | (go_region_held3 (fun w' => w'.cell? ⟨u2, 0, none⟩ = some (.int .i64 r.alg) ∧ w'.cell? ⟨u2, 1, none⟩ = some (.int .i64 r.fam) ∧ w'.cell? ⟨u2, 2, none⟩ = some (.string r.name) ∧ w'.cell? ⟨u2, 3, none⟩ = some (.int .i64 r.pub) ∧ w'.cell? ⟨u2, 4, none⟩ = some (.int .i64 r.priv) ∧ w'.cell? ⟨u2, 5, none⟩ = some (.int .i64 r.seed) ∧ w'.cell? ⟨u2, 6, none⟩ = some (.int .i64 r.sig) ∧ w'.cell? ⟨u2, 7, none⟩ = some (.slice none 0 0) ∧ w'.cell? ⟨u2, 8, none⟩ = some (.int .i64 r.cose) ∧ w'.cell? ⟨u2, 9, none⟩ = some (.int .u32 r.typ))
          (first
          | exact HSL3.out _ HP10.out
          | exact HSL3.out _ HP9.out
          | exact HSL3.out _ HPE.out)
          (first
          | (go_at_call 11; (with_reducible refine (HRG.out _).mono ?_); rintro e9 w9 ⟨rfl, hp9⟩; have HP9 : Hid (Past w5 w9) := Lib.hid (HPE.out.trans' hp9); clear hp9)
          | (go_at_call 10; (with_reducible refine (HLS.out _ (SlK.nil _ _)).mono ?_); rintro e10 w10 ⟨rfl, hp10⟩; have HP10 : Hid (Past w5 w10) := Lib.hid (HP9.out.trans' hp10); clear hp10))) | fail
        all_goals
          go_wp2_with fail
          go_ret
          exact ⟨rfl, H5.out.trans' HP10.out⟩
    · go_simp
      refine (HRG.out _).mono ?_
      rintro e7 w7 ⟨rfl, hp7⟩
      have HP7 : Hid (Past w3 w7) := Lib.hid (HPD.out.trans' hp7)
      obtain ⟨q0, q1, q2, q3, q4, q5, q6, q7, q8, q9⟩ := HSK.out _ HP7.out
      clear hp7
      refine hK _ _ ?_
      clear hK K
      (try dsimp only [Act.put])
      refine wpAny_ready (rs := [0]) (by kernel_rfl) (by simp) ?_
      refine AllReady.cons rfl (fun K hK => ?_) AllReady.nil
      go_simp
      refine hK _ _ ?_
      clear hK K
      (try dsimp only [Act.put])
      refine wpAny_ready (rs := [3]) (by kernel_rfl) (by simp) ?_
      refine AllReady.cons rfl (fun K hK => ?_) AllReady.nil
      go_simp
      refine (HLS.out _ (SlK.nil _ _)).mono ?_
      rintro e8 w8 ⟨rfl, hp8⟩
      have HP8 : Hid (Past w3 w8) := Lib.hid (HP7.out.trans' hp8)
      clear hp8
      refine hK _ _ ?_
      clear hK K
      (try dsimp only [Act.put])
      refine wpAny_take (i := 4) (v := .bool false) rfl (by kernel_rfl) (by kernel_rfl) (by kernel_rfl) (fun _ _ _ h => h) (Or.inl ⟨by kernel_rfl, fun w => by kernel_rfl⟩) ?_; (try dsimp only [Act.put])
      refine wpAny_take (i := 5) (v := .bool false) rfl (by kernel_rfl) (by kernel_rfl) (by kernel_rfl) (fun _ _ _ h => h) (Or.inl ⟨by kernel_rfl, fun w => by kernel_rfl⟩) ?_; (try dsimp only [Act.put])
      refine wpAny_take (i := 6) (v := .bool false) rfl (by kernel_rfl) (by kernel_rfl) (by kernel_rfl) (fun _ _ _ h => h) (Or.inl ⟨by kernel_rfl, fun w => by kernel_rfl⟩) ?_; (try dsimp only [Act.put])
      refine wpAny_take (i := 7) (v := .int .i64 a) rfl (by kernel_rfl) (by kernel_rfl) (by kernel_rfl) (fun _ _ _ h => h) (Or.inl ⟨by kernel_rfl, fun w => by kernel_rfl⟩) ?_; (try dsimp only [Act.put])
      refine wpAny_take (i := 8) (v := .bool true) rfl (by kernel_rfl) (by kernel_rfl) (by kernel_rfl) (fun _ _ _ h => h) (Or.inl ⟨by kernel_rfl, fun w => by go_simp⟩) ?_; (try dsimp only [Act.put])
      refine wpAny_take (i := 9) (v := .bool true) rfl (by kernel_rfl) (by kernel_rfl) (by kernel_rfl) (fun _ _ _ h => h) (Or.inl ⟨by kernel_rfl, fun w => by kernel_rfl⟩) ?_; (try dsimp only [Act.put])
      refine wpAny_take (i := 10) (v := .int .i64 a) rfl (by kernel_rfl) (by kernel_rfl) (by kernel_rfl) (fun _ _ _ h => h) (Or.inl ⟨by kernel_rfl, fun w => by kernel_rfl⟩) ?_; (try dsimp only [Act.put])
      refine wpAny_take (i := 11) (v := .bool false) rfl (by kernel_rfl) (by kernel_rfl) (by kernel_rfl) (fun _ _ _ h => h) (Or.inl ⟨by kernel_rfl, fun w => by go_simp⟩) ?_; (try dsimp only [Act.put])
      refine wpAny_take (i := 12) (v := .bool false) rfl (by kernel_rfl) (by kernel_rfl) (by kernel_rfl) (fun _ _ _ h => h) (Or.inl ⟨by kernel_rfl, fun w => by kernel_rfl⟩) ?_; (try dsimp only [Act.put])
      refine wpAny_take (i := 13) (v := .bool false) rfl (by kernel_rfl) (by kernel_rfl) (by kernel_rfl) (fun _ _ _ h => h) (Or.inl ⟨by kernel_rfl, fun w => by kernel_rfl⟩) ?_; (try dsimp only [Act.put])
      refine wpAny_take (i := 14) (v := .bool false) rfl (by kernel_rfl) (by kernel_rfl) (by kernel_rfl) (fun _ _ _ h => h) (Or.inl ⟨by kernel_rfl, fun w => by kernel_rfl⟩) ?_; (try dsimp only [Act.put])
      refine wpAny_done (by kernel_rfl) ?_ _
      go_simp
      have H8 : Hid (Past w w8 ∧ Row w8 u 26 (setC r (.slice none 0 0))) := Lib.hid ⟨H3.out.1.trans' HP8.out, H3.out.2.past HP8.out⟩
      clear HP8 HP7 HPD HSK H3
      go_wp2_with fail
      go_loopg [5] 0 (fun q s5 wx => s5 = .int .i64 0 ∧ Hid (Past w wx ∧ Row wx u 26 (setC r (.slice none 0 0))))
      case atStart => exact ⟨rfl, H8⟩
      case round =>
        clear H8
        obtain ⟨rfl, HO⟩ := hrel
        have k7 := HO.out.2.cell 7
        go_wp2_with fail
        refine (HGE2.out wr (HG.out.past HO.out.1)).mono ?_
        intro e w4 he
        obtain ⟨rfl, hp⟩ := hG2.out _ _ _ he
        unfold setV
        obtain ⟨u2, hu⟩ : ∃ u2, w4.heap.size = u2 := ⟨_, rfl⟩
        obtain ⟨w5, hw5⟩ : ∃ w5, w4.alloc (.cells (setC r (.slice none 0 0)) 26) = w5 := ⟨_, rfl⟩
        have hp5 : Past w4 w5 := by rw [← hw5]; exact past_alloc13 _ _
        have hrow : Row w5 u2 26 (setC r (.slice none 0 0)) := by rw [← hw5, ← hu]; exact Row.new _ _ _
        have H5 : Hid (Past w w5) := Lib.hid ((HO.out.1.trans' hp).trans' hp5)
        have HW5 := Lib.hid hw5
        have HU2 := Lib.hid hu
        clear hp hp5 hw5 hu he HO
        go_upto_region 11 with (fail)
        rw [HW5.out]
        try rw [HU2.out]
        clear HW5 HU2
        have HSL3 : Hid (∀ w', Past w5 w' → (w'.cell? ⟨u2, 0, none⟩ = some (.int .i64 r.alg) ∧ w'.cell? ⟨u2, 1, none⟩ = some (.int .i64 r.fam) ∧ w'.cell? ⟨u2, 2, none⟩ = some (.string r.name) ∧ w'.cell? ⟨u2, 3, none⟩ = some (.int .i64 r.pub) ∧ w'.cell? ⟨u2, 4, none⟩ = some (.int .i64 r.priv) ∧ w'.cell? ⟨u2, 5, none⟩ = some (.int .i64 r.seed) ∧ w'.cell? ⟨u2, 6, none⟩ = some (.int .i64 r.sig) ∧ w'.cell? ⟨u2, 7, none⟩ = some (.slice none 0 0) ∧ w'.cell? ⟨u2, 8, none⟩ = some (.int .i64 r.cose) ∧ w'.cell? ⟨u2, 9, none⟩ = some (.int .u32 r.typ))) := by
          refine Lib.hid fun w' hp => ?_
          have q := hrow.past hp
          exact ⟨q.cell 0, q.cell 1, q.cell 2, q.cell 3, q.cell 4, q.cell 5, q.cell 6, q.cell 7, q.cell 8, q.cell 9⟩
        have HPE : Hid (Past w5 w5.drew) := Lib.hid (Past.drewN (Below.refl _ w5) 1)
        clear hrow
        first | (go_region_held3 (fun w' => w'.cell? ⟨u2, 0, none⟩ = some (.int .i64 r.alg) ∧ w'.cell? ⟨u2, 1, none⟩ = some (.int .i64 r.fam) ∧ w'.cell? ⟨u2, 2, none⟩ = some (.string r.name) ∧ w'.cell? ⟨u2, 3, none⟩ = some (.int .i64 r.pub) ∧ w'.cell? ⟨u2, 4, none⟩ = some (.int .i64 r.priv) ∧ w'.cell? ⟨u2, 5, none⟩ = some (.int .i64 r.seed) ∧ w'.cell? ⟨u2, 6, none⟩ = some (.int .i64 r.sig) ∧ w'.cell? ⟨u2, 7, none⟩ = some (.slice none 0 0) ∧ w'.cell? ⟨u2, 8, none⟩ = some (.int .i64 r.cose) ∧ w'.cell? ⟨u2, 9, none⟩ = some (.int .u32 r.typ))
          (first
          | exact HSL3.out _ HP10.out
          | exact HSL3.out _ HP9.out
          | exact HSL3.out _ HPE.out)
          (first
          | (go_at_call 11; (with_reducible refine (HRG.out _).mono ?_); rintro e9 w9 ⟨rfl, hp9⟩; have HP9 : Hid (Past w5 w9) := Lib.hid (HPE.out.trans' hp9); clear hp9)
          | (go_at_call 10; (with_reducible refine (HLS.out _ (SlK.nil _ _)).mono ?_); rintro e10 w10 ⟨rfl, hp10⟩; have HP10 : Hid (Past w5 w10) := Lib.hid (HP9.out.trans' hp10); clear hp10))) | fail
        all_goals
          go_wp2_with fail
          go_ret
          exact ⟨rfl, H5.out.trans' HP10.out⟩
end Go.Proofs.YtnjoccmjembppaaDoor.paramsMatchesReference
