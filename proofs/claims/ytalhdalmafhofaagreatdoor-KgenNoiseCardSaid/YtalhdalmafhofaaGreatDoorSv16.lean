/- Matrix, at the algorithm 1. The closure of sums. sums, of two rows. -/
import Derived.Test.YtalhdalmafhofaaGreatDoorSn16
import Derived.Test.YtalhdalmafhofaaGreatDoorRk16
import Derived.Test.YtalhdalmafhofaaGreatDoorM14G
import Derived.Deep.RegionHeld
namespace Go.Proofs.YtalhdalmafhofaaGreatDoor
open Go.RowKit
set_option linter.unusedVariables false
set_option maxRecDepth 100000
set_option maxHeartbeats 4000000

theorem PL.setCell {w : World} {q : Nat} {Q : Nat → Nat → Int} (h : PL w q Q) {R : Nat} (hn : R ≠ q) (o : Nat) (v : Value) : PL (w.setCell ⟨R, o, none⟩ v) q Q := by
  obtain ⟨h0, h1, h2⟩ := h
  refine ⟨h0, by simpa using h1, fun i hi j x hj => ?_⟩
  rw [← h2 i hi j x hj]
  exact World.cell?_setCell_far _ _ _ _ hn
/-- A row of the matrix that is not in block R. -/
def PLV (w : World) (R : Nat) (v : Value) : Prop := ∃ q c Q, v = .slice (some ⟨q, 0, none⟩) 2 c ∧ PL w q Q ∧ R ≠ q
theorem PLV.past {w w' : World} {R : Nat} {v : Value} (h : PLV w R v) (hp : Past w w') : PLV w' R v := by
  obtain ⟨q, c, Q, h1, h2, h3⟩ := h
  exact ⟨q, c, Q, h1, h2.past hp, h3⟩
theorem PLV.setCell {w : World} {R : Nat} {v : Value} (h : PLV w R v) {o : Nat} (x : Value) : PLV (w.setCell ⟨R, o, none⟩ x) R v := by
  obtain ⟨q, c, Q, h1, h2, h3⟩ := h
  exact ⟨q, c, Q, h1, h2.setCell h3 _ _, h3⟩
def MI (w wx : World) (g R i : Nat) (A : Option Addr) (c : Nat) : Prop := Past w wx ∧ Row wx g 25 #[.slice A 32 c] ∧ ∃ v0 v1, Row wx R 56 #[v0, v1] ∧ (0 < i → PLV wx R v0) ∧ (1 < i → PLV wx R v1)
theorem make56 (w : World) : (Instr.makeSlice 38 (.int .i64 2) (.int .i64 2)).run Tryz.prog w = .ok (.slice (some ⟨w.heap.size, 0, none⟩) 2 2) (w.alloc (.cells #[.slice none 0 0, .slice none 0 0] 56)) := by
  obtain ⟨i, z, hi, hz, h1, h2, h3⟩ : ∃ i z, Tryz.prog.info? 56 = some i ∧ i.zero = some z ∧ i.size = 1 ∧ i.bytes = 24 ∧ z.cells = #[.slice none 0 0] := by
    cases hq : Tryz.prog.info? 56 with
    | none =>
      have : (Tryz.prog.info? 56).isSome = true := by kernel_rfl
      rw [hq] at this
      cases this
    | some i =>
      have : (Tryz.prog.info? 56).map (fun i => (i.zero, i.size, i.bytes)) = some (some (.slice none 0 0), 1, 24) := by kernel_rfl
      rw [hq] at this
      simp at this
      exact ⟨i, _, rfl, this.1, this.2.1, this.2.2, rfl⟩
  have h := run_makeSlice w 38 56 i z Tryz.underlying38 hi hz .i64 .i64 2 2 (by decide) (by decide) (by rw [h1]; decide) (by rw [h2]; decide) (by decide)
  have hm : madeCells #[Value.slice none 0 0] 2 = #[.slice none 0 0, .slice none 0 0] := by kernel_rfl
  rw [h, h1, h3, show Int.toNat 2 * 1 = 2 from rfl, hm]
  rfl
theorem matrix_any (A : Option Addr) (c : Nat) (xs : List Int) (w : World) (hS : Sl w A 32 c xs) (hG : Glob13 w) (hu : ∀ i j, i < 2 → j < 2 → UOk (xs ++ [((j : Nat) : Int), ((i : Nat) : Int)])) :
    Calls Tryz.prog 11 #[.int .i64 1, .slice A 32 c] w fun r w' => ∃ R v0 v1, r = .returned (.slice (some ⟨R, 0, none⟩) 2 2) ∧ Row w' R 56 #[v0, v1] ∧ PLV w' R v0 ∧ PLV w' R v1 ∧ Past w w' := by
  have hent : ∀ args w, (callFunc 28 args).run Tryz.prog w = .ok (.enter 28 args) w := enters_of Tryz.func28 (by kernel_rfl) rfl
  have HENT := Lib.hid hent
  have HU := Lib.hid hu
  have HRK : Hid (∀ w', Past w w' → Calls Tryz.prog 20 #[.int .i64 1] w' fun r w'' => r = .returned (.int .i64 2) ∧ Past w' w'') := Lib.hid (fun w' hp => rank_any 1 w' (hG.past hp))
  obtain ⟨g, hg⟩ : ∃ g, w.heap.size = g := ⟨_, rfl⟩
  obtain ⟨w1, hw1⟩ : ∃ w', w.alloc (.cells #[.slice A 32 c] 25) = w' := ⟨_, rfl⟩
  have hp1 : Past w w1 := by rw [← hw1]; exact (Below.refl _ _).alloc (Nat.le_refl _) _
  have hr1 : Row w1 g 25 #[.slice A 32 c] := by rw [← hw1, ← hg]; exact Row.new _ _ _
  have H1 := Lib.hid (And.intro hp1 hr1)
  have HS := Lib.hid hS
  have HW1 := Lib.hid hw1
  have HG := Lib.hid hg
  clear hS hG hu hent hp1 hr1 hw1
  go_enter Tryz.func11, Tryz.ntmps11
  go_upto_region 1 with (fail)
  rw [HW1.out]
  try rw [hg]
  clear HW1 hg
  go_wp2_with fail
  refine (HRK.out w1 H1.out.1).mono ?_
  rintro e w2 ⟨rfl, hp2⟩
  have hr2 := H1.out.2.past hp2
  have H2 := Lib.hid (And.intro (H1.out.1.trans' hp2) hr2)
  have k2 := hr2.cell 0
  clear hp2 hr2
  go_upto_region 4 with (fail)
  obtain ⟨R, hRe⟩ : ∃ R, w2.heap.size = R := ⟨_, rfl⟩
  obtain ⟨w3, hw3⟩ : ∃ w', w2.alloc (.cells #[.slice none 0 0, .slice none 0 0] 56) = w' := ⟨_, rfl⟩
  have hp3 : Past w2 w3 := by rw [← hw3]; exact (Below.refl _ _).alloc (Nat.le_refl _) _
  have hr3 : Row w3 R 56 #[.slice none 0 0, .slice none 0 0] := by rw [← hw3, ← hRe]; exact Row.new _ _ _
  have H3 : Hid (MI w w3 g R 0 A c) := Lib.hid ⟨H2.out.1.trans' hp3, H2.out.2.past hp3, _, _, hr3, fun h => absurd h (by decide), fun h => absurd h (by decide)⟩
  have HRB : Hid (w.heap.size ≤ R ∧ g < R) := Lib.hid ⟨by rw [← hRe]; exact H2.out.1.size, by rw [← hRe]; exact H2.out.2.lt⟩
  have HW3 := Lib.hid hw3
  clear hp3 hr3 hw3
  have hmk := make56 w2
  rw [hRe] at hmk
  go_upto_region 5 with (fail)
  rw [HW3.out]
  try rw [hRe]
  clear HW3 hRe k2 hmk
  go_wp2_with fail
  go_loopg [21] 2 (fun q s21 wx => ∃ i : Nat, i ≤ 2 ∧ q = 2 - i ∧ s21 = .int .i64 (i : Int) ∧ Hid (MI w wx g R i A c))
  case atStart => exact ⟨0, Nat.zero_le _, rfl, rfl, H3⟩
  case round =>
    clear H3
    obtain ⟨i, hi, hq, rfl, HI⟩ := hrel
    have HGQ := Lib.hid hq
    clear hq
    obtain ⟨hpw, hrg, v0, v1, hrR, hv⟩ := HI.out
    by_cases hlt : i < 2
    · rcases (show i = 0 ∨ i = 1 by omega) with rfl | rfl
      · obtain ⟨u, hu⟩ : ∃ u, wr.heap.size = u := ⟨_, rfl⟩
        obtain ⟨w4, hw4⟩ : ∃ w', wr.alloc (.cells #[.int .i64 0] 3) = w' := ⟨_, rfl⟩
        have hp4 : Past wr w4 := by rw [← hw4]; exact (Below.refl _ _).alloc (Nat.le_refl _) _
        have hru : Row w4 u 3 #[.int .i64 0] := by rw [← hw4, ← hu]; exact Row.new _ _ _
        have H4 := Lib.hid (And.intro hp4 hru)
        have HRL := Lib.hid (And.intro hrR.lt (And.intro hpw (And.intro hrg hrR)))
        have HV := Lib.hid hv
        have HW4 := Lib.hid hw4
        have HUE : Hid (wr.heap.size = u) := Lib.hid hu
        clear hp4 hru hpw hrg hrR hv hw4 HI
        go_upto_region 8 with (fail)
        try rw [hu]
        rw [HW4.out]
        clear HW4 hu
        obtain ⟨wd, hwd⟩ : ∃ W, W = w4.drew := ⟨_, rfl⟩
        have HPD : Hid (Past w4 wd) := Lib.hid (by rw [hwd]; exact Past.drewN (Below.refl _ w4) 1)
        refine wp_region_held_drew (S := fun w' => w'.cell? ⟨u, 0, none⟩ = some (.int .i64 0)) (by kernel_rfl) (by rw [← hwd]; exact (H4.out.2.past HPD.out).cell 0) (fun hH => ?_)
        change wpAnyH _ _ _ _ _ _ _ _ (World.drew _)
        rw [← hwd]
        clear hH hwd
        have hH : wd.cell? ⟨u, 0, none⟩ = some (.int .i64 0) := (H4.out.2.past HPD.out).cell 0
        refine held_take 0 24 (v := .slice (some ⟨R, 0, none⟩) 2 2) rfl rfl (by kernel_rfl) (by kernel_rfl) (by kernel_rfl) (fun _ _ _ h => h) (Or.inl ⟨by kernel_rfl, fun w _ => by kernel_rfl⟩) hH ?_
        (try simp only [List.setIfInBounds_toArray, List.set_cons_zero, List.set_cons_succ])
        refine held_take 1 25 (v := .int .i64 0) rfl rfl (by kernel_rfl) (by kernel_rfl) (by kernel_rfl) (fun _ _ _ h => h) (Or.inl ⟨by kernel_rfl, fun w hSw => by
          have hcell := hSw
          go_simp⟩) hH ?_
        (try simp only [List.setIfInBounds_toArray, List.set_cons_zero, List.set_cons_succ])
        refine held_take 2 26 (v := .int .i64 2) rfl rfl (by kernel_rfl) (by kernel_rfl) (by kernel_rfl) (fun _ _ _ h => h) (Or.inl ⟨by kernel_rfl, fun w _ => by kernel_rfl⟩) hH ?_
        (try simp only [List.setIfInBounds_toArray, List.set_cons_zero, List.set_cons_succ])
        refine held_take 3 27 (v := .func (.func 28) #[] #[.pointer (some ⟨g, 0, none⟩), .pointer (some ⟨u, 0, none⟩)]) rfl rfl (by kernel_rfl) (by kernel_rfl) (by kernel_rfl) (fun _ _ _ h => h) (Or.inl ⟨by kernel_rfl, fun w _ => by kernel_rfl⟩) hH ?_
        (try simp only [List.setIfInBounds_toArray, List.set_cons_zero, List.set_cons_succ])
        refine wpAnyH_ready (rs := [4]) (by kernel_rfl) (by simp) ?_
        refine AllReadyH.cons (by simp only [List.getElem?_toArray, List.getElem?_cons_succ, List.getElem?_cons_zero]; rfl) (fun K hK => ?_) AllReadyH.nil
        go_simp
        have HROW := Lib.hid (rowOf_any 2 28 #[.pointer (some ⟨g, 0, none⟩), .pointer (some ⟨u, 0, none⟩)] wd (by decide) HENT.out (fun j hj w' hp => by
          show Calls _ _ #[.int .i64 (j : Int), .pointer (some ⟨g, 0, none⟩), .pointer (some ⟨u, 0, none⟩)] _ _
          have hpp := (H4.out.1.trans' HPD.out).trans' hp
          exact mcell_any j 0 g u A 32 c xs w' (HRL.out.2.2.1.past hpp) ((H4.out.2.past HPD.out).past hp) (HS.out.past (HRL.out.2.1.trans' hpp)) (by decide) (by omega) (by decide) (HU.out 0 j (by decide) hj)))
        refine HROW.out.mono ?_
        rintro e5 w5 ⟨v5, rfl, hrp5, hp5⟩
        obtain ⟨g5, c5, Q5, rfl, hpl5, hge5⟩ := hrp5.pl
        have hps := (H4.out.1.trans' HPD.out)
        have hsz5 := hps.size
        have hR5 := HRL.out.1
        have hrow5 := (HRL.out.2.2.2.past hps).past hp5
        have hset := hrow5.set 0 (.slice (some ⟨g5, 0, none⟩) 2 c5)
        have hcell5 := hrow5.cell 0
        have hfr5 := hrow5.fr 0
        have hH5 : w5.cell? ⟨u, 0, none⟩ = some (.int .i64 0) := ((H4.out.2.past HPD.out).past hp5).cell 0
        have HH6 : Hid ((w5.setCell ⟨R, 0, none⟩ (.slice (some ⟨g5, 0, none⟩) 2 c5)).cell? ⟨u, 0, none⟩ = some (.int .i64 0)) := Lib.hid (by rw [World.cell?_setCell_far _ _ _ _ (by simp only []; have := HUE.out; omega)]; exact hH5)
        have hp5 : Past wr w5 := hps.trans' hp5
        have HI5 : Hid (MI w (w5.setCell ⟨R, 0, none⟩ (.slice (some ⟨g5, 0, none⟩) 2 c5)) g R 1 A c) := Lib.hid (by
          refine ⟨(HRL.out.2.1.trans' hp5).set HRB.out.1 _, ((HRL.out.2.2.1.past hp5).setOther (fun h => by have := HRB.out.2; omega) _ _), _, _, hset, ?_⟩
          exact ⟨fun _ => ⟨g5, c5, Q5, rfl, hpl5.setCell (R := R) (by omega) _ _, by omega⟩, fun h => absurd h (by decide)⟩)
        have HH5 := Lib.hid hH5
        clear hset hrow5 hps hsz5 hR5 hp5 hpl5 hge5 hrp5 hH hH5
        refine hK.out _ _ HH5.out (fun hH => ?_)
        clear hK K
        refine held_take 5 29 (v := .pointer (some ⟨R, 0, none⟩)) rfl rfl (by kernel_rfl) (by kernel_rfl) (by kernel_rfl) (fun _ _ _ h => h) (Or.inl ⟨by kernel_rfl, fun w _ => by go_simp⟩) hH ?_
        (try simp only [List.setIfInBounds_toArray, List.set_cons_zero, List.set_cons_succ])
        refine wpAnyH_ready (rs := [6]) (by kernel_rfl) (by simp) ?_
        refine AllReadyH.cons (by simp only [List.getElem?_toArray, List.getElem?_cons_succ, List.getElem?_cons_zero]; rfl) (fun K hK => ?_) AllReadyH.nil
        go_simp
        refine hK.out _ _ HH6.out (fun hH => ?_)
        clear hK K
        refine wpAnyH_done (by kernel_rfl) ?_ _
        go_simp
        clear hcell5 hfr5 hH HH5 HH6
        go_wp2_with fail
        go_roundg (2 - (0 + 1))
        case rel => exact ⟨0 + 1, by decide, rfl, by first | rfl | go_num, HI5⟩
        case measure => have := HGQ.out; omega
      · obtain ⟨u, hu⟩ : ∃ u, wr.heap.size = u := ⟨_, rfl⟩
        obtain ⟨w4, hw4⟩ : ∃ w', wr.alloc (.cells #[.int .i64 1] 3) = w' := ⟨_, rfl⟩
        have hp4 : Past wr w4 := by rw [← hw4]; exact (Below.refl _ _).alloc (Nat.le_refl _) _
        have hru : Row w4 u 3 #[.int .i64 1] := by rw [← hw4, ← hu]; exact Row.new _ _ _
        have H4 := Lib.hid (And.intro hp4 hru)
        have HRL := Lib.hid (And.intro hrR.lt (And.intro hpw (And.intro hrg hrR)))
        have HV := Lib.hid hv
        have HW4 := Lib.hid hw4
        have HUE : Hid (wr.heap.size = u) := Lib.hid hu
        clear hp4 hru hpw hrg hrR hv hw4 HI
        go_upto_region 8 with (fail)
        try rw [hu]
        rw [HW4.out]
        clear HW4 hu
        obtain ⟨wd, hwd⟩ : ∃ W, W = w4.drew := ⟨_, rfl⟩
        have HPD : Hid (Past w4 wd) := Lib.hid (by rw [hwd]; exact Past.drewN (Below.refl _ w4) 1)
        refine wp_region_held_drew (S := fun w' => w'.cell? ⟨u, 0, none⟩ = some (.int .i64 1)) (by kernel_rfl) (by rw [← hwd]; exact (H4.out.2.past HPD.out).cell 0) (fun hH => ?_)
        change wpAnyH _ _ _ _ _ _ _ _ (World.drew _)
        rw [← hwd]
        clear hH hwd
        have hH : wd.cell? ⟨u, 0, none⟩ = some (.int .i64 1) := (H4.out.2.past HPD.out).cell 0
        refine held_take 0 24 (v := .slice (some ⟨R, 0, none⟩) 2 2) rfl rfl (by kernel_rfl) (by kernel_rfl) (by kernel_rfl) (fun _ _ _ h => h) (Or.inl ⟨by kernel_rfl, fun w _ => by kernel_rfl⟩) hH ?_
        (try simp only [List.setIfInBounds_toArray, List.set_cons_zero, List.set_cons_succ])
        refine held_take 1 25 (v := .int .i64 1) rfl rfl (by kernel_rfl) (by kernel_rfl) (by kernel_rfl) (fun _ _ _ h => h) (Or.inl ⟨by kernel_rfl, fun w hSw => by
          have hcell := hSw
          go_simp⟩) hH ?_
        (try simp only [List.setIfInBounds_toArray, List.set_cons_zero, List.set_cons_succ])
        refine held_take 2 26 (v := .int .i64 2) rfl rfl (by kernel_rfl) (by kernel_rfl) (by kernel_rfl) (fun _ _ _ h => h) (Or.inl ⟨by kernel_rfl, fun w _ => by kernel_rfl⟩) hH ?_
        (try simp only [List.setIfInBounds_toArray, List.set_cons_zero, List.set_cons_succ])
        refine held_take 3 27 (v := .func (.func 28) #[] #[.pointer (some ⟨g, 0, none⟩), .pointer (some ⟨u, 0, none⟩)]) rfl rfl (by kernel_rfl) (by kernel_rfl) (by kernel_rfl) (fun _ _ _ h => h) (Or.inl ⟨by kernel_rfl, fun w _ => by kernel_rfl⟩) hH ?_
        (try simp only [List.setIfInBounds_toArray, List.set_cons_zero, List.set_cons_succ])
        refine wpAnyH_ready (rs := [4]) (by kernel_rfl) (by simp) ?_
        refine AllReadyH.cons (by simp only [List.getElem?_toArray, List.getElem?_cons_succ, List.getElem?_cons_zero]; rfl) (fun K hK => ?_) AllReadyH.nil
        go_simp
        have HROW := Lib.hid (rowOf_any 2 28 #[.pointer (some ⟨g, 0, none⟩), .pointer (some ⟨u, 0, none⟩)] wd (by decide) HENT.out (fun j hj w' hp => by
          show Calls _ _ #[.int .i64 (j : Int), .pointer (some ⟨g, 0, none⟩), .pointer (some ⟨u, 0, none⟩)] _ _
          have hpp := (H4.out.1.trans' HPD.out).trans' hp
          exact mcell_any j 1 g u A 32 c xs w' (HRL.out.2.2.1.past hpp) ((H4.out.2.past HPD.out).past hp) (HS.out.past (HRL.out.2.1.trans' hpp)) (by decide) (by omega) (by decide) (HU.out 1 j (by decide) hj)))
        refine HROW.out.mono ?_
        rintro e5 w5 ⟨v5, rfl, hrp5, hp5⟩
        obtain ⟨g5, c5, Q5, rfl, hpl5, hge5⟩ := hrp5.pl
        have hps := (H4.out.1.trans' HPD.out)
        have hsz5 := hps.size
        have hR5 := HRL.out.1
        have hrow5 := (HRL.out.2.2.2.past hps).past hp5
        have hset := hrow5.set 1 (.slice (some ⟨g5, 0, none⟩) 2 c5)
        have hcell5 := hrow5.cell 1
        have hfr5 := hrow5.fr 1
        have hH5 : w5.cell? ⟨u, 0, none⟩ = some (.int .i64 1) := ((H4.out.2.past HPD.out).past hp5).cell 0
        have HH6 : Hid ((w5.setCell ⟨R, 1, none⟩ (.slice (some ⟨g5, 0, none⟩) 2 c5)).cell? ⟨u, 0, none⟩ = some (.int .i64 1)) := Lib.hid (by rw [World.cell?_setCell_far _ _ _ _ (by simp only []; have := HUE.out; omega)]; exact hH5)
        have hp5 : Past wr w5 := hps.trans' hp5
        have HI5 : Hid (MI w (w5.setCell ⟨R, 1, none⟩ (.slice (some ⟨g5, 0, none⟩) 2 c5)) g R 2 A c) := Lib.hid (by
          refine ⟨(HRL.out.2.1.trans' hp5).set HRB.out.1 _, ((HRL.out.2.2.1.past hp5).setOther (fun h => by have := HRB.out.2; omega) _ _), _, _, hset, ?_⟩
          exact ⟨fun _ => ((HV.out.1 (by decide)).past hp5).setCell _, fun _ => ⟨g5, c5, Q5, rfl, hpl5.setCell (R := R) (by omega) _ _, by omega⟩⟩)
        have HH5 := Lib.hid hH5
        clear hset hrow5 hps hsz5 hR5 hp5 hpl5 hge5 hrp5 hH hH5
        refine hK.out _ _ HH5.out (fun hH => ?_)
        clear hK K
        refine held_take 5 29 (v := .pointer (some ⟨R, 1, none⟩)) rfl rfl (by kernel_rfl) (by kernel_rfl) (by kernel_rfl) (fun _ _ _ h => h) (Or.inl ⟨by kernel_rfl, fun w _ => by go_simp⟩) hH ?_
        (try simp only [List.setIfInBounds_toArray, List.set_cons_zero, List.set_cons_succ])
        refine wpAnyH_ready (rs := [6]) (by kernel_rfl) (by simp) ?_
        refine AllReadyH.cons (by simp only [List.getElem?_toArray, List.getElem?_cons_succ, List.getElem?_cons_zero]; rfl) (fun K hK => ?_) AllReadyH.nil
        go_simp
        refine hK.out _ _ HH6.out (fun hH => ?_)
        clear hK K
        refine wpAnyH_done (by kernel_rfl) ?_ _
        go_simp
        clear hcell5 hfr5 hH HH5 HH6
        go_wp2_with fail
        go_roundg (2 - (1 + 1))
        case rel => exact ⟨1 + 1, by decide, rfl, by first | rfl | go_num, HI5⟩
        case measure => have := HGQ.out; omega
    · obtain rfl : i = 2 := by omega
      have hii : ¬ (2 : Int) < 2 := by omega
      have HE := Lib.hid (show Row wr R 56 #[v0, v1] ∧ PLV wr R v0 ∧ PLV wr R v1 ∧ Past w wr from ⟨hrR, hv.1 (by decide), hv.2 (by decide), hpw⟩)
      clear hpw hrg hrR hv HI
      go_wp2_with fail
      go_ret
      exact ⟨R, rfl, v0, v1, HE.out⟩
end Go.Proofs.YtalhdalmafhofaaGreatDoor

namespace Go.Proofs.YtalhdalmafhofaaGreatDoor
open Go.RowKit
set_option linter.unusedVariables false
set_option maxRecDepth 100000
set_option maxHeartbeats 4000000

theorem range_past16 {w w' : World} {b o : Nat} {l : List Value} (h : w.rangeAt b o l) (hp : Past w w') : w'.rangeAt b o l := fun j v hj => by
  rw [Below.cell hp (cell_lt (h j v hj))]
  exact h j v hj
theorem mulR (a b : Nat → Int) : R16 (mulF a b) := fun t => by unfold mulF; split <;> omega
theorem scell0_any (g1 g2 g3 ge ce gs cs R q cq : Nat) (E S Q : Nat → Nat → Int) (w : World) (h1 : Row w g1 56 #[.slice (some ⟨ge, 0, none⟩) 2 ce]) (h2 : Row w g2 38 #[.slice (some ⟨R, 0, none⟩) 2 2]) (h3 : Row w g3 56 #[.slice (some ⟨gs, 0, none⟩) 2 cs])
    (hR : w.cell? ⟨R, 0, none⟩ = some (.slice (some ⟨q, 0, none⟩) 2 cq)) (hE : PL w ge E) (hS : PL w gs S) (hQ : PL w q Q) :
    Calls Tryz.prog 37 #[.int .i64 0, .pointer (some ⟨g1, 0, none⟩), .pointer (some ⟨g2, 0, none⟩), .pointer (some ⟨g3, 0, none⟩)] w (MkP w) := by
  have hz := zeroP
  obtain ⟨cz, hcz⟩ : ∃ cz, arr .u16 256 (fun _ => 0) = cz := ⟨_, rfl⟩
  have HCZ : Hid (cz.size = 256) := Lib.hid (by rw [← hcz, arr_size])
  rw [hcz] at hz
  have HZ := Lib.hid hz
  clear hcz
  obtain ⟨g, hg⟩ : ∃ g, w.heap.size = g := ⟨_, rfl⟩
  obtain ⟨w1, hw1⟩ : ∃ w', w.alloc (.cells cz 30) = w' := ⟨_, rfl⟩
  have hp1 : Past w w1 := by rw [← hw1]; exact (Below.refl _ _).alloc (Nat.le_refl _) _
  have hr1 : Row w1 g 30 cz := by rw [← hw1, ← hg]; exact Row.new _ _ _
  have H1 := Lib.hid (And.intro hp1 hr1)
  have hR1 : w1.cell? ⟨R, 0, none⟩ = some (.slice (some ⟨q, 0, none⟩) 2 cq) := by rw [Below.cell hp1 (cell_lt hR)]; exact hR
  have k1 := (h1.past hp1).cell 0
  have k2 := (h2.past hp1).cell 0
  have HB := Lib.hid (And.intro (h1.past hp1) (And.intro (h2.past hp1) (And.intro (h3.past hp1) hR1)))
  have hE1 := hE.past hp1
  have HE := Lib.hid hE1
  have HS := Lib.hid (hS.past hp1)
  have HQ := Lib.hid (hQ.past hp1)
  have hre := hE1.2.2 0 (by decide)
  have hle := (lst_len (E 0)).2
  have hie : (Tryz.prog.info? 30).map (·.size) = some ((lst (E 0)).toArray).size := by rw [← arr_lst]; exact infP _
  have hoe : ((lst (E 0)).toArray).all (·.oneCell') = true := by rw [← arr_lst]; exact arr_one .u16 256 _
  have hse : cz.size = ((lst (E 0)).toArray).size := by rw [← arr_lst, HCZ.out, arr_size]
  have hn1 := heap_alloc_new w1 (.cells cz 30)
  have HW1 := Lib.hid hw1
  have HG := Lib.hid hg
  obtain ⟨u6, hu6⟩ : ∃ u, w1.heap.size = u := ⟨_, rfl⟩
  obtain ⟨w2, hw2⟩ : ∃ w', w1.alloc (.cells (lst (E 0)).toArray 30) = w' := ⟨_, rfl⟩
  have hp2 : Past w1 w2 := by rw [← hw2]; exact (Below.refl _ _).alloc (Nat.le_refl _) _
  have H2 : Hid (∃ F, R16 F ∧ Row w2 u6 30 (arr .u16 256 F) ∧ Past w1 w2) := Lib.hid ⟨E 0, hE.1 0, by rw [← hw2, ← hu6, arr_lst]; exact Row.new _ _ _, hp2⟩
  have HW2 := Lib.hid hw2
  have HU6 : Hid (w1.heap.size = u6) := Lib.hid hu6
  have HWS : Hid ((w1.alloc (.cells cz 30)).setRow u6 (lst (E 0)).toArray = w2) := Lib.hid (by rw [← hu6, World.setRow_alloc_new]; exact hw2)
  rw [hu6] at hn1
  clear h1 h2 h3 hR hE hS hQ hp1 hr1 hw1 hg hE1 hw2 hp2
  generalize (lst (E 0)) = le at *
  go_enter Tryz.func37, Tryz.ntmps37
  go_upto_region 1 with (fail)
  rw [HW1.out]
  try rw [HG.out]
  clear HW1
  go_upto_region 2 with (first | (refine wpList_load_mid rfl 30 _ rfl ge 0 rfl le _ hre Tryz.underlying30 rfl hle ?_) | (refine wpList_store_row rfl 30 _ _ rfl u6 _ rfl rfl _ _ hn1 hie hse hoe ?_))
  rw [HWS.out]
  generalize le.toArray = ae
  have hp2 : Past w1 w2 := H2.out.choose_spec.2.2
  have k2' : w2.cell? ⟨g2, 0, none⟩ = some (.slice (some ⟨R, 0, none⟩) 2 2) := (HB.out.2.1.past hp2).cell 0
  have k4 : w2.cell? ⟨R, 0, none⟩ = some (.slice (some ⟨q, 0, none⟩) 2 cq) := by rw [Below.cell hp2 (cell_lt HB.out.2.2.2)]; exact HB.out.2.2.2
  clear k1 k2 hR1 hre hle hie hoe hse hn1 hu6 hz HW2 hp2 HWS
  go_wp2_with fail
  clear k2' k4
  go_loopg [18] 2 (fun q s18 wx => ∃ j : Nat, j ≤ 2 ∧ q = 2 - j ∧ s18 = .int .i64 (j : Int) ∧ Hid (∃ F, R16 F ∧ Row wx u6 30 (arr .u16 256 F) ∧ Past w1 wx))
  case atStart => exact ⟨0, Nat.zero_le _, rfl, rfl, H2⟩
  case round =>
    clear H2
    obtain ⟨j, hj, hq, rfl, HI⟩ := hrel
    have HGQ := Lib.hid hq
    clear hq
    obtain ⟨F, hFR, hru, hpw⟩ := HI.out
    by_cases hlt : j < 2
    · have hEw := HE.out.past hpw
      have hQw := HQ.out.past hpw
      have hSw := HS.out.past hpw
      rcases (show j = 0 ∨ j = 1 by omega) with rfl | rfl
      · have hrq := hQw.2.2 0 (by decide)
        have hrs := hSw.2.2 0 (by decide)
        have k3 := HB.out.2.2.1.past hpw
        have HSTAY := Lib.hid (And.intro hpw (And.intro hru hFR))
        have HRS := Lib.hid hrs
        have HK3 := Lib.hid k3
        have hlq := (lst_len (Q 0)).2
        have HLS := Lib.hid (lst_len (S 0)).2
        have HMU := Lib.hid (fun w => pmul_any (Q 0) (S 0) (HQ.out.1 0) (HS.out.1 0) w)
        have HAD := Lib.hid (fun w => padd_any F (mulF (Q 0) (S 0)) hFR (mulR _ _) w)
        have HNF : Hid (R16 (addF F (mulF (Q 0) (S 0)))) := Lib.hid (fun t => by unfold addF; omega)
        have hiq : (Tryz.prog.info? 30).map (·.size) = some ((lst (Q 0)).toArray).size := by rw [← arr_lst]; exact infP _
        have hoq : ((lst (Q 0)).toArray).all (·.oneCell') = true := by rw [← arr_lst]; exact arr_one .u16 256 _
        have hsq : cz.size = ((lst (Q 0)).toArray).size := by rw [← arr_lst, HCZ.out, arr_size]
        have HIN : Hid ((Tryz.prog.info? 30).map (·.size) = some (arr .u16 256 (addF F (mulF (Q 0) (S 0)))).size ∧ (arr .u16 256 F).size = (arr .u16 256 (addF F (mulF (Q 0) (S 0)))).size ∧ (arr .u16 256 (addF F (mulF (Q 0) (S 0)))).all (·.oneCell') = true) := Lib.hid ⟨infP _, by rw [arr_size, arr_size], arr_one .u16 256 _⟩
        have HLF := Lib.hid (lst_len F).2
        have hz := HZ.out
        rw [arr_lst (Q 0), arr_lst (S 0)] at HMU
        rw [arr_lst F] at HAD hru HSTAY HIN
        obtain ⟨cm, hcm⟩ : ∃ x, arr .u16 256 (mulF (Q 0) (S 0)) = x := ⟨_, rfl⟩
        rw [hcm] at HMU HAD
        obtain ⟨ca, hca⟩ : ∃ x, arr .u16 256 (addF F (mulF (Q 0) (S 0))) = x := ⟨_, rfl⟩
        rw [hca] at HAD HIN
        have HCA := Lib.hid hca
        clear hcm hca
        obtain ⟨wn, hwn⟩ : ∃ w', wr.alloc (.cells (lst (Q 0)).toArray 30) = w' := ⟨_, rfl⟩
        have hpn : Past wr wn := by rw [← hwn]; exact (Below.refl _ _).alloc (Nat.le_refl _) _
        obtain ⟨u, hu⟩ : ∃ u, wr.heap.size = u := ⟨_, rfl⟩
        have HN : Hid (Past wr wn ∧ Row wn u 30 (lst (Q 0)).toArray ∧ Row wn g3 56 #[.slice (some ⟨gs, 0, none⟩) 2 cs] ∧ Row wn u6 30 (lst F).toArray ∧ wn.rangeAt gs 0 (lst (S 0))) := Lib.hid ⟨hpn, by rw [← hwn, ← hu]; exact Row.new _ _ _, k3.past hpn, hru.past hpn, range_past16 hrs hpn⟩
        have HUU : Hid (u6 < u) := Lib.hid (by rw [← hu]; exact hru.lt)
        have HG3 : Hid (g3 < u6 ∧ gs < u6) := Lib.hid (by rw [← HU6.out]; exact ⟨HB.out.2.2.1.lt, HS.out.2.1⟩)
        have HSR : Hid ((wr.alloc (.cells cz 30)).setRow u (lst (Q 0)).toArray = wn) := Lib.hid (by rw [← hu, World.setRow_alloc_new]; exact hwn)
        have HLQ := Lib.hid hlq
        clear hwn hpn
        have hn1 := heap_alloc_new wr (.cells cz 30)
        rw [hu] at hn1
        clear hpw hrs k3 hEw hQw hSw hru hFR hj hlt HI
        generalize hlQ : lst (Q 0) = lq at *
        generalize hlS : lst (S 0) = ls at *
        generalize hlF : lst F = lf at *
        clear hlQ hlS hlF
        go_upto_region 5 with (first | (refine wpList_load_mid rfl 30 _ rfl q 0 rfl lq _ hrq Tryz.underlying30 rfl hlq ?_) | (refine wpList_store_row rfl 30 _ _ rfl u _ rfl rfl _ _ hn1 hiq hsq hoq ?_))
        rw [HSR.out]
        generalize lq.toArray = ar
        clear HSR hn1 hu
        obtain ⟨wd, hwd⟩ : ∃ W, W = wn.drew := ⟨_, rfl⟩
        have HPD : Hid (Past wn wd) := Lib.hid (by rw [hwd]; exact Past.drewN (Below.refl _ wn) 1)
        have HSK : Hid (∀ w', Past wn w' → w'.rangeAt u 0 lq ∧ w'.cell? ⟨g3, 0, none⟩ = some (.slice (some ⟨gs, 0, none⟩) 2 cs) ∧ w'.rangeAt gs 0 ls) := Lib.hid (fun w' h => ⟨Row.range (t := 30) ((HN.out.2.1).past h), (HN.out.2.2.1.past h).cell 0, range_past16 HN.out.2.2.2.2 h⟩)
        refine wp_region_held_drew (S := fun w' => w'.rangeAt u 0 lq ∧ w'.cell? ⟨g3, 0, none⟩ = some (.slice (some ⟨gs, 0, none⟩) 2 cs) ∧ w'.rangeAt gs 0 ls) (by kernel_rfl) (by rw [← hwd]; exact HSK.out _ HPD.out) (fun hH => ?_)
        change wpAnyH _ _ _ _ _ _ _ _ (World.drew _)
        rw [← hwd]
        clear hH hwd
        have hH := HSK.out _ HPD.out
        refine held_take 1 24 rfl rfl (by kernel_rfl) (by kernel_rfl) (by kernel_rfl) (fun _ _ _ h => h) (yieldsIf_load_mid (by kernel_rfl) 30 (.tmp 8) rfl u 0 rfl lq _ (fun _ h => h.1) Tryz.underlying30 rfl HLQ.out) hH ?_
        (try dsimp only [Act.put])
        (try simp only [List.setIfInBounds_toArray, List.set_cons_zero, List.set_cons_succ])
        refine held_take 2 25 (v := .slice (some ⟨gs, 0, none⟩) 2 cs) rfl rfl (by kernel_rfl) (by kernel_rfl) (by kernel_rfl) (fun _ _ _ h => h) (Or.inl ⟨by kernel_rfl, fun w hSw => by
          have hcell := hSw.2.1
          go_simp⟩) hH ?_
        (try dsimp only [Act.put])
        (try simp only [List.setIfInBounds_toArray, List.set_cons_zero, List.set_cons_succ])
        refine held_take 3 26 (v := .int .i64 0) rfl rfl (by kernel_rfl) (by kernel_rfl) (by kernel_rfl) (fun _ _ _ h => h) (Or.inl ⟨by kernel_rfl, fun w _ => by kernel_rfl⟩) hH ?_
        (try dsimp only [Act.put])
        (try simp only [List.setIfInBounds_toArray, List.set_cons_zero, List.set_cons_succ])
        refine held_take 4 27 (v := .pointer (some ⟨gs, 0, none⟩)) rfl rfl (by kernel_rfl) (by kernel_rfl) (by kernel_rfl) (fun _ _ _ h => h) (Or.inl ⟨by kernel_rfl, fun w _ => by go_simp⟩) hH ?_
        (try dsimp only [Act.put])
        (try simp only [List.setIfInBounds_toArray, List.set_cons_zero, List.set_cons_succ])
        refine held_take 5 28 rfl rfl (by kernel_rfl) (by kernel_rfl) (by kernel_rfl) (fun _ _ _ h => h) (yieldsIf_load_mid (by kernel_rfl) 30 (.tmp 27) rfl gs 0 rfl ls _ (fun _ h => h.2.2) Tryz.underlying30 rfl HLS.out) hH ?_
        (try dsimp only [Act.put])
        (try simp only [List.setIfInBounds_toArray, List.set_cons_zero, List.set_cons_succ])
        refine wpAnyH_ready (rs := [0, 6]) (by kernel_rfl) (by simp) ?_
        refine AllReadyH.cons (by simp only [List.getElem?_toArray, List.getElem?_cons_zero]; rfl) (fun K hK => ?_) (AllReadyH.cons (by simp only [List.getElem?_toArray, List.getElem?_cons_succ, List.getElem?_cons_zero]; rfl) (fun K hK => ?_) AllReadyH.nil)
        · refine step_wanted16 rfl ?_
          refine wp_load_mid 30 (.tmp 6) rfl u6 0 rfl lf _ (Row.range (t := 30) (HN.out.2.2.2.1.past HPD.out)) Tryz.underlying30 rfl HLF.out ?_
          refine hK.out _ _ (HSK.out _ HPD.out) (fun hH => ?_)
          clear hK K
          refine wpAnyH_ready (rs := [6]) (by kernel_rfl) (by simp) ?_
          refine AllReadyH.cons (by simp only [List.getElem?_toArray, List.getElem?_cons_succ, List.getElem?_cons_zero]; rfl) (fun K hK => ?_) AllReadyH.nil
          go_simp
          refine (HMU.out wd).mono ?_
          rintro e6 w6 ⟨rfl, hp6⟩
          have HP6 : Hid (Past wn w6) := Lib.hid (HPD.out.trans' hp6)
          clear hp6
          refine hK.out _ _ (HSK.out _ HP6.out) (fun hH => ?_)
          clear hK K
          refine wpAnyH_ready (rs := [7]) (by kernel_rfl) (by simp) ?_
          refine AllReadyH.cons (by simp only [List.getElem?_toArray, List.getElem?_cons_succ, List.getElem?_cons_zero]; rfl) (fun K hK => ?_) AllReadyH.nil
          go_simp
          refine (HAD.out w6).mono ?_
          rintro e7 w7 ⟨rfl, hp7⟩
          have HP7 : Hid (Past wn w7) := Lib.hid (HP6.out.trans' hp7)
          clear hp7
          refine hK.out _ _ (HSK.out _ HP7.out) (fun hH => ?_)
          clear hK K
          refine wpAnyH_ready (rs := [8]) (by kernel_rfl) (by simp) ?_
          refine AllReadyH.cons (by simp only [List.getElem?_toArray, List.getElem?_cons_succ, List.getElem?_cons_zero]; rfl) (fun K hK => ?_) AllReadyH.nil
          refine step_wanted16 rfl ?_
          refine wp_store_row 30 (.tmp 6) (.tmp 30) rfl u6 ca rfl rfl _ _ (HN.out.2.2.2.1.past HP7.out) HIN.out.1 HIN.out.2.1 HIN.out.2.2 ?_
          obtain ⟨w8, hw8⟩ : ∃ w', w7.setRow u6 ca = w' := ⟨_, rfl⟩
          have HT : Hid (∃ F, R16 F ∧ Row w8 u6 30 (arr .u16 256 F) ∧ Past w1 w8) := Lib.hid (by
            refine ⟨_, HNF.out, by rw [HCA.out, ← hw8]; exact setRow_heap _ _ _ _ _ _ (HN.out.2.2.2.1.past HP7.out), ?_⟩
            rw [← hw8]
            exact below_setRow ((HSTAY.out.1.trans' HN.out.1).trans' HP7.out) (by have := HU6.out; omega) _)
          have hS8 : w8.rangeAt u 0 lq ∧ w8.cell? ⟨g3, 0, none⟩ = some (.slice (some ⟨gs, 0, none⟩) 2 cs) ∧ w8.rangeAt gs 0 ls := by
            have hb : Below u6 w7 w8 := by rw [← hw8]; exact below_setRow (Below.refl u6 w7) (Nat.le_refl _) _
            have h7 := HSK.out _ HP7.out
            refine ⟨Row.range (t := 30) (by rw [← hw8]; exact (setRow_other _ _ _ _ (by have := HUU.out; omega)).trans (HN.out.2.1.past HP7.out)), ?_, fun t v ht => ?_⟩
            · rw [hb.cell (p := ⟨g3, 0, none⟩) HG3.out.1]; exact h7.2.1
            · rw [hb.cell (p := ⟨gs, _, none⟩) HG3.out.2]; exact h7.2.2 t v ht
          rw [hw8]
          clear hw8
          refine hK.out _ _ hS8 (fun hH => ?_)
          clear hK K hS8
          refine wpAnyH_done (by kernel_rfl) ?_ _
          go_simp
          clear hH
          go_wp2_with fail
          go_roundg (2 - (0 + 1))
          case rel => exact ⟨0 + 1, by decide, rfl, by first | rfl | go_num, HT⟩
          case measure => have := HGQ.out; omega
        · go_simp
          refine (HMU.out wd).mono ?_
          rintro e6 w6 ⟨rfl, hp6⟩
          have HP6 : Hid (Past wn w6) := Lib.hid (HPD.out.trans' hp6)
          clear hp6
          refine hK.out _ _ (HSK.out _ HP6.out) (fun hH => ?_)
          clear hK K
          refine wpAnyH_ready (rs := [0]) (by kernel_rfl) (by simp) ?_
          refine AllReadyH.cons (by simp only [List.getElem?_toArray, List.getElem?_cons_zero]; rfl) (fun K hK => ?_) AllReadyH.nil
          refine step_wanted16 rfl ?_
          refine wp_load_mid 30 (.tmp 6) rfl u6 0 rfl lf _ (Row.range (t := 30) (HN.out.2.2.2.1.past HP6.out)) Tryz.underlying30 rfl HLF.out ?_
          refine hK.out _ _ (HSK.out _ HP6.out) (fun hH => ?_)
          clear hK K
          refine wpAnyH_ready (rs := [7]) (by kernel_rfl) (by simp) ?_
          refine AllReadyH.cons (by simp only [List.getElem?_toArray, List.getElem?_cons_succ, List.getElem?_cons_zero]; rfl) (fun K hK => ?_) AllReadyH.nil
          go_simp
          refine (HAD.out w6).mono ?_
          rintro e7 w7 ⟨rfl, hp7⟩
          have HP7 : Hid (Past wn w7) := Lib.hid (HP6.out.trans' hp7)
          clear hp7
          refine hK.out _ _ (HSK.out _ HP7.out) (fun hH => ?_)
          clear hK K
          refine wpAnyH_ready (rs := [8]) (by kernel_rfl) (by simp) ?_
          refine AllReadyH.cons (by simp only [List.getElem?_toArray, List.getElem?_cons_succ, List.getElem?_cons_zero]; rfl) (fun K hK => ?_) AllReadyH.nil
          refine step_wanted16 rfl ?_
          refine wp_store_row 30 (.tmp 6) (.tmp 30) rfl u6 ca rfl rfl _ _ (HN.out.2.2.2.1.past HP7.out) HIN.out.1 HIN.out.2.1 HIN.out.2.2 ?_
          obtain ⟨w8, hw8⟩ : ∃ w', w7.setRow u6 ca = w' := ⟨_, rfl⟩
          have HT : Hid (∃ F, R16 F ∧ Row w8 u6 30 (arr .u16 256 F) ∧ Past w1 w8) := Lib.hid (by
            refine ⟨_, HNF.out, by rw [HCA.out, ← hw8]; exact setRow_heap _ _ _ _ _ _ (HN.out.2.2.2.1.past HP7.out), ?_⟩
            rw [← hw8]
            exact below_setRow ((HSTAY.out.1.trans' HN.out.1).trans' HP7.out) (by have := HU6.out; omega) _)
          have hS8 : w8.rangeAt u 0 lq ∧ w8.cell? ⟨g3, 0, none⟩ = some (.slice (some ⟨gs, 0, none⟩) 2 cs) ∧ w8.rangeAt gs 0 ls := by
            have hb : Below u6 w7 w8 := by rw [← hw8]; exact below_setRow (Below.refl u6 w7) (Nat.le_refl _) _
            have h7 := HSK.out _ HP7.out
            refine ⟨Row.range (t := 30) (by rw [← hw8]; exact (setRow_other _ _ _ _ (by have := HUU.out; omega)).trans (HN.out.2.1.past HP7.out)), ?_, fun t v ht => ?_⟩
            · rw [hb.cell (p := ⟨g3, 0, none⟩) HG3.out.1]; exact h7.2.1
            · rw [hb.cell (p := ⟨gs, _, none⟩) HG3.out.2]; exact h7.2.2 t v ht
          rw [hw8]
          clear hw8
          refine hK.out _ _ hS8 (fun hH => ?_)
          clear hK K hS8
          refine wpAnyH_done (by kernel_rfl) ?_ _
          go_simp
          clear hH
          go_wp2_with fail
          go_roundg (2 - (0 + 1))
          case rel => exact ⟨0 + 1, by decide, rfl, by first | rfl | go_num, HT⟩
          case measure => have := HGQ.out; omega
      · have hrq := hQw.2.2 1 (by decide)
        have hrs := hSw.2.2 1 (by decide)
        have k3 := HB.out.2.2.1.past hpw
        have HSTAY := Lib.hid (And.intro hpw (And.intro hru hFR))
        have HRS := Lib.hid hrs
        have HK3 := Lib.hid k3
        have hlq := (lst_len (Q 1)).2
        have HLS := Lib.hid (lst_len (S 1)).2
        have HMU := Lib.hid (fun w => pmul_any (Q 1) (S 1) (HQ.out.1 1) (HS.out.1 1) w)
        have HAD := Lib.hid (fun w => padd_any F (mulF (Q 1) (S 1)) hFR (mulR _ _) w)
        have HNF : Hid (R16 (addF F (mulF (Q 1) (S 1)))) := Lib.hid (fun t => by unfold addF; omega)
        have hiq : (Tryz.prog.info? 30).map (·.size) = some ((lst (Q 1)).toArray).size := by rw [← arr_lst]; exact infP _
        have hoq : ((lst (Q 1)).toArray).all (·.oneCell') = true := by rw [← arr_lst]; exact arr_one .u16 256 _
        have hsq : cz.size = ((lst (Q 1)).toArray).size := by rw [← arr_lst, HCZ.out, arr_size]
        have HIN : Hid ((Tryz.prog.info? 30).map (·.size) = some (arr .u16 256 (addF F (mulF (Q 1) (S 1)))).size ∧ (arr .u16 256 F).size = (arr .u16 256 (addF F (mulF (Q 1) (S 1)))).size ∧ (arr .u16 256 (addF F (mulF (Q 1) (S 1)))).all (·.oneCell') = true) := Lib.hid ⟨infP _, by rw [arr_size, arr_size], arr_one .u16 256 _⟩
        have HLF := Lib.hid (lst_len F).2
        have hz := HZ.out
        rw [arr_lst (Q 1), arr_lst (S 1)] at HMU
        rw [arr_lst F] at HAD hru HSTAY HIN
        obtain ⟨cm, hcm⟩ : ∃ x, arr .u16 256 (mulF (Q 1) (S 1)) = x := ⟨_, rfl⟩
        rw [hcm] at HMU HAD
        obtain ⟨ca, hca⟩ : ∃ x, arr .u16 256 (addF F (mulF (Q 1) (S 1))) = x := ⟨_, rfl⟩
        rw [hca] at HAD HIN
        have HCA := Lib.hid hca
        clear hcm hca
        obtain ⟨wn, hwn⟩ : ∃ w', wr.alloc (.cells (lst (Q 1)).toArray 30) = w' := ⟨_, rfl⟩
        have hpn : Past wr wn := by rw [← hwn]; exact (Below.refl _ _).alloc (Nat.le_refl _) _
        obtain ⟨u, hu⟩ : ∃ u, wr.heap.size = u := ⟨_, rfl⟩
        have HN : Hid (Past wr wn ∧ Row wn u 30 (lst (Q 1)).toArray ∧ Row wn g3 56 #[.slice (some ⟨gs, 0, none⟩) 2 cs] ∧ Row wn u6 30 (lst F).toArray ∧ wn.rangeAt gs 256 (lst (S 1))) := Lib.hid ⟨hpn, by rw [← hwn, ← hu]; exact Row.new _ _ _, k3.past hpn, hru.past hpn, range_past16 hrs hpn⟩
        have HUU : Hid (u6 < u) := Lib.hid (by rw [← hu]; exact hru.lt)
        have HG3 : Hid (g3 < u6 ∧ gs < u6) := Lib.hid (by rw [← HU6.out]; exact ⟨HB.out.2.2.1.lt, HS.out.2.1⟩)
        have HSR : Hid ((wr.alloc (.cells cz 30)).setRow u (lst (Q 1)).toArray = wn) := Lib.hid (by rw [← hu, World.setRow_alloc_new]; exact hwn)
        have HLQ := Lib.hid hlq
        clear hwn hpn
        have hn1 := heap_alloc_new wr (.cells cz 30)
        rw [hu] at hn1
        clear hpw hrs k3 hEw hQw hSw hru hFR hj hlt HI
        generalize hlQ : lst (Q 1) = lq at *
        generalize hlS : lst (S 1) = ls at *
        generalize hlF : lst F = lf at *
        clear hlQ hlS hlF
        go_upto_region 5 with (first | (refine wpList_load_mid rfl 30 _ rfl q 256 rfl lq _ hrq Tryz.underlying30 rfl hlq ?_) | (refine wpList_store_row rfl 30 _ _ rfl u _ rfl rfl _ _ hn1 hiq hsq hoq ?_))
        rw [HSR.out]
        generalize lq.toArray = ar
        clear HSR hn1 hu
        obtain ⟨wd, hwd⟩ : ∃ W, W = wn.drew := ⟨_, rfl⟩
        have HPD : Hid (Past wn wd) := Lib.hid (by rw [hwd]; exact Past.drewN (Below.refl _ wn) 1)
        have HSK : Hid (∀ w', Past wn w' → w'.rangeAt u 0 lq ∧ w'.cell? ⟨g3, 0, none⟩ = some (.slice (some ⟨gs, 0, none⟩) 2 cs) ∧ w'.rangeAt gs 256 ls) := Lib.hid (fun w' h => ⟨Row.range (t := 30) ((HN.out.2.1).past h), (HN.out.2.2.1.past h).cell 0, range_past16 HN.out.2.2.2.2 h⟩)
        refine wp_region_held_drew (S := fun w' => w'.rangeAt u 0 lq ∧ w'.cell? ⟨g3, 0, none⟩ = some (.slice (some ⟨gs, 0, none⟩) 2 cs) ∧ w'.rangeAt gs 256 ls) (by kernel_rfl) (by rw [← hwd]; exact HSK.out _ HPD.out) (fun hH => ?_)
        change wpAnyH _ _ _ _ _ _ _ _ (World.drew _)
        rw [← hwd]
        clear hH hwd
        have hH := HSK.out _ HPD.out
        refine held_take 1 24 rfl rfl (by kernel_rfl) (by kernel_rfl) (by kernel_rfl) (fun _ _ _ h => h) (yieldsIf_load_mid (by kernel_rfl) 30 (.tmp 8) rfl u 0 rfl lq _ (fun _ h => h.1) Tryz.underlying30 rfl HLQ.out) hH ?_
        (try dsimp only [Act.put])
        (try simp only [List.setIfInBounds_toArray, List.set_cons_zero, List.set_cons_succ])
        refine held_take 2 25 (v := .slice (some ⟨gs, 0, none⟩) 2 cs) rfl rfl (by kernel_rfl) (by kernel_rfl) (by kernel_rfl) (fun _ _ _ h => h) (Or.inl ⟨by kernel_rfl, fun w hSw => by
          have hcell := hSw.2.1
          go_simp⟩) hH ?_
        (try dsimp only [Act.put])
        (try simp only [List.setIfInBounds_toArray, List.set_cons_zero, List.set_cons_succ])
        refine held_take 3 26 (v := .int .i64 1) rfl rfl (by kernel_rfl) (by kernel_rfl) (by kernel_rfl) (fun _ _ _ h => h) (Or.inl ⟨by kernel_rfl, fun w _ => by kernel_rfl⟩) hH ?_
        (try dsimp only [Act.put])
        (try simp only [List.setIfInBounds_toArray, List.set_cons_zero, List.set_cons_succ])
        refine held_take 4 27 (v := .pointer (some ⟨gs, 256, none⟩)) rfl rfl (by kernel_rfl) (by kernel_rfl) (by kernel_rfl) (fun _ _ _ h => h) (Or.inl ⟨by kernel_rfl, fun w _ => by go_simp⟩) hH ?_
        (try dsimp only [Act.put])
        (try simp only [List.setIfInBounds_toArray, List.set_cons_zero, List.set_cons_succ])
        refine held_take 5 28 rfl rfl (by kernel_rfl) (by kernel_rfl) (by kernel_rfl) (fun _ _ _ h => h) (yieldsIf_load_mid (by kernel_rfl) 30 (.tmp 27) rfl gs 256 rfl ls _ (fun _ h => h.2.2) Tryz.underlying30 rfl HLS.out) hH ?_
        (try dsimp only [Act.put])
        (try simp only [List.setIfInBounds_toArray, List.set_cons_zero, List.set_cons_succ])
        refine wpAnyH_ready (rs := [0, 6]) (by kernel_rfl) (by simp) ?_
        refine AllReadyH.cons (by simp only [List.getElem?_toArray, List.getElem?_cons_zero]; rfl) (fun K hK => ?_) (AllReadyH.cons (by simp only [List.getElem?_toArray, List.getElem?_cons_succ, List.getElem?_cons_zero]; rfl) (fun K hK => ?_) AllReadyH.nil)
        · refine step_wanted16 rfl ?_
          refine wp_load_mid 30 (.tmp 6) rfl u6 0 rfl lf _ (Row.range (t := 30) (HN.out.2.2.2.1.past HPD.out)) Tryz.underlying30 rfl HLF.out ?_
          refine hK.out _ _ (HSK.out _ HPD.out) (fun hH => ?_)
          clear hK K
          refine wpAnyH_ready (rs := [6]) (by kernel_rfl) (by simp) ?_
          refine AllReadyH.cons (by simp only [List.getElem?_toArray, List.getElem?_cons_succ, List.getElem?_cons_zero]; rfl) (fun K hK => ?_) AllReadyH.nil
          go_simp
          refine (HMU.out wd).mono ?_
          rintro e6 w6 ⟨rfl, hp6⟩
          have HP6 : Hid (Past wn w6) := Lib.hid (HPD.out.trans' hp6)
          clear hp6
          refine hK.out _ _ (HSK.out _ HP6.out) (fun hH => ?_)
          clear hK K
          refine wpAnyH_ready (rs := [7]) (by kernel_rfl) (by simp) ?_
          refine AllReadyH.cons (by simp only [List.getElem?_toArray, List.getElem?_cons_succ, List.getElem?_cons_zero]; rfl) (fun K hK => ?_) AllReadyH.nil
          go_simp
          refine (HAD.out w6).mono ?_
          rintro e7 w7 ⟨rfl, hp7⟩
          have HP7 : Hid (Past wn w7) := Lib.hid (HP6.out.trans' hp7)
          clear hp7
          refine hK.out _ _ (HSK.out _ HP7.out) (fun hH => ?_)
          clear hK K
          refine wpAnyH_ready (rs := [8]) (by kernel_rfl) (by simp) ?_
          refine AllReadyH.cons (by simp only [List.getElem?_toArray, List.getElem?_cons_succ, List.getElem?_cons_zero]; rfl) (fun K hK => ?_) AllReadyH.nil
          refine step_wanted16 rfl ?_
          refine wp_store_row 30 (.tmp 6) (.tmp 30) rfl u6 ca rfl rfl _ _ (HN.out.2.2.2.1.past HP7.out) HIN.out.1 HIN.out.2.1 HIN.out.2.2 ?_
          obtain ⟨w8, hw8⟩ : ∃ w', w7.setRow u6 ca = w' := ⟨_, rfl⟩
          have HT : Hid (∃ F, R16 F ∧ Row w8 u6 30 (arr .u16 256 F) ∧ Past w1 w8) := Lib.hid (by
            refine ⟨_, HNF.out, by rw [HCA.out, ← hw8]; exact setRow_heap _ _ _ _ _ _ (HN.out.2.2.2.1.past HP7.out), ?_⟩
            rw [← hw8]
            exact below_setRow ((HSTAY.out.1.trans' HN.out.1).trans' HP7.out) (by have := HU6.out; omega) _)
          have hS8 : w8.rangeAt u 0 lq ∧ w8.cell? ⟨g3, 0, none⟩ = some (.slice (some ⟨gs, 0, none⟩) 2 cs) ∧ w8.rangeAt gs 256 ls := by
            have hb : Below u6 w7 w8 := by rw [← hw8]; exact below_setRow (Below.refl u6 w7) (Nat.le_refl _) _
            have h7 := HSK.out _ HP7.out
            refine ⟨Row.range (t := 30) (by rw [← hw8]; exact (setRow_other _ _ _ _ (by have := HUU.out; omega)).trans (HN.out.2.1.past HP7.out)), ?_, fun t v ht => ?_⟩
            · rw [hb.cell (p := ⟨g3, 0, none⟩) HG3.out.1]; exact h7.2.1
            · rw [hb.cell (p := ⟨gs, _, none⟩) HG3.out.2]; exact h7.2.2 t v ht
          rw [hw8]
          clear hw8
          refine hK.out _ _ hS8 (fun hH => ?_)
          clear hK K hS8
          refine wpAnyH_done (by kernel_rfl) ?_ _
          go_simp
          clear hH
          go_wp2_with fail
          go_roundg (2 - (1 + 1))
          case rel => exact ⟨1 + 1, by decide, rfl, by first | rfl | go_num, HT⟩
          case measure => have := HGQ.out; omega
        · go_simp
          refine (HMU.out wd).mono ?_
          rintro e6 w6 ⟨rfl, hp6⟩
          have HP6 : Hid (Past wn w6) := Lib.hid (HPD.out.trans' hp6)
          clear hp6
          refine hK.out _ _ (HSK.out _ HP6.out) (fun hH => ?_)
          clear hK K
          refine wpAnyH_ready (rs := [0]) (by kernel_rfl) (by simp) ?_
          refine AllReadyH.cons (by simp only [List.getElem?_toArray, List.getElem?_cons_zero]; rfl) (fun K hK => ?_) AllReadyH.nil
          refine step_wanted16 rfl ?_
          refine wp_load_mid 30 (.tmp 6) rfl u6 0 rfl lf _ (Row.range (t := 30) (HN.out.2.2.2.1.past HP6.out)) Tryz.underlying30 rfl HLF.out ?_
          refine hK.out _ _ (HSK.out _ HP6.out) (fun hH => ?_)
          clear hK K
          refine wpAnyH_ready (rs := [7]) (by kernel_rfl) (by simp) ?_
          refine AllReadyH.cons (by simp only [List.getElem?_toArray, List.getElem?_cons_succ, List.getElem?_cons_zero]; rfl) (fun K hK => ?_) AllReadyH.nil
          go_simp
          refine (HAD.out w6).mono ?_
          rintro e7 w7 ⟨rfl, hp7⟩
          have HP7 : Hid (Past wn w7) := Lib.hid (HP6.out.trans' hp7)
          clear hp7
          refine hK.out _ _ (HSK.out _ HP7.out) (fun hH => ?_)
          clear hK K
          refine wpAnyH_ready (rs := [8]) (by kernel_rfl) (by simp) ?_
          refine AllReadyH.cons (by simp only [List.getElem?_toArray, List.getElem?_cons_succ, List.getElem?_cons_zero]; rfl) (fun K hK => ?_) AllReadyH.nil
          refine step_wanted16 rfl ?_
          refine wp_store_row 30 (.tmp 6) (.tmp 30) rfl u6 ca rfl rfl _ _ (HN.out.2.2.2.1.past HP7.out) HIN.out.1 HIN.out.2.1 HIN.out.2.2 ?_
          obtain ⟨w8, hw8⟩ : ∃ w', w7.setRow u6 ca = w' := ⟨_, rfl⟩
          have HT : Hid (∃ F, R16 F ∧ Row w8 u6 30 (arr .u16 256 F) ∧ Past w1 w8) := Lib.hid (by
            refine ⟨_, HNF.out, by rw [HCA.out, ← hw8]; exact setRow_heap _ _ _ _ _ _ (HN.out.2.2.2.1.past HP7.out), ?_⟩
            rw [← hw8]
            exact below_setRow ((HSTAY.out.1.trans' HN.out.1).trans' HP7.out) (by have := HU6.out; omega) _)
          have hS8 : w8.rangeAt u 0 lq ∧ w8.cell? ⟨g3, 0, none⟩ = some (.slice (some ⟨gs, 0, none⟩) 2 cs) ∧ w8.rangeAt gs 256 ls := by
            have hb : Below u6 w7 w8 := by rw [← hw8]; exact below_setRow (Below.refl u6 w7) (Nat.le_refl _) _
            have h7 := HSK.out _ HP7.out
            refine ⟨Row.range (t := 30) (by rw [← hw8]; exact (setRow_other _ _ _ _ (by have := HUU.out; omega)).trans (HN.out.2.1.past HP7.out)), ?_, fun t v ht => ?_⟩
            · rw [hb.cell (p := ⟨g3, 0, none⟩) HG3.out.1]; exact h7.2.1
            · rw [hb.cell (p := ⟨gs, _, none⟩) HG3.out.2]; exact h7.2.2 t v ht
          rw [hw8]
          clear hw8
          refine hK.out _ _ hS8 (fun hH => ?_)
          clear hK K hS8
          refine wpAnyH_done (by kernel_rfl) ?_ _
          go_simp
          clear hH
          go_wp2_with fail
          go_roundg (2 - (1 + 1))
          case rel => exact ⟨1 + 1, by decide, rfl, by first | rfl | go_num, HT⟩
          case measure => have := HGQ.out; omega
    · obtain rfl : j = 2 := by omega
      have HPA := Lib.hid (And.intro hFR (And.intro hru hpw))
      clear hj hlt hFR hru hpw HI
      go_upto_region 7 with (fail)
      obtain ⟨hFR, hru, hpw⟩ := HPA.out
      have hif := infP F
      have hsf : cz.size = (arr .u16 256 F).size := by rw [HCZ.out, arr_size]
      have hof := arr_one .u16 256 F
      have hrg := H1.out.2.past hpw
      have HPW := Lib.hid (H1.out.1.trans' hpw)
      have HFR := Lib.hid hFR
      obtain ⟨cf, hcf⟩ : ∃ cf, arr .u16 256 F = cf := ⟨_, rfl⟩
      have HCF := Lib.hid hcf
      rw [hcf] at hif hsf hof hru
      clear hcf hpw hFR
      go_wp2_with (first | (refine wpList_load_row rfl 30 _ rfl u6 rfl _ _ (0, 0) _ hru Tryz.underlying30 rfl hif ?_) | (refine wpList_store_row rfl 30 _ _ rfl g _ rfl rfl _ _ hrg hif hsf hof ?_))
      refine bodyPost_ret (results_cell_row rfl _ _ g _ cf (0, 0) _ rfl (setRow_heap _ g _ _ _ _ hrg) Tryz.underlying30 rfl hif) rfl ?_
      exact ⟨F, by rw [HCF.out], HFR.out, below_setRow HPW.out (by have := HG.out; omega) _⟩
theorem scell1_any (g1 g2 g3 ge ce gs cs R q cq : Nat) (E S Q : Nat → Nat → Int) (w : World) (h1 : Row w g1 56 #[.slice (some ⟨ge, 0, none⟩) 2 ce]) (h2 : Row w g2 38 #[.slice (some ⟨R, 0, none⟩) 2 2]) (h3 : Row w g3 56 #[.slice (some ⟨gs, 0, none⟩) 2 cs])
    (hR : w.cell? ⟨R, 1, none⟩ = some (.slice (some ⟨q, 0, none⟩) 2 cq)) (hE : PL w ge E) (hS : PL w gs S) (hQ : PL w q Q) :
    Calls Tryz.prog 37 #[.int .i64 1, .pointer (some ⟨g1, 0, none⟩), .pointer (some ⟨g2, 0, none⟩), .pointer (some ⟨g3, 0, none⟩)] w (MkP w) := by
  have hz := zeroP
  obtain ⟨cz, hcz⟩ : ∃ cz, arr .u16 256 (fun _ => 0) = cz := ⟨_, rfl⟩
  have HCZ : Hid (cz.size = 256) := Lib.hid (by rw [← hcz, arr_size])
  rw [hcz] at hz
  have HZ := Lib.hid hz
  clear hcz
  obtain ⟨g, hg⟩ : ∃ g, w.heap.size = g := ⟨_, rfl⟩
  obtain ⟨w1, hw1⟩ : ∃ w', w.alloc (.cells cz 30) = w' := ⟨_, rfl⟩
  have hp1 : Past w w1 := by rw [← hw1]; exact (Below.refl _ _).alloc (Nat.le_refl _) _
  have hr1 : Row w1 g 30 cz := by rw [← hw1, ← hg]; exact Row.new _ _ _
  have H1 := Lib.hid (And.intro hp1 hr1)
  have hR1 : w1.cell? ⟨R, 1, none⟩ = some (.slice (some ⟨q, 0, none⟩) 2 cq) := by rw [Below.cell hp1 (cell_lt hR)]; exact hR
  have k1 := (h1.past hp1).cell 0
  have k2 := (h2.past hp1).cell 0
  have HB := Lib.hid (And.intro (h1.past hp1) (And.intro (h2.past hp1) (And.intro (h3.past hp1) hR1)))
  have hE1 := hE.past hp1
  have HE := Lib.hid hE1
  have HS := Lib.hid (hS.past hp1)
  have HQ := Lib.hid (hQ.past hp1)
  have hre := hE1.2.2 1 (by decide)
  have hle := (lst_len (E 1)).2
  have hie : (Tryz.prog.info? 30).map (·.size) = some ((lst (E 1)).toArray).size := by rw [← arr_lst]; exact infP _
  have hoe : ((lst (E 1)).toArray).all (·.oneCell') = true := by rw [← arr_lst]; exact arr_one .u16 256 _
  have hse : cz.size = ((lst (E 1)).toArray).size := by rw [← arr_lst, HCZ.out, arr_size]
  have hn1 := heap_alloc_new w1 (.cells cz 30)
  have HW1 := Lib.hid hw1
  have HG := Lib.hid hg
  obtain ⟨u6, hu6⟩ : ∃ u, w1.heap.size = u := ⟨_, rfl⟩
  obtain ⟨w2, hw2⟩ : ∃ w', w1.alloc (.cells (lst (E 1)).toArray 30) = w' := ⟨_, rfl⟩
  have hp2 : Past w1 w2 := by rw [← hw2]; exact (Below.refl _ _).alloc (Nat.le_refl _) _
  have H2 : Hid (∃ F, R16 F ∧ Row w2 u6 30 (arr .u16 256 F) ∧ Past w1 w2) := Lib.hid ⟨E 1, hE.1 1, by rw [← hw2, ← hu6, arr_lst]; exact Row.new _ _ _, hp2⟩
  have HW2 := Lib.hid hw2
  have HU6 : Hid (w1.heap.size = u6) := Lib.hid hu6
  have HWS : Hid ((w1.alloc (.cells cz 30)).setRow u6 (lst (E 1)).toArray = w2) := Lib.hid (by rw [← hu6, World.setRow_alloc_new]; exact hw2)
  rw [hu6] at hn1
  clear h1 h2 h3 hR hE hS hQ hp1 hr1 hw1 hg hE1 hw2 hp2
  generalize (lst (E 1)) = le at *
  go_enter Tryz.func37, Tryz.ntmps37
  go_upto_region 1 with (fail)
  rw [HW1.out]
  try rw [HG.out]
  clear HW1
  go_upto_region 2 with (first | (refine wpList_load_mid rfl 30 _ rfl ge 256 rfl le _ hre Tryz.underlying30 rfl hle ?_) | (refine wpList_store_row rfl 30 _ _ rfl u6 _ rfl rfl _ _ hn1 hie hse hoe ?_))
  rw [HWS.out]
  generalize le.toArray = ae
  have hp2 : Past w1 w2 := H2.out.choose_spec.2.2
  have k2' : w2.cell? ⟨g2, 0, none⟩ = some (.slice (some ⟨R, 0, none⟩) 2 2) := (HB.out.2.1.past hp2).cell 0
  have k4 : w2.cell? ⟨R, 1, none⟩ = some (.slice (some ⟨q, 0, none⟩) 2 cq) := by rw [Below.cell hp2 (cell_lt HB.out.2.2.2)]; exact HB.out.2.2.2
  clear k1 k2 hR1 hre hle hie hoe hse hn1 hu6 hz HW2 hp2 HWS
  go_wp2_with fail
  clear k2' k4
  go_loopg [18] 2 (fun q s18 wx => ∃ j : Nat, j ≤ 2 ∧ q = 2 - j ∧ s18 = .int .i64 (j : Int) ∧ Hid (∃ F, R16 F ∧ Row wx u6 30 (arr .u16 256 F) ∧ Past w1 wx))
  case atStart => exact ⟨0, Nat.zero_le _, rfl, rfl, H2⟩
  case round =>
    clear H2
    obtain ⟨j, hj, hq, rfl, HI⟩ := hrel
    have HGQ := Lib.hid hq
    clear hq
    obtain ⟨F, hFR, hru, hpw⟩ := HI.out
    by_cases hlt : j < 2
    · have hEw := HE.out.past hpw
      have hQw := HQ.out.past hpw
      have hSw := HS.out.past hpw
      rcases (show j = 0 ∨ j = 1 by omega) with rfl | rfl
      · have hrq := hQw.2.2 0 (by decide)
        have hrs := hSw.2.2 0 (by decide)
        have k3 := HB.out.2.2.1.past hpw
        have HSTAY := Lib.hid (And.intro hpw (And.intro hru hFR))
        have HRS := Lib.hid hrs
        have HK3 := Lib.hid k3
        have hlq := (lst_len (Q 0)).2
        have HLS := Lib.hid (lst_len (S 0)).2
        have HMU := Lib.hid (fun w => pmul_any (Q 0) (S 0) (HQ.out.1 0) (HS.out.1 0) w)
        have HAD := Lib.hid (fun w => padd_any F (mulF (Q 0) (S 0)) hFR (mulR _ _) w)
        have HNF : Hid (R16 (addF F (mulF (Q 0) (S 0)))) := Lib.hid (fun t => by unfold addF; omega)
        have hiq : (Tryz.prog.info? 30).map (·.size) = some ((lst (Q 0)).toArray).size := by rw [← arr_lst]; exact infP _
        have hoq : ((lst (Q 0)).toArray).all (·.oneCell') = true := by rw [← arr_lst]; exact arr_one .u16 256 _
        have hsq : cz.size = ((lst (Q 0)).toArray).size := by rw [← arr_lst, HCZ.out, arr_size]
        have HIN : Hid ((Tryz.prog.info? 30).map (·.size) = some (arr .u16 256 (addF F (mulF (Q 0) (S 0)))).size ∧ (arr .u16 256 F).size = (arr .u16 256 (addF F (mulF (Q 0) (S 0)))).size ∧ (arr .u16 256 (addF F (mulF (Q 0) (S 0)))).all (·.oneCell') = true) := Lib.hid ⟨infP _, by rw [arr_size, arr_size], arr_one .u16 256 _⟩
        have HLF := Lib.hid (lst_len F).2
        have hz := HZ.out
        rw [arr_lst (Q 0), arr_lst (S 0)] at HMU
        rw [arr_lst F] at HAD hru HSTAY HIN
        obtain ⟨cm, hcm⟩ : ∃ x, arr .u16 256 (mulF (Q 0) (S 0)) = x := ⟨_, rfl⟩
        rw [hcm] at HMU HAD
        obtain ⟨ca, hca⟩ : ∃ x, arr .u16 256 (addF F (mulF (Q 0) (S 0))) = x := ⟨_, rfl⟩
        rw [hca] at HAD HIN
        have HCA := Lib.hid hca
        clear hcm hca
        obtain ⟨wn, hwn⟩ : ∃ w', wr.alloc (.cells (lst (Q 0)).toArray 30) = w' := ⟨_, rfl⟩
        have hpn : Past wr wn := by rw [← hwn]; exact (Below.refl _ _).alloc (Nat.le_refl _) _
        obtain ⟨u, hu⟩ : ∃ u, wr.heap.size = u := ⟨_, rfl⟩
        have HN : Hid (Past wr wn ∧ Row wn u 30 (lst (Q 0)).toArray ∧ Row wn g3 56 #[.slice (some ⟨gs, 0, none⟩) 2 cs] ∧ Row wn u6 30 (lst F).toArray ∧ wn.rangeAt gs 0 (lst (S 0))) := Lib.hid ⟨hpn, by rw [← hwn, ← hu]; exact Row.new _ _ _, k3.past hpn, hru.past hpn, range_past16 hrs hpn⟩
        have HUU : Hid (u6 < u) := Lib.hid (by rw [← hu]; exact hru.lt)
        have HG3 : Hid (g3 < u6 ∧ gs < u6) := Lib.hid (by rw [← HU6.out]; exact ⟨HB.out.2.2.1.lt, HS.out.2.1⟩)
        have HSR : Hid ((wr.alloc (.cells cz 30)).setRow u (lst (Q 0)).toArray = wn) := Lib.hid (by rw [← hu, World.setRow_alloc_new]; exact hwn)
        have HLQ := Lib.hid hlq
        clear hwn hpn
        have hn1 := heap_alloc_new wr (.cells cz 30)
        rw [hu] at hn1
        clear hpw hrs k3 hEw hQw hSw hru hFR hj hlt HI
        generalize hlQ : lst (Q 0) = lq at *
        generalize hlS : lst (S 0) = ls at *
        generalize hlF : lst F = lf at *
        clear hlQ hlS hlF
        go_upto_region 5 with (first | (refine wpList_load_mid rfl 30 _ rfl q 0 rfl lq _ hrq Tryz.underlying30 rfl hlq ?_) | (refine wpList_store_row rfl 30 _ _ rfl u _ rfl rfl _ _ hn1 hiq hsq hoq ?_))
        rw [HSR.out]
        generalize lq.toArray = ar
        clear HSR hn1 hu
        obtain ⟨wd, hwd⟩ : ∃ W, W = wn.drew := ⟨_, rfl⟩
        have HPD : Hid (Past wn wd) := Lib.hid (by rw [hwd]; exact Past.drewN (Below.refl _ wn) 1)
        have HSK : Hid (∀ w', Past wn w' → w'.rangeAt u 0 lq ∧ w'.cell? ⟨g3, 0, none⟩ = some (.slice (some ⟨gs, 0, none⟩) 2 cs) ∧ w'.rangeAt gs 0 ls) := Lib.hid (fun w' h => ⟨Row.range (t := 30) ((HN.out.2.1).past h), (HN.out.2.2.1.past h).cell 0, range_past16 HN.out.2.2.2.2 h⟩)
        refine wp_region_held_drew (S := fun w' => w'.rangeAt u 0 lq ∧ w'.cell? ⟨g3, 0, none⟩ = some (.slice (some ⟨gs, 0, none⟩) 2 cs) ∧ w'.rangeAt gs 0 ls) (by kernel_rfl) (by rw [← hwd]; exact HSK.out _ HPD.out) (fun hH => ?_)
        change wpAnyH _ _ _ _ _ _ _ _ (World.drew _)
        rw [← hwd]
        clear hH hwd
        have hH := HSK.out _ HPD.out
        refine held_take 1 24 rfl rfl (by kernel_rfl) (by kernel_rfl) (by kernel_rfl) (fun _ _ _ h => h) (yieldsIf_load_mid (by kernel_rfl) 30 (.tmp 8) rfl u 0 rfl lq _ (fun _ h => h.1) Tryz.underlying30 rfl HLQ.out) hH ?_
        (try dsimp only [Act.put])
        (try simp only [List.setIfInBounds_toArray, List.set_cons_zero, List.set_cons_succ])
        refine held_take 2 25 (v := .slice (some ⟨gs, 0, none⟩) 2 cs) rfl rfl (by kernel_rfl) (by kernel_rfl) (by kernel_rfl) (fun _ _ _ h => h) (Or.inl ⟨by kernel_rfl, fun w hSw => by
          have hcell := hSw.2.1
          go_simp⟩) hH ?_
        (try dsimp only [Act.put])
        (try simp only [List.setIfInBounds_toArray, List.set_cons_zero, List.set_cons_succ])
        refine held_take 3 26 (v := .int .i64 0) rfl rfl (by kernel_rfl) (by kernel_rfl) (by kernel_rfl) (fun _ _ _ h => h) (Or.inl ⟨by kernel_rfl, fun w _ => by kernel_rfl⟩) hH ?_
        (try dsimp only [Act.put])
        (try simp only [List.setIfInBounds_toArray, List.set_cons_zero, List.set_cons_succ])
        refine held_take 4 27 (v := .pointer (some ⟨gs, 0, none⟩)) rfl rfl (by kernel_rfl) (by kernel_rfl) (by kernel_rfl) (fun _ _ _ h => h) (Or.inl ⟨by kernel_rfl, fun w _ => by go_simp⟩) hH ?_
        (try dsimp only [Act.put])
        (try simp only [List.setIfInBounds_toArray, List.set_cons_zero, List.set_cons_succ])
        refine held_take 5 28 rfl rfl (by kernel_rfl) (by kernel_rfl) (by kernel_rfl) (fun _ _ _ h => h) (yieldsIf_load_mid (by kernel_rfl) 30 (.tmp 27) rfl gs 0 rfl ls _ (fun _ h => h.2.2) Tryz.underlying30 rfl HLS.out) hH ?_
        (try dsimp only [Act.put])
        (try simp only [List.setIfInBounds_toArray, List.set_cons_zero, List.set_cons_succ])
        refine wpAnyH_ready (rs := [0, 6]) (by kernel_rfl) (by simp) ?_
        refine AllReadyH.cons (by simp only [List.getElem?_toArray, List.getElem?_cons_zero]; rfl) (fun K hK => ?_) (AllReadyH.cons (by simp only [List.getElem?_toArray, List.getElem?_cons_succ, List.getElem?_cons_zero]; rfl) (fun K hK => ?_) AllReadyH.nil)
        · refine step_wanted16 rfl ?_
          refine wp_load_mid 30 (.tmp 6) rfl u6 0 rfl lf _ (Row.range (t := 30) (HN.out.2.2.2.1.past HPD.out)) Tryz.underlying30 rfl HLF.out ?_
          refine hK.out _ _ (HSK.out _ HPD.out) (fun hH => ?_)
          clear hK K
          refine wpAnyH_ready (rs := [6]) (by kernel_rfl) (by simp) ?_
          refine AllReadyH.cons (by simp only [List.getElem?_toArray, List.getElem?_cons_succ, List.getElem?_cons_zero]; rfl) (fun K hK => ?_) AllReadyH.nil
          go_simp
          refine (HMU.out wd).mono ?_
          rintro e6 w6 ⟨rfl, hp6⟩
          have HP6 : Hid (Past wn w6) := Lib.hid (HPD.out.trans' hp6)
          clear hp6
          refine hK.out _ _ (HSK.out _ HP6.out) (fun hH => ?_)
          clear hK K
          refine wpAnyH_ready (rs := [7]) (by kernel_rfl) (by simp) ?_
          refine AllReadyH.cons (by simp only [List.getElem?_toArray, List.getElem?_cons_succ, List.getElem?_cons_zero]; rfl) (fun K hK => ?_) AllReadyH.nil
          go_simp
          refine (HAD.out w6).mono ?_
          rintro e7 w7 ⟨rfl, hp7⟩
          have HP7 : Hid (Past wn w7) := Lib.hid (HP6.out.trans' hp7)
          clear hp7
          refine hK.out _ _ (HSK.out _ HP7.out) (fun hH => ?_)
          clear hK K
          refine wpAnyH_ready (rs := [8]) (by kernel_rfl) (by simp) ?_
          refine AllReadyH.cons (by simp only [List.getElem?_toArray, List.getElem?_cons_succ, List.getElem?_cons_zero]; rfl) (fun K hK => ?_) AllReadyH.nil
          refine step_wanted16 rfl ?_
          refine wp_store_row 30 (.tmp 6) (.tmp 30) rfl u6 ca rfl rfl _ _ (HN.out.2.2.2.1.past HP7.out) HIN.out.1 HIN.out.2.1 HIN.out.2.2 ?_
          obtain ⟨w8, hw8⟩ : ∃ w', w7.setRow u6 ca = w' := ⟨_, rfl⟩
          have HT : Hid (∃ F, R16 F ∧ Row w8 u6 30 (arr .u16 256 F) ∧ Past w1 w8) := Lib.hid (by
            refine ⟨_, HNF.out, by rw [HCA.out, ← hw8]; exact setRow_heap _ _ _ _ _ _ (HN.out.2.2.2.1.past HP7.out), ?_⟩
            rw [← hw8]
            exact below_setRow ((HSTAY.out.1.trans' HN.out.1).trans' HP7.out) (by have := HU6.out; omega) _)
          have hS8 : w8.rangeAt u 0 lq ∧ w8.cell? ⟨g3, 0, none⟩ = some (.slice (some ⟨gs, 0, none⟩) 2 cs) ∧ w8.rangeAt gs 0 ls := by
            have hb : Below u6 w7 w8 := by rw [← hw8]; exact below_setRow (Below.refl u6 w7) (Nat.le_refl _) _
            have h7 := HSK.out _ HP7.out
            refine ⟨Row.range (t := 30) (by rw [← hw8]; exact (setRow_other _ _ _ _ (by have := HUU.out; omega)).trans (HN.out.2.1.past HP7.out)), ?_, fun t v ht => ?_⟩
            · rw [hb.cell (p := ⟨g3, 0, none⟩) HG3.out.1]; exact h7.2.1
            · rw [hb.cell (p := ⟨gs, _, none⟩) HG3.out.2]; exact h7.2.2 t v ht
          rw [hw8]
          clear hw8
          refine hK.out _ _ hS8 (fun hH => ?_)
          clear hK K hS8
          refine wpAnyH_done (by kernel_rfl) ?_ _
          go_simp
          clear hH
          go_wp2_with fail
          go_roundg (2 - (0 + 1))
          case rel => exact ⟨0 + 1, by decide, rfl, by first | rfl | go_num, HT⟩
          case measure => have := HGQ.out; omega
        · go_simp
          refine (HMU.out wd).mono ?_
          rintro e6 w6 ⟨rfl, hp6⟩
          have HP6 : Hid (Past wn w6) := Lib.hid (HPD.out.trans' hp6)
          clear hp6
          refine hK.out _ _ (HSK.out _ HP6.out) (fun hH => ?_)
          clear hK K
          refine wpAnyH_ready (rs := [0]) (by kernel_rfl) (by simp) ?_
          refine AllReadyH.cons (by simp only [List.getElem?_toArray, List.getElem?_cons_zero]; rfl) (fun K hK => ?_) AllReadyH.nil
          refine step_wanted16 rfl ?_
          refine wp_load_mid 30 (.tmp 6) rfl u6 0 rfl lf _ (Row.range (t := 30) (HN.out.2.2.2.1.past HP6.out)) Tryz.underlying30 rfl HLF.out ?_
          refine hK.out _ _ (HSK.out _ HP6.out) (fun hH => ?_)
          clear hK K
          refine wpAnyH_ready (rs := [7]) (by kernel_rfl) (by simp) ?_
          refine AllReadyH.cons (by simp only [List.getElem?_toArray, List.getElem?_cons_succ, List.getElem?_cons_zero]; rfl) (fun K hK => ?_) AllReadyH.nil
          go_simp
          refine (HAD.out w6).mono ?_
          rintro e7 w7 ⟨rfl, hp7⟩
          have HP7 : Hid (Past wn w7) := Lib.hid (HP6.out.trans' hp7)
          clear hp7
          refine hK.out _ _ (HSK.out _ HP7.out) (fun hH => ?_)
          clear hK K
          refine wpAnyH_ready (rs := [8]) (by kernel_rfl) (by simp) ?_
          refine AllReadyH.cons (by simp only [List.getElem?_toArray, List.getElem?_cons_succ, List.getElem?_cons_zero]; rfl) (fun K hK => ?_) AllReadyH.nil
          refine step_wanted16 rfl ?_
          refine wp_store_row 30 (.tmp 6) (.tmp 30) rfl u6 ca rfl rfl _ _ (HN.out.2.2.2.1.past HP7.out) HIN.out.1 HIN.out.2.1 HIN.out.2.2 ?_
          obtain ⟨w8, hw8⟩ : ∃ w', w7.setRow u6 ca = w' := ⟨_, rfl⟩
          have HT : Hid (∃ F, R16 F ∧ Row w8 u6 30 (arr .u16 256 F) ∧ Past w1 w8) := Lib.hid (by
            refine ⟨_, HNF.out, by rw [HCA.out, ← hw8]; exact setRow_heap _ _ _ _ _ _ (HN.out.2.2.2.1.past HP7.out), ?_⟩
            rw [← hw8]
            exact below_setRow ((HSTAY.out.1.trans' HN.out.1).trans' HP7.out) (by have := HU6.out; omega) _)
          have hS8 : w8.rangeAt u 0 lq ∧ w8.cell? ⟨g3, 0, none⟩ = some (.slice (some ⟨gs, 0, none⟩) 2 cs) ∧ w8.rangeAt gs 0 ls := by
            have hb : Below u6 w7 w8 := by rw [← hw8]; exact below_setRow (Below.refl u6 w7) (Nat.le_refl _) _
            have h7 := HSK.out _ HP7.out
            refine ⟨Row.range (t := 30) (by rw [← hw8]; exact (setRow_other _ _ _ _ (by have := HUU.out; omega)).trans (HN.out.2.1.past HP7.out)), ?_, fun t v ht => ?_⟩
            · rw [hb.cell (p := ⟨g3, 0, none⟩) HG3.out.1]; exact h7.2.1
            · rw [hb.cell (p := ⟨gs, _, none⟩) HG3.out.2]; exact h7.2.2 t v ht
          rw [hw8]
          clear hw8
          refine hK.out _ _ hS8 (fun hH => ?_)
          clear hK K hS8
          refine wpAnyH_done (by kernel_rfl) ?_ _
          go_simp
          clear hH
          go_wp2_with fail
          go_roundg (2 - (0 + 1))
          case rel => exact ⟨0 + 1, by decide, rfl, by first | rfl | go_num, HT⟩
          case measure => have := HGQ.out; omega
      · have hrq := hQw.2.2 1 (by decide)
        have hrs := hSw.2.2 1 (by decide)
        have k3 := HB.out.2.2.1.past hpw
        have HSTAY := Lib.hid (And.intro hpw (And.intro hru hFR))
        have HRS := Lib.hid hrs
        have HK3 := Lib.hid k3
        have hlq := (lst_len (Q 1)).2
        have HLS := Lib.hid (lst_len (S 1)).2
        have HMU := Lib.hid (fun w => pmul_any (Q 1) (S 1) (HQ.out.1 1) (HS.out.1 1) w)
        have HAD := Lib.hid (fun w => padd_any F (mulF (Q 1) (S 1)) hFR (mulR _ _) w)
        have HNF : Hid (R16 (addF F (mulF (Q 1) (S 1)))) := Lib.hid (fun t => by unfold addF; omega)
        have hiq : (Tryz.prog.info? 30).map (·.size) = some ((lst (Q 1)).toArray).size := by rw [← arr_lst]; exact infP _
        have hoq : ((lst (Q 1)).toArray).all (·.oneCell') = true := by rw [← arr_lst]; exact arr_one .u16 256 _
        have hsq : cz.size = ((lst (Q 1)).toArray).size := by rw [← arr_lst, HCZ.out, arr_size]
        have HIN : Hid ((Tryz.prog.info? 30).map (·.size) = some (arr .u16 256 (addF F (mulF (Q 1) (S 1)))).size ∧ (arr .u16 256 F).size = (arr .u16 256 (addF F (mulF (Q 1) (S 1)))).size ∧ (arr .u16 256 (addF F (mulF (Q 1) (S 1)))).all (·.oneCell') = true) := Lib.hid ⟨infP _, by rw [arr_size, arr_size], arr_one .u16 256 _⟩
        have HLF := Lib.hid (lst_len F).2
        have hz := HZ.out
        rw [arr_lst (Q 1), arr_lst (S 1)] at HMU
        rw [arr_lst F] at HAD hru HSTAY HIN
        obtain ⟨cm, hcm⟩ : ∃ x, arr .u16 256 (mulF (Q 1) (S 1)) = x := ⟨_, rfl⟩
        rw [hcm] at HMU HAD
        obtain ⟨ca, hca⟩ : ∃ x, arr .u16 256 (addF F (mulF (Q 1) (S 1))) = x := ⟨_, rfl⟩
        rw [hca] at HAD HIN
        have HCA := Lib.hid hca
        clear hcm hca
        obtain ⟨wn, hwn⟩ : ∃ w', wr.alloc (.cells (lst (Q 1)).toArray 30) = w' := ⟨_, rfl⟩
        have hpn : Past wr wn := by rw [← hwn]; exact (Below.refl _ _).alloc (Nat.le_refl _) _
        obtain ⟨u, hu⟩ : ∃ u, wr.heap.size = u := ⟨_, rfl⟩
        have HN : Hid (Past wr wn ∧ Row wn u 30 (lst (Q 1)).toArray ∧ Row wn g3 56 #[.slice (some ⟨gs, 0, none⟩) 2 cs] ∧ Row wn u6 30 (lst F).toArray ∧ wn.rangeAt gs 256 (lst (S 1))) := Lib.hid ⟨hpn, by rw [← hwn, ← hu]; exact Row.new _ _ _, k3.past hpn, hru.past hpn, range_past16 hrs hpn⟩
        have HUU : Hid (u6 < u) := Lib.hid (by rw [← hu]; exact hru.lt)
        have HG3 : Hid (g3 < u6 ∧ gs < u6) := Lib.hid (by rw [← HU6.out]; exact ⟨HB.out.2.2.1.lt, HS.out.2.1⟩)
        have HSR : Hid ((wr.alloc (.cells cz 30)).setRow u (lst (Q 1)).toArray = wn) := Lib.hid (by rw [← hu, World.setRow_alloc_new]; exact hwn)
        have HLQ := Lib.hid hlq
        clear hwn hpn
        have hn1 := heap_alloc_new wr (.cells cz 30)
        rw [hu] at hn1
        clear hpw hrs k3 hEw hQw hSw hru hFR hj hlt HI
        generalize hlQ : lst (Q 1) = lq at *
        generalize hlS : lst (S 1) = ls at *
        generalize hlF : lst F = lf at *
        clear hlQ hlS hlF
        go_upto_region 5 with (first | (refine wpList_load_mid rfl 30 _ rfl q 256 rfl lq _ hrq Tryz.underlying30 rfl hlq ?_) | (refine wpList_store_row rfl 30 _ _ rfl u _ rfl rfl _ _ hn1 hiq hsq hoq ?_))
        rw [HSR.out]
        generalize lq.toArray = ar
        clear HSR hn1 hu
        obtain ⟨wd, hwd⟩ : ∃ W, W = wn.drew := ⟨_, rfl⟩
        have HPD : Hid (Past wn wd) := Lib.hid (by rw [hwd]; exact Past.drewN (Below.refl _ wn) 1)
        have HSK : Hid (∀ w', Past wn w' → w'.rangeAt u 0 lq ∧ w'.cell? ⟨g3, 0, none⟩ = some (.slice (some ⟨gs, 0, none⟩) 2 cs) ∧ w'.rangeAt gs 256 ls) := Lib.hid (fun w' h => ⟨Row.range (t := 30) ((HN.out.2.1).past h), (HN.out.2.2.1.past h).cell 0, range_past16 HN.out.2.2.2.2 h⟩)
        refine wp_region_held_drew (S := fun w' => w'.rangeAt u 0 lq ∧ w'.cell? ⟨g3, 0, none⟩ = some (.slice (some ⟨gs, 0, none⟩) 2 cs) ∧ w'.rangeAt gs 256 ls) (by kernel_rfl) (by rw [← hwd]; exact HSK.out _ HPD.out) (fun hH => ?_)
        change wpAnyH _ _ _ _ _ _ _ _ (World.drew _)
        rw [← hwd]
        clear hH hwd
        have hH := HSK.out _ HPD.out
        refine held_take 1 24 rfl rfl (by kernel_rfl) (by kernel_rfl) (by kernel_rfl) (fun _ _ _ h => h) (yieldsIf_load_mid (by kernel_rfl) 30 (.tmp 8) rfl u 0 rfl lq _ (fun _ h => h.1) Tryz.underlying30 rfl HLQ.out) hH ?_
        (try dsimp only [Act.put])
        (try simp only [List.setIfInBounds_toArray, List.set_cons_zero, List.set_cons_succ])
        refine held_take 2 25 (v := .slice (some ⟨gs, 0, none⟩) 2 cs) rfl rfl (by kernel_rfl) (by kernel_rfl) (by kernel_rfl) (fun _ _ _ h => h) (Or.inl ⟨by kernel_rfl, fun w hSw => by
          have hcell := hSw.2.1
          go_simp⟩) hH ?_
        (try dsimp only [Act.put])
        (try simp only [List.setIfInBounds_toArray, List.set_cons_zero, List.set_cons_succ])
        refine held_take 3 26 (v := .int .i64 1) rfl rfl (by kernel_rfl) (by kernel_rfl) (by kernel_rfl) (fun _ _ _ h => h) (Or.inl ⟨by kernel_rfl, fun w _ => by kernel_rfl⟩) hH ?_
        (try dsimp only [Act.put])
        (try simp only [List.setIfInBounds_toArray, List.set_cons_zero, List.set_cons_succ])
        refine held_take 4 27 (v := .pointer (some ⟨gs, 256, none⟩)) rfl rfl (by kernel_rfl) (by kernel_rfl) (by kernel_rfl) (fun _ _ _ h => h) (Or.inl ⟨by kernel_rfl, fun w _ => by go_simp⟩) hH ?_
        (try dsimp only [Act.put])
        (try simp only [List.setIfInBounds_toArray, List.set_cons_zero, List.set_cons_succ])
        refine held_take 5 28 rfl rfl (by kernel_rfl) (by kernel_rfl) (by kernel_rfl) (fun _ _ _ h => h) (yieldsIf_load_mid (by kernel_rfl) 30 (.tmp 27) rfl gs 256 rfl ls _ (fun _ h => h.2.2) Tryz.underlying30 rfl HLS.out) hH ?_
        (try dsimp only [Act.put])
        (try simp only [List.setIfInBounds_toArray, List.set_cons_zero, List.set_cons_succ])
        refine wpAnyH_ready (rs := [0, 6]) (by kernel_rfl) (by simp) ?_
        refine AllReadyH.cons (by simp only [List.getElem?_toArray, List.getElem?_cons_zero]; rfl) (fun K hK => ?_) (AllReadyH.cons (by simp only [List.getElem?_toArray, List.getElem?_cons_succ, List.getElem?_cons_zero]; rfl) (fun K hK => ?_) AllReadyH.nil)
        · refine step_wanted16 rfl ?_
          refine wp_load_mid 30 (.tmp 6) rfl u6 0 rfl lf _ (Row.range (t := 30) (HN.out.2.2.2.1.past HPD.out)) Tryz.underlying30 rfl HLF.out ?_
          refine hK.out _ _ (HSK.out _ HPD.out) (fun hH => ?_)
          clear hK K
          refine wpAnyH_ready (rs := [6]) (by kernel_rfl) (by simp) ?_
          refine AllReadyH.cons (by simp only [List.getElem?_toArray, List.getElem?_cons_succ, List.getElem?_cons_zero]; rfl) (fun K hK => ?_) AllReadyH.nil
          go_simp
          refine (HMU.out wd).mono ?_
          rintro e6 w6 ⟨rfl, hp6⟩
          have HP6 : Hid (Past wn w6) := Lib.hid (HPD.out.trans' hp6)
          clear hp6
          refine hK.out _ _ (HSK.out _ HP6.out) (fun hH => ?_)
          clear hK K
          refine wpAnyH_ready (rs := [7]) (by kernel_rfl) (by simp) ?_
          refine AllReadyH.cons (by simp only [List.getElem?_toArray, List.getElem?_cons_succ, List.getElem?_cons_zero]; rfl) (fun K hK => ?_) AllReadyH.nil
          go_simp
          refine (HAD.out w6).mono ?_
          rintro e7 w7 ⟨rfl, hp7⟩
          have HP7 : Hid (Past wn w7) := Lib.hid (HP6.out.trans' hp7)
          clear hp7
          refine hK.out _ _ (HSK.out _ HP7.out) (fun hH => ?_)
          clear hK K
          refine wpAnyH_ready (rs := [8]) (by kernel_rfl) (by simp) ?_
          refine AllReadyH.cons (by simp only [List.getElem?_toArray, List.getElem?_cons_succ, List.getElem?_cons_zero]; rfl) (fun K hK => ?_) AllReadyH.nil
          refine step_wanted16 rfl ?_
          refine wp_store_row 30 (.tmp 6) (.tmp 30) rfl u6 ca rfl rfl _ _ (HN.out.2.2.2.1.past HP7.out) HIN.out.1 HIN.out.2.1 HIN.out.2.2 ?_
          obtain ⟨w8, hw8⟩ : ∃ w', w7.setRow u6 ca = w' := ⟨_, rfl⟩
          have HT : Hid (∃ F, R16 F ∧ Row w8 u6 30 (arr .u16 256 F) ∧ Past w1 w8) := Lib.hid (by
            refine ⟨_, HNF.out, by rw [HCA.out, ← hw8]; exact setRow_heap _ _ _ _ _ _ (HN.out.2.2.2.1.past HP7.out), ?_⟩
            rw [← hw8]
            exact below_setRow ((HSTAY.out.1.trans' HN.out.1).trans' HP7.out) (by have := HU6.out; omega) _)
          have hS8 : w8.rangeAt u 0 lq ∧ w8.cell? ⟨g3, 0, none⟩ = some (.slice (some ⟨gs, 0, none⟩) 2 cs) ∧ w8.rangeAt gs 256 ls := by
            have hb : Below u6 w7 w8 := by rw [← hw8]; exact below_setRow (Below.refl u6 w7) (Nat.le_refl _) _
            have h7 := HSK.out _ HP7.out
            refine ⟨Row.range (t := 30) (by rw [← hw8]; exact (setRow_other _ _ _ _ (by have := HUU.out; omega)).trans (HN.out.2.1.past HP7.out)), ?_, fun t v ht => ?_⟩
            · rw [hb.cell (p := ⟨g3, 0, none⟩) HG3.out.1]; exact h7.2.1
            · rw [hb.cell (p := ⟨gs, _, none⟩) HG3.out.2]; exact h7.2.2 t v ht
          rw [hw8]
          clear hw8
          refine hK.out _ _ hS8 (fun hH => ?_)
          clear hK K hS8
          refine wpAnyH_done (by kernel_rfl) ?_ _
          go_simp
          clear hH
          go_wp2_with fail
          go_roundg (2 - (1 + 1))
          case rel => exact ⟨1 + 1, by decide, rfl, by first | rfl | go_num, HT⟩
          case measure => have := HGQ.out; omega
        · go_simp
          refine (HMU.out wd).mono ?_
          rintro e6 w6 ⟨rfl, hp6⟩
          have HP6 : Hid (Past wn w6) := Lib.hid (HPD.out.trans' hp6)
          clear hp6
          refine hK.out _ _ (HSK.out _ HP6.out) (fun hH => ?_)
          clear hK K
          refine wpAnyH_ready (rs := [0]) (by kernel_rfl) (by simp) ?_
          refine AllReadyH.cons (by simp only [List.getElem?_toArray, List.getElem?_cons_zero]; rfl) (fun K hK => ?_) AllReadyH.nil
          refine step_wanted16 rfl ?_
          refine wp_load_mid 30 (.tmp 6) rfl u6 0 rfl lf _ (Row.range (t := 30) (HN.out.2.2.2.1.past HP6.out)) Tryz.underlying30 rfl HLF.out ?_
          refine hK.out _ _ (HSK.out _ HP6.out) (fun hH => ?_)
          clear hK K
          refine wpAnyH_ready (rs := [7]) (by kernel_rfl) (by simp) ?_
          refine AllReadyH.cons (by simp only [List.getElem?_toArray, List.getElem?_cons_succ, List.getElem?_cons_zero]; rfl) (fun K hK => ?_) AllReadyH.nil
          go_simp
          refine (HAD.out w6).mono ?_
          rintro e7 w7 ⟨rfl, hp7⟩
          have HP7 : Hid (Past wn w7) := Lib.hid (HP6.out.trans' hp7)
          clear hp7
          refine hK.out _ _ (HSK.out _ HP7.out) (fun hH => ?_)
          clear hK K
          refine wpAnyH_ready (rs := [8]) (by kernel_rfl) (by simp) ?_
          refine AllReadyH.cons (by simp only [List.getElem?_toArray, List.getElem?_cons_succ, List.getElem?_cons_zero]; rfl) (fun K hK => ?_) AllReadyH.nil
          refine step_wanted16 rfl ?_
          refine wp_store_row 30 (.tmp 6) (.tmp 30) rfl u6 ca rfl rfl _ _ (HN.out.2.2.2.1.past HP7.out) HIN.out.1 HIN.out.2.1 HIN.out.2.2 ?_
          obtain ⟨w8, hw8⟩ : ∃ w', w7.setRow u6 ca = w' := ⟨_, rfl⟩
          have HT : Hid (∃ F, R16 F ∧ Row w8 u6 30 (arr .u16 256 F) ∧ Past w1 w8) := Lib.hid (by
            refine ⟨_, HNF.out, by rw [HCA.out, ← hw8]; exact setRow_heap _ _ _ _ _ _ (HN.out.2.2.2.1.past HP7.out), ?_⟩
            rw [← hw8]
            exact below_setRow ((HSTAY.out.1.trans' HN.out.1).trans' HP7.out) (by have := HU6.out; omega) _)
          have hS8 : w8.rangeAt u 0 lq ∧ w8.cell? ⟨g3, 0, none⟩ = some (.slice (some ⟨gs, 0, none⟩) 2 cs) ∧ w8.rangeAt gs 256 ls := by
            have hb : Below u6 w7 w8 := by rw [← hw8]; exact below_setRow (Below.refl u6 w7) (Nat.le_refl _) _
            have h7 := HSK.out _ HP7.out
            refine ⟨Row.range (t := 30) (by rw [← hw8]; exact (setRow_other _ _ _ _ (by have := HUU.out; omega)).trans (HN.out.2.1.past HP7.out)), ?_, fun t v ht => ?_⟩
            · rw [hb.cell (p := ⟨g3, 0, none⟩) HG3.out.1]; exact h7.2.1
            · rw [hb.cell (p := ⟨gs, _, none⟩) HG3.out.2]; exact h7.2.2 t v ht
          rw [hw8]
          clear hw8
          refine hK.out _ _ hS8 (fun hH => ?_)
          clear hK K hS8
          refine wpAnyH_done (by kernel_rfl) ?_ _
          go_simp
          clear hH
          go_wp2_with fail
          go_roundg (2 - (1 + 1))
          case rel => exact ⟨1 + 1, by decide, rfl, by first | rfl | go_num, HT⟩
          case measure => have := HGQ.out; omega
    · obtain rfl : j = 2 := by omega
      have HPA := Lib.hid (And.intro hFR (And.intro hru hpw))
      clear hj hlt hFR hru hpw HI
      go_upto_region 7 with (fail)
      obtain ⟨hFR, hru, hpw⟩ := HPA.out
      have hif := infP F
      have hsf : cz.size = (arr .u16 256 F).size := by rw [HCZ.out, arr_size]
      have hof := arr_one .u16 256 F
      have hrg := H1.out.2.past hpw
      have HPW := Lib.hid (H1.out.1.trans' hpw)
      have HFR := Lib.hid hFR
      obtain ⟨cf, hcf⟩ : ∃ cf, arr .u16 256 F = cf := ⟨_, rfl⟩
      have HCF := Lib.hid hcf
      rw [hcf] at hif hsf hof hru
      clear hcf hpw hFR
      go_wp2_with (first | (refine wpList_load_row rfl 30 _ rfl u6 rfl _ _ (0, 0) _ hru Tryz.underlying30 rfl hif ?_) | (refine wpList_store_row rfl 30 _ _ rfl g _ rfl rfl _ _ hrg hif hsf hof ?_))
      refine bodyPost_ret (results_cell_row rfl _ _ g _ cf (0, 0) _ rfl (setRow_heap _ g _ _ _ _ hrg) Tryz.underlying30 rfl hif) rfl ?_
      exact ⟨F, by rw [HCF.out], HFR.out, below_setRow HPW.out (by have := HG.out; omega) _⟩
end Go.Proofs.YtalhdalmafhofaaGreatDoor

namespace Go.Proofs.YtalhdalmafhofaaGreatDoor
open Go.RowKit
set_option linter.unusedVariables false
set_option maxRecDepth 100000
set_option maxHeartbeats 4000000

theorem sums_any (R : Nat) (v0 v1 : Value) (gs cs ge ce : Nat) (S E : Nat → Nat → Int) (w : World) (hR : Row w R 56 #[v0, v1]) (h0 : PLV w R v0) (h1 : PLV w R v1) (hS : PL w gs S) (hE : PL w ge E) :
    Calls Tryz.prog 23 #[.slice (some ⟨R, 0, none⟩) 2 2, .slice (some ⟨gs, 0, none⟩) 2 cs, .slice (some ⟨ge, 0, none⟩) 2 ce] w fun r w' => ∃ v, r = .returned v ∧ RowsP w.heap.size w' v 2 ∧ Past w w' := by
  obtain ⟨q0, c0, Q0, rfl, hq0, _⟩ := h0
  obtain ⟨q1, c1, Q1, rfl, hq1, _⟩ := h1
  have hent : ∀ args w, (callFunc 37 args).run Tryz.prog w = .ok (.enter 37 args) w := enters_of Tryz.func37 (by kernel_rfl) rfl
  obtain ⟨g, hg⟩ : ∃ g, w.heap.size = g := ⟨_, rfl⟩
  obtain ⟨w1, hw1⟩ : ∃ w', w.alloc (.cells #[.slice (some ⟨R, 0, none⟩) 2 2] 38) = w' := ⟨_, rfl⟩
  obtain ⟨w2, hw2⟩ : ∃ w', w1.alloc (.cells #[.slice (some ⟨gs, 0, none⟩) 2 cs] 56) = w' := ⟨_, rfl⟩
  obtain ⟨w3, hw3⟩ : ∃ w', w2.alloc (.cells #[.slice (some ⟨ge, 0, none⟩) 2 ce] 56) = w' := ⟨_, rfl⟩
  have hp1 : Past w w1 := by rw [← hw1]; exact (Below.refl _ _).alloc (Nat.le_refl _) _
  have hp2 : Past w1 w2 := by rw [← hw2]; exact (Below.refl _ _).alloc (Nat.le_refl _) _
  have hp3 : Past w2 w3 := by rw [← hw3]; exact (Below.refl _ _).alloc (Nat.le_refl _) _
  have hr1 : Row w1 g 38 #[.slice (some ⟨R, 0, none⟩) 2 2] := by rw [← hw1, ← hg]; exact Row.new _ _ _
  have hs1 : w1.heap.size = g + 1 := by rw [← hw1, ← hg]; simp [World.size_alloc]
  have hr2 : Row w2 (g + 1) 56 #[.slice (some ⟨gs, 0, none⟩) 2 cs] := by rw [← hw2, ← hs1]; exact Row.new _ _ _
  have hs2 : w2.heap.size = g + 1 + 1 := by rw [← hw2]; simp [World.size_alloc, hs1]
  have hr3 : Row w3 (g + 1 + 1) 56 #[.slice (some ⟨ge, 0, none⟩) 2 ce] := by rw [← hw3, ← hs2]; exact Row.new _ _ _
  have hp := (hp1.trans' hp2).trans' hp3
  have hk1 := ((hr1.past hp2).past hp3).cell 0
  have HP := Lib.hid hp
  have HROW := Lib.hid (rowOf_any 2 37 #[.pointer (some ⟨g + 1 + 1, 0, none⟩), .pointer (some ⟨g, 0, none⟩), .pointer (some ⟨g + 1, 0, none⟩)] w3 (by decide) hent (fun j hj w' hpp => by
    show Calls _ _ #[.int .i64 (j : Int), .pointer (some ⟨g + 1 + 1, 0, none⟩), .pointer (some ⟨g, 0, none⟩), .pointer (some ⟨g + 1, 0, none⟩)] _ _
    have hq := hp.trans' hpp
    have hRR := hR.past hq
    rcases (show j = 0 ∨ j = 1 by omega) with rfl | rfl
    · exact scell0_any _ _ _ ge ce gs cs R q0 c0 E S Q0 w' (hr3.past hpp) (((hr1.past hp2).past hp3).past hpp) ((hr2.past hp3).past hpp) (hRR.cell 0) (hE.past hq) (hS.past hq) (hq0.past hq)
    · exact scell1_any _ _ _ ge ce gs cs R q1 c1 E S Q1 w' (hr3.past hpp) (((hr1.past hp2).past hp3).past hpp) ((hr2.past hp3).past hpp) (hRR.cell 1) (hE.past hq) (hS.past hq) (hq1.past hq)))
  clear hr1 hr2 hr3 hp hp1 hp2 hp3 hent hR hS hE hq0 hq1
  go_enter Tryz.func23, Tryz.ntmps23
  go_upto_region 1 with (fail)
  try rw [hw1]
  try rw [hg]
  try rw [hs1]
  try rw [hw2]
  try rw [hs2]
  try rw [hw3]
  go_wp2_with fail
  refine HROW.out.mono ?_
  rintro e w4 ⟨v, rfl, hrp, hp4⟩
  have HE : Hid (∃ v', (Ending.returned v : Ending) = .returned v' ∧ RowsP w.heap.size w4 v' 2 ∧ Past w w4) := Lib.hid ⟨v, rfl, by
    obtain ⟨F, hF, ho⟩ := hrp
    exact ⟨F, hF, own_mono ho HP.out.size⟩, HP.out.trans' hp4⟩
  obtain ⟨g5, c5, Q5, rfl, _, _⟩ := hrp.pl
  clear hrp hp4
  go_wp2_with fail
  go_ret
  exact HE.out
end Go.Proofs.YtalhdalmafhofaaGreatDoor
