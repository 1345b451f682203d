/- The program's CheckPublic. The program's split and moved. -/
import Derived.Test.YthbnaoifiggdnaaGreatDoorQ15C
import Derived.OwnWalk
namespace Go.Proofs.YthbnaoifiggdnaaGreatDoor
open Go.RowKit
set_option linter.unusedVariables false
set_option maxRecDepth 100000

theorem kem_sizes {a : Int} (h : 1 ≤ a ∧ a ≤ 3) : (row13 a).pub = 384 * (a + 1) + 32 ∧ (row13 a).priv = 2 * (384 * (a + 1)) + 96 := by
  have : a = 1 ∨ a = 2 ∨ a = 3 := by omega
  rcases this with rfl | rfl | rfl <;> decide +kernel
theorem Sl.cut3 {w : World} {b o n c : Nat} {xs : List Int} (h : Sl w (some ⟨b, o, none⟩) n c xs) {L H m : Nat} (hm : L + m = H) (hH : H ≤ n) (h0 : 0 < m) : Sl w (some ⟨b, o + L, none⟩) m m (seg xs L m) := by
  have := h.cut (i := L) (m := m) (by omega)
  rw [if_neg (by omega), Option.map_some, add_none] at this
  exact this
theorem Sl.pre3 {w : World} {A : Option Addr} {n c : Nat} {xs : List Int} (h : Sl w A n c xs) {m : Nat} (hm : m ≤ n) (h0 : 0 < m) : Sl w A m m (seg xs 0 m) := by
  have h1 := h.pre hm
  have h2 := h.cap
  have h3 := h.big
  exact ⟨h1.len, Nat.le_refl _, by omega, h1.bytes, h1.rng, fun e => by
    obtain ⟨b, o, e2, _⟩ := h.bytes (by omega)
    rw [e] at e2
    cases e2⟩
set_option maxHeartbeats 1000000 in
theorem kcheckPublic_any (a : Int) (A : Option Addr) (n c : Nat) (xs : List Int) (w : World) (hS : Sl w A n c xs) (hn : n ≤ 10000) (hG : Glob13 w) :
    Calls Tryz.prog 13 #[.int .i64 a, .slice A n c] w fun e w' => e = .returned (errV (chkPub a xs)) ∧ Past w w' := by
  have HRW := Lib.hid (krow_any a w hG)
  obtain ⟨R, hR⟩ : ∃ R, chkPub a xs = R := ⟨_, rfl⟩
  rw [hR]
  by_cases ha : 1 ≤ a ∧ a ≤ 3
  · have HA := Lib.hid ha
    have hl := hS.len
    have hcp := hS.cap
    obtain ⟨N, hN⟩ : ∃ N : Nat, 384 * (a + 1) = (N : Int) := ⟨(384 * (a + 1)).toNat, by omega⟩
    obtain ⟨M, hM⟩ : ∃ M : Nat, N + 32 = M := ⟨_, rfl⟩
    have hpub : (row13 a).pub = (M : Int) := by rw [(kem_sizes ha).1, hN]; omega
    have HPUB := Lib.hid hpub
    have hR2 : (if (n : Int) ≠ (M : Int) then ((6 : Int), (0 : Int)) else polyR (seg xs 0 N)) = R := by
      rw [← hR]
      unfold chkPub polyR
      rw [if_neg (show ¬ (a < 1 ∨ 3 < a) by omega), hN, Int.toNat_natCast, show (N : Int) + 32 = (M : Int) by omega, hl]
    by_cases h3 : n = M
    · rw [if_neg (by omega)] at hR2
      have HCP := Lib.hid (fun w' (h : Past w w') => checkPolys_any A N N (seg xs 0 N) w' ((hS.past h).pre3 (by omega) (by omega)) (by omega))
      rw [hR2] at HCP
      have hNc : (N : Int) ≤ (c : Int) := by omega
      have hnM : (n : Int) = (M : Int) := by omega
      have HWW : Hid (IntKind.i64.wrap ((M : Int) - 32) = (N : Int) ∧ wrap64 (N : Int) = (N : Int)) := Lib.hid ⟨by rw [IntKind.wrap_i64]; omega, IntWalk.wrap64_in _ (by omega)⟩
      have HNM := Lib.hid (And.intro hNc hnM)
      have hcut := cutAt3
      clear hcut
      clear hS hn hG hl hN hM hpub hR2 hR hNc hnM ha hcp
      go_enter Tryz.func13, Tryz.ntmps13
      go_wp2_with fail
      refine HRW.out.mono ?_
      rintro e w1 ⟨r, oA, on, oc, rfl, hr, hp⟩
      have hdec : decide (1 ≤ a ∧ a ≤ 3) = true := decide_eq_true HA.out
      rw [hdec]
      have hrp : r.pub = (M : Int) := by rw [hr HA.out]; exact HPUB.out
      unfold setV
      obtain ⟨u, hu⟩ : ∃ u, w1.heap.size = u := ⟨_, rfl⟩
      obtain ⟨w2, hw2⟩ : ∃ w2, w1.alloc (.cells (setC r (.slice oA on oc)) 66) = w2 := ⟨_, rfl⟩
      have hru : Row w2 u 66 (setC r (.slice oA on oc)) := by rw [← hw2, ← hu]; exact Row.new _ _ _
      have HP2 : Hid (Past w w2) := Lib.hid (by rw [← hw2]; exact hp.trans' (past_alloc13 _ _))
      have c3 : w2.cell? ⟨u, 3, none⟩ = some (.int .i64 (M : Int)) := by rw [hru.cell, ← hrp]; rfl
      have HW2 := Lib.hid hw2
      have HU := Lib.hid hu
      clear hw2 hu hp hr hdec hru hrp
      go_upto_region 2 with (fail)
      rw [HW2.out]
      try rw [HU.out]
      clear HW2 HU HRW
      obtain ⟨hNc, hnM⟩ := HNM.out
      obtain ⟨hw1, hw2⟩ := HWW.out
      go_wp2_with fail
      refine (HCP.out _ HP2.out).mono ?_
      rintro e w3 ⟨rfl, hp3⟩
      have HP3 := Lib.hid (HP2.out.trans' hp3)
      obtain ⟨E, hE⟩ : ∃ E, errV R = E := ⟨_, rfl⟩
      rw [hE]
      have HE := Lib.hid hE
      clear hp3 hE
      go_wp2_with fail
      go_ret
      exact ⟨congrArg Ending.returned HE.out.symm, HP3.out⟩
    · rw [if_pos (by omega)] at hR2
      have HE0 : Hid (errV R = (Ch.flt 6 0).val) := Lib.hid (by rw [← hR2]; rfl)
      have hnM : ¬ (n : Int) = (M : Int) := by omega
      have HNM := Lib.hid hnM
      clear hS hn hG hl hN hM hpub hR2 hR hnM ha hcp h3
      go_enter Tryz.func13, Tryz.ntmps13
      go_wp2_with fail
      refine HRW.out.mono ?_
      rintro e w1 ⟨r, oA, on, oc, rfl, hr, hp⟩
      have hdec : decide (1 ≤ a ∧ a ≤ 3) = true := decide_eq_true HA.out
      rw [hdec]
      have hrp : r.pub = (M : Int) := by rw [hr HA.out]; exact HPUB.out
      unfold setV
      obtain ⟨u, hu⟩ : ∃ u, w1.heap.size = u := ⟨_, rfl⟩
      obtain ⟨w2, hw2⟩ : ∃ w2, w1.alloc (.cells (setC r (.slice oA on oc)) 66) = w2 := ⟨_, rfl⟩
      have hru : Row w2 u 66 (setC r (.slice oA on oc)) := by rw [← hw2, ← hu]; exact Row.new _ _ _
      have HP2 : Hid (Past w w2) := Lib.hid (by rw [← hw2]; exact hp.trans' (past_alloc13 _ _))
      have c3 : w2.cell? ⟨u, 3, none⟩ = some (.int .i64 (M : Int)) := by rw [hru.cell, ← hrp]; rfl
      have HW2 := Lib.hid hw2
      have HU := Lib.hid hu
      clear hw2 hu hp hr hdec hru hrp
      go_upto_region 2 with (fail)
      rw [HW2.out]
      try rw [HU.out]
      clear HW2 HU HRW
      have hnM := HNM.out
      go_wp2_with fail
      refine (new_any 6 0 w2).mono ?_
      rintro e w3 ⟨rfl, hp3⟩
      have HP3 := Lib.hid (HP2.out.trans' hp3)
      obtain ⟨E, hE⟩ : ∃ E, (Ch.flt 6 0).val = E := ⟨_, rfl⟩
      have HE2 : Hid (errV R = E) := Lib.hid (by rw [HE0.out, hE])
      rw [hE]
      clear hp3 hE
      go_wp2_with fail
      go_ret
      exact ⟨congrArg Ending.returned HE2.out.symm, HP3.out⟩
  · have HE0 : Hid (errV R = (Ch.flt 8 0).val) := Lib.hid (by
      rw [← hR]
      unfold chkPub
      rw [if_pos (show a < 1 ∨ 3 < a by omega)]
      rfl)
    have HA := Lib.hid ha
    clear hS hn hG hR ha
    go_enter Tryz.func13, Tryz.ntmps13
    go_wp2_with fail
    refine HRW.out.mono ?_
    rintro e w1 ⟨r, oA, on, oc, rfl, hr, hp⟩
    have hdec : decide (1 ≤ a ∧ a ≤ 3) = false := decide_eq_false HA.out
    rw [hdec]
    unfold setV
    obtain ⟨w2, hw2⟩ : ∃ w2, w1.alloc (.cells (setC r (.slice oA on oc)) 66) = w2 := ⟨_, rfl⟩
    have HP2 : Hid (Past w w2) := Lib.hid (by rw [← hw2]; exact hp.trans' (past_alloc13 _ _))
    have HW2 := Lib.hid hw2
    clear hw2 hp hr hdec
    go_upto_region 2 with (fail)
    rw [HW2.out]
    clear HW2 HRW
    go_wp2_with fail
    refine (new_any 8 0 w2).mono ?_
    rintro e w3 ⟨rfl, hp3⟩
    have HP3 := Lib.hid (HP2.out.trans' hp3)
    obtain ⟨E, hE⟩ : ∃ E, (Ch.flt 8 0).val = E := ⟨_, rfl⟩
    have HE2 : Hid (errV R = E) := Lib.hid (by rw [HE0.out, hE])
    rw [hE]
    clear hp3 hE
    go_wp2_with fail
    go_ret
    exact ⟨congrArg Ending.returned HE2.out.symm, HP3.out⟩
end Go.Proofs.YthbnaoifiggdnaaGreatDoor

namespace Go.Proofs.YthbnaoifiggdnaaGreatDoor
open Go.RowKit
set_option linter.unusedVariables false
set_option maxRecDepth 100000

theorem movedAt (g : Nat) (b c at_ : Int) : atVal (Ch.shf g b (.flt c at_)) = .tuple #[.int .i64 (wrap64 (at_ + wrap64 (0 + b))), .bool true] := rfl
set_option maxHeartbeats 1000000 in
theorem kmoved_any (at_ by_ : Int) (w : World) (hG : GlobE w) (h0 : 0 ≤ at_) (h1 : at_ ≤ 100000) (h2 : 0 ≤ by_) (h3 : by_ ≤ 100000) :
    Calls Tryz.prog 36 #[(Ch.flt 9 at_).val, .int .i64 by_] w fun e w' => e = .returned (Ch.flt 9 (by_ + at_)).val ∧ Past w w' := by
  have HC := Lib.hid (code_any (.flt 9 at_) w trivial hG)
  have HG := Lib.hid hG
  have hm : ∀ g, atVal (Ch.shf g by_ (.flt 9 at_)) = .tuple #[.int .i64 (by_ + at_), .bool true] := fun g => by
    have e1 : wrap64 (0 + by_) = by_ := by rw [Int.zero_add]; exact IntWalk.wrap64_in _ (by omega)
    rw [movedAt, e1, IntWalk.wrap64_in _ (by omega), Int.add_comm]
  have HM := Lib.hid hm
  obtain ⟨t, ht⟩ : ∃ t, by_ + at_ = t := ⟨_, rfl⟩
  rw [ht] at HM
  rw [ht]
  clear hG h0 h1 h2 h3 hm ht
  change Hid (Calls _ _ _ _ fun e w' => e = .returned (.tuple #[.int .i64 9, .bool true]) ∧ _) at HC
  have HSH := Lib.hid (fun w => shift_any by_ (.flt 9 at_) w trivial)
  have HAT := Lib.hid (fun g w (h : (Ch.shf g by_ (.flt 9 at_)).In w) (hG : GlobE w) => at_any (.shf g by_ (.flt 9 at_)) w h hG)
  obtain ⟨V, hV⟩ : ∃ V, (Ch.flt 9 at_).val = V := ⟨_, rfl⟩
  rw [hV] at HC HSH ⊢
  clear hV
  go_enter Tryz.func36, Tryz.ntmps36
  go_wp2_with fail
  refine HC.out.mono ?_
  rintro e w1 ⟨rfl, hp1⟩
  have HP1 := Lib.hid hp1
  clear hp1
  go_wp2_with fail
  refine (HSH.out w1).mono ?_
  rintro e w2 ⟨g, rfl, hin, hp2⟩
  have HP2 := Lib.hid (HP1.out.trans' hp2)
  have HA2 := Lib.hid (HAT.out g w2 hin (HG.out.past HP2.out))
  rw [HM.out g] at HA2
  obtain ⟨V2, hV2⟩ : ∃ V, (Ch.shf g by_ (.flt 9 at_)).val = V := ⟨_, rfl⟩
  rw [hV2] at HA2 ⊢
  clear hin hp2 hV2
  go_wp2_with fail
  refine HA2.out.mono ?_
  rintro e w3 ⟨rfl, hp3⟩
  have HP3 := Lib.hid (HP2.out.trans' hp3)
  clear hp3
  go_wp2_with fail
  refine (new_any 9 t w3).mono ?_
  rintro e w4 ⟨rfl, hp4⟩
  have HP4 := Lib.hid (HP3.out.trans' hp4)
  obtain ⟨E, hE⟩ : ∃ E, (Ch.flt 9 t).val = E := ⟨_, rfl⟩
  have HE := Lib.hid hE
  rw [hE]
  clear hp4 hE
  go_wp2_with fail
  go_ret
  exact ⟨congrArg Ending.returned HE.out.symm, HP4.out⟩
set_option maxHeartbeats 1000000 in
theorem split_any (r : R13) (oA : Option Addr) (on oc N P Q b o n c : Nat) (w : World) (hp : r.pub = ((N + 32 : Nat) : Int)) (hN : 0 < N) (hN2 : N ≤ 3000) (hP : N + (N + 32) = P) (hQ : P + 32 = Q) (hn : Q ≤ n) (hc : n ≤ c) :
    Calls Tryz.prog 34 #[setV r (.slice oA on oc), .slice (some ⟨b, o, none⟩) n c] w fun e w' =>
      e = .returned (.tuple #[.slice (some ⟨b, o, none⟩) N N, .slice (some ⟨b, o + N, none⟩) (N + 32) (N + 32), .slice (some ⟨b, o + P, none⟩) 32 32]) ∧ Past w w' := by
  obtain ⟨M, hM⟩ : ∃ M, N + 32 = M := ⟨_, rfl⟩
  rw [hM] at hp hP ⊢
  obtain ⟨u, hu⟩ : ∃ u, w.heap.size = u := ⟨_, rfl⟩
  obtain ⟨w2, hw2⟩ : ∃ w2, w.alloc (.cells (setC r (.slice oA on oc)) 66) = w2 := ⟨_, rfl⟩
  have hru : Row w2 u 66 (setC r (.slice oA on oc)) := by rw [← hw2, ← hu]; exact Row.new _ _ _
  have HP2 : Hid (Past w w2) := Lib.hid (by rw [← hw2]; exact past_alloc13 _ _)
  have c3 : w2.cell? ⟨u, 3, none⟩ = some (.int .i64 (M : Int)) := by rw [hru.cell, ← hp]; rfl
  have HC3 := Lib.hid c3
  have HW2 := Lib.hid hw2
  have HU := Lib.hid hu
  have HWW : Hid (IntKind.i64.wrap ((M : Int) - 32) = (N : Int) ∧ wrap64 (N : Int) = (N : Int) ∧ IntKind.i64.wrap ((N : Int) + (M : Int)) = (P : Int) ∧ wrap64 (P : Int) = (P : Int) ∧ IntKind.i64.wrap ((P : Int) + 32) = (Q : Int) ∧ wrap64 (Q : Int) = (Q : Int)) := Lib.hid
    ⟨by rw [IntKind.wrap_i64]; omega, IntWalk.wrap64_in _ (by omega), by rw [IntKind.wrap_i64]; omega, IntWalk.wrap64_in _ (by omega), by rw [IntKind.wrap_i64]; omega, IntWalk.wrap64_in _ (by omega)⟩
  have s1 := cutAt3 (some ⟨b, o, none⟩) n c N P M hP (by omega)
  rw [if_neg (by omega), Option.map_some, add_none] at s1
  have s2 := cutAt3 (some ⟨b, o, none⟩) n c P Q 32 hQ (by omega)
  rw [if_neg (by omega), Option.map_some, add_none] at s2
  have s3 := cut3 (some ⟨b, o, none⟩) n c N P M hP (by omega)
  rw [if_neg (by omega), Option.map_some, add_none] at s3
  have s4 := cut3 (some ⟨b, o, none⟩) n c P Q 32 hQ (by omega)
  rw [if_neg (by omega), Option.map_some, add_none] at s4
  have hb1 : (N : Int) ≤ (c : Int) := by omega
  have hb2 : ¬ N = 0 := by omega
  unfold setV
  clear hw2 hu hru hp c3 hM hN hN2 hP hQ hn hc
  go_enter Tryz.func34, Tryz.ntmps34
  go_upto_region 1 with (fail)
  rw [HW2.out]
  try rw [HU.out]
  clear HW2 HU
  have c3 := HC3.out
  obtain ⟨hw1, hw2, hw3, hw4, hw5, hw6⟩ := HWW.out
  go_upto_region 4 with (fail)
  have HB := Lib.hid (And.intro hb1 hb2)
  have HS13 := Lib.hid (And.intro s1 s3)
  have HS24 := Lib.hid (And.intro s2 s4)
  have HPD : Hid (Past w w2.drew) := Lib.hid (HP2.out.drewN 1)
  clear hw1 hw3 hw5 hw2 hw4 hw6 s1 s2 s3 s4 hb1 hb2
  refine wp_region_held_drew (S := fun _ => True) (by kernel_rfl) trivial (fun hH => ?_)
  refine held_take 0 19 (v := .slice (some ⟨b, o, none⟩) n c) rfl rfl (by kernel_rfl) (by kernel_rfl) (by kernel_rfl) (fun _ _ _ h => h) (Or.inl ⟨by kernel_rfl, fun w _ => by kernel_rfl⟩) hH ?_
  (try simp only [List.setIfInBounds_toArray, List.set_cons_zero, List.set_cons_succ])
  refine held_take 1 20 (v := .int .i64 (N : Int)) rfl rfl (by kernel_rfl) (by kernel_rfl) (by kernel_rfl) (fun _ _ _ h => h) (Or.inl ⟨by kernel_rfl, fun w _ => by kernel_rfl⟩) hH ?_
  (try simp only [List.setIfInBounds_toArray, List.set_cons_zero, List.set_cons_succ])
  refine held_take 2 21 (v := .int .i64 (N : Int)) rfl rfl (by kernel_rfl) (by kernel_rfl) (by kernel_rfl) (fun _ _ _ h => h) (Or.inl ⟨by kernel_rfl, fun w _ => by kernel_rfl⟩) hH ?_
  (try simp only [List.setIfInBounds_toArray, List.set_cons_zero, List.set_cons_succ])
  refine held_take 3 22 (v := .slice (some ⟨b, o, none⟩) N N) rfl rfl (by kernel_rfl) (by kernel_rfl) (by kernel_rfl) (fun _ _ _ h => h) (Or.inl ⟨by kernel_rfl, fun w _ => by have h1 := HB.out.1; have h2 := HB.out.2; go_simp⟩) hH ?_
  (try simp only [List.setIfInBounds_toArray, List.set_cons_zero, List.set_cons_succ])
  refine held_take 4 23 (v := .slice (some ⟨b, o, none⟩) n c) rfl rfl (by kernel_rfl) (by kernel_rfl) (by kernel_rfl) (fun _ _ _ h => h) (Or.inl ⟨by kernel_rfl, fun w _ => by kernel_rfl⟩) hH ?_
  (try simp only [List.setIfInBounds_toArray, List.set_cons_zero, List.set_cons_succ])
  refine held_take 5 24 (v := .int .i64 (N : Int)) rfl rfl (by kernel_rfl) (by kernel_rfl) (by kernel_rfl) (fun _ _ _ h => h) (Or.inl ⟨by kernel_rfl, fun w _ => by kernel_rfl⟩) hH ?_
  (try simp only [List.setIfInBounds_toArray, List.set_cons_zero, List.set_cons_succ])
  refine held_take 6 25 (v := .int .i64 (P : Int)) rfl rfl (by kernel_rfl) (by kernel_rfl) (by kernel_rfl) (fun _ _ _ h => h) (Or.inl ⟨by kernel_rfl, fun w _ => by kernel_rfl⟩) hH ?_
  (try simp only [List.setIfInBounds_toArray, List.set_cons_zero, List.set_cons_succ])
  refine held_take 7 26 (v := .int .i64 (P : Int)) rfl rfl (by kernel_rfl) (by kernel_rfl) (by kernel_rfl) (fun _ _ _ h => h) (Or.inl ⟨by kernel_rfl, fun w _ => by kernel_rfl⟩) hH ?_
  (try simp only [List.setIfInBounds_toArray, List.set_cons_zero, List.set_cons_succ])
  refine held_take 8 27 (v := .slice (some ⟨b, o + N, none⟩) M M) rfl rfl (by kernel_rfl) (by kernel_rfl) (by kernel_rfl) (fun _ _ _ h => h) (Or.inl ⟨by kernel_rfl, fun w _ => by have h1 := HS13.out.1; have h2 := HS13.out.2; go_simp⟩) hH ?_
  (try simp only [List.setIfInBounds_toArray, List.set_cons_zero, List.set_cons_succ])
  refine held_take 9 28 (v := .slice (some ⟨b, o, none⟩) n c) rfl rfl (by kernel_rfl) (by kernel_rfl) (by kernel_rfl) (fun _ _ _ h => h) (Or.inl ⟨by kernel_rfl, fun w _ => by kernel_rfl⟩) hH ?_
  (try simp only [List.setIfInBounds_toArray, List.set_cons_zero, List.set_cons_succ])
  refine held_take 10 29 (v := .int .i64 (P : Int)) rfl rfl (by kernel_rfl) (by kernel_rfl) (by kernel_rfl) (fun _ _ _ h => h) (Or.inl ⟨by kernel_rfl, fun w _ => by kernel_rfl⟩) hH ?_
  (try simp only [List.setIfInBounds_toArray, List.set_cons_zero, List.set_cons_succ])
  refine held_take 11 30 (v := .int .i64 (Q : Int)) rfl rfl (by kernel_rfl) (by kernel_rfl) (by kernel_rfl) (fun _ _ _ h => h) (Or.inl ⟨by kernel_rfl, fun w _ => by kernel_rfl⟩) hH ?_
  (try simp only [List.setIfInBounds_toArray, List.set_cons_zero, List.set_cons_succ])
  refine held_take 12 31 (v := .int .i64 (Q : Int)) rfl rfl (by kernel_rfl) (by kernel_rfl) (by kernel_rfl) (fun _ _ _ h => h) (Or.inl ⟨by kernel_rfl, fun w _ => by kernel_rfl⟩) hH ?_
  (try simp only [List.setIfInBounds_toArray, List.set_cons_zero, List.set_cons_succ])
  refine held_take 13 32 (v := .slice (some ⟨b, o + P, none⟩) 32 32) rfl rfl (by kernel_rfl) (by kernel_rfl) (by kernel_rfl) (fun _ _ _ h => h) (Or.inl ⟨by kernel_rfl, fun w _ => by have h1 := HS24.out.1; have h2 := HS24.out.2; go_simp⟩) hH ?_
  (try simp only [List.setIfInBounds_toArray, List.set_cons_zero, List.set_cons_succ])
  refine held_take 14 4 (v := .slice (some ⟨b, o, none⟩) N N) rfl rfl (by kernel_rfl) (by kernel_rfl) (by kernel_rfl) (fun _ _ _ h => h) (Or.inl ⟨by kernel_rfl, fun w _ => by kernel_rfl⟩) hH ?_
  (try simp only [List.setIfInBounds_toArray, List.set_cons_zero, List.set_cons_succ])
  refine held_take 15 5 (v := .slice (some ⟨b, o + N, none⟩) M M) rfl rfl (by kernel_rfl) (by kernel_rfl) (by kernel_rfl) (fun _ _ _ h => h) (Or.inl ⟨by kernel_rfl, fun w _ => by kernel_rfl⟩) hH ?_
  (try simp only [List.setIfInBounds_toArray, List.set_cons_zero, List.set_cons_succ])
  refine held_take 16 6 (v := .slice (some ⟨b, o + P, none⟩) 32 32) rfl rfl (by kernel_rfl) (by kernel_rfl) (by kernel_rfl) (fun _ _ _ h => h) (Or.inl ⟨by kernel_rfl, fun w _ => by kernel_rfl⟩) hH ?_
  (try simp only [List.setIfInBounds_toArray, List.set_cons_zero, List.set_cons_succ])
  refine wpAnyH_done (by kernel_rfl) ?_ _
  go_simp
  go_wp2_with fail
  go_ret3
  exact ⟨rfl, HPD.out⟩
end Go.Proofs.YthbnaoifiggdnaaGreatDoor
