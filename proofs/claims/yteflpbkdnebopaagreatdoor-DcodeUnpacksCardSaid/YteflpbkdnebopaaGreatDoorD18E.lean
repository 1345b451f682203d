/- The program's checkSize and CheckPublic; the closures that hand the sizes out. -/
import Derived.Test.YteflpbkdnebopaaGreatDoorD18D
namespace Go.Proofs.YteflpbkdnebopaaGreatDoor
open Go.RowKit
set_option linter.unusedVariables false
set_option maxRecDepth 100000

theorem fam2_all : ∀ k : Fin 25, ((row13 ((k.val : Int) + 1)).fam = 2 ↔ 3 ≤ k.val ∧ k.val < 6) := by decide +kernel
theorem fam2_iff {a : Int} (h : 1 ≤ a ∧ a ≤ 25) : ((row13 a).fam = 2) = (4 ≤ a ∧ a ≤ 6) := by
  have := fam2_all ⟨(a - 1).toNat, by omega⟩
  simp only at this
  rw [show (((a - 1).toNat : Nat) : Int) + 1 = a by omega] at this
  rw [this]
  exact propext ⟨fun _ => by omega, fun _ => by omega⟩
theorem dsa_sizes {a : Int} (h : a = 4 ∨ a = 5 ∨ a = 6) : (row13 a).pub = 32 + 320 * (kD a : Int) ∧ (row13 a).priv = (sD a : Int) := by
  rcases h with rfl | rfl | rfl <;> decide +kernel
theorem get_res {a : Int} {w : World} {e : Ending} {w' : World} (h : GetP a w e w') :
    ∃ (r : R13) (A : Option Addr) (n c : Nat) (ok : Bool), e = .returned (.tuple #[setV r (.slice A n c), .bool ok]) ∧ (ok && decide (r.fam = 2)) = decide (4 ≤ a ∧ a ≤ 6) ∧ (4 ≤ a ∧ a ≤ 6 → r = row13 a) ∧ Past w w' := by
  unfold GetP at h
  by_cases h25 : 1 ≤ a ∧ a ≤ 25
  · rw [if_pos h25] at h
    obtain ⟨⟨A, c, h1, _⟩, h2⟩ := h
    exact ⟨_, A, _, c, true, h1, by rw [Bool.true_and]; exact decide_eq_decide.2 (by rw [fam2_iff h25]), fun _ => rfl, h2⟩
  · rw [if_neg h25] at h
    exact ⟨_, none, 0, 0, false, h.1, by rw [Bool.false_and]; exact (decide_eq_false (by omega)).symm, fun h3 => absurd h3 (by omega), h.2⟩
theorem pubOf_any (r : R13) (v : Value) (w : World) : Calls Tryz.prog 32 #[setV r v] w fun e w' => e = .returned (.int .i64 r.pub) ∧ Past w w' := by
  obtain ⟨g, hg⟩ : ∃ g, w.heap.size = g := ⟨_, rfl⟩
  obtain ⟨w1, hw1⟩ : ∃ W, w.alloc (.cells (setC r v) 81) = W := ⟨_, rfl⟩
  have HP1 : Hid (Past w w1) := Lib.hid (by rw [← hw1]; exact past_alloc13 _ _)
  have hr1 : Row w1 g 81 (setC r v) := by rw [← hw1, ← hg]; exact Row.new _ _ _
  have k3 : w1.cell? ⟨g, 3, none⟩ = some (.int .i64 r.pub) := by rw [hr1.cell]; rfl
  have HW1 := Lib.hid hw1
  unfold setV
  clear hw1 hr1
  generalize r.pub = z at *
  generalize setC r v = cs at *
  go_enter Tryz.func32, Tryz.ntmps32
  go_upto_region 1 with (fail)
  rw [HW1.out]
  try rw [hg]
  clear HW1 hg
  go_wp2_with fail
  go_ret
  exact ⟨rfl, HP1.out⟩
theorem privOf_any (r : R13) (v : Value) (w : World) : Calls Tryz.prog 33 #[setV r v] w fun e w' => e = .returned (.int .i64 r.priv) ∧ Past w w' := by
  obtain ⟨g, hg⟩ : ∃ g, w.heap.size = g := ⟨_, rfl⟩
  obtain ⟨w1, hw1⟩ : ∃ W, w.alloc (.cells (setC r v) 81) = W := ⟨_, rfl⟩
  have HP1 : Hid (Past w w1) := Lib.hid (by rw [← hw1]; exact past_alloc13 _ _)
  have hr1 : Row w1 g 81 (setC r v) := by rw [← hw1, ← hg]; exact Row.new _ _ _
  have k3 : w1.cell? ⟨g, 4, none⟩ = some (.int .i64 r.priv) := by rw [hr1.cell]; rfl
  have HW1 := Lib.hid hw1
  unfold setV
  clear hw1 hr1
  generalize r.priv = z at *
  generalize setC r v = cs at *
  go_enter Tryz.func33, Tryz.ntmps33
  go_upto_region 1 with (fail)
  rw [HW1.out]
  try rw [hg]
  clear HW1 hg
  go_wp2_with fail
  go_ret
  exact ⟨rfl, HP1.out⟩
/-- The error of a size. -/
def szE (a : Int) (n m : Int) : Int × Int := if a < 4 ∨ 6 < a then (8, 0) else if n ≠ m then (6, 0) else (0, 0)
set_option maxHeartbeats 4000000 in
theorem checkSize_any (a : Int) (A : Option Addr) (n c : Nat) (hn : n ≤ 10000) (fn : FuncId) (pick : R13 → Int) (hent : ∀ args w, (callFunc fn args).run Tryz.prog w = .ok (.enter fn args) w)
    (hfn : ∀ r v w, Calls Tryz.prog fn #[setV r v] w fun e w' => e = .returned (.int .i64 (pick r)) ∧ Past w w') (w : World) (hG : Glob13 w) :
    Calls Tryz.prog 31 #[.int .i64 a, .slice A n c, .func (.func fn) #[] #[]] w fun e w' => e = .returned (errV (szE a n (pick (row13 a)))) ∧ Past w w' := by
  have HGE := Lib.hid (get_any a w hG)
  have HF := Lib.hid hfn
  obtain ⟨R, hR⟩ : ∃ R, szE a n (pick (row13 a)) = R := ⟨_, rfl⟩
  rw [hR]
  have HRR := Lib.hid hR
  clear hG hfn hR
  go_enter Tryz.func31, Tryz.ntmps31
  go_wp2_with fail
  refine HGE.out.mono ?_
  intro e w1 h
  obtain ⟨r, oA, on, oc, ok, rfl, hok, hrow, hp⟩ := get_res h
  unfold setV
  obtain ⟨u, hu⟩ : ∃ u, w1.heap.size = u := ⟨_, rfl⟩
  obtain ⟨w2, hw2⟩ : ∃ w2, w1.alloc (.cells (setC r (.slice oA on oc)) 81) = w2 := ⟨_, rfl⟩
  have hru : Row w2 u 81 (setC r (.slice oA on oc)) := by rw [← hw2, ← hu]; exact Row.new _ _ _
  have HP2 : Hid (Past w w2) := Lib.hid (by rw [← hw2]; exact hp.trans' (past_alloc13 _ _))
  have c1 : w2.cell? ⟨u, 1, none⟩ = some (.int .i64 r.fam) := by rw [hru.cell]; rfl
  have HRU := Lib.hid hru
  have HW2 := Lib.hid hw2
  have HU := Lib.hid hu
  have HOK := Lib.hid hok
  have HRW := Lib.hid hrow
  clear hw2 hu hp hru hok hrow h HGE
  go_upto_region 2 with (fail)
  rw [HW2.out]
  try rw [HU.out]
  clear HW2 HU
  by_cases ha : 4 ≤ a ∧ a ≤ 6
  · have hok := HOK.out
    rw [decide_eq_true ha, Bool.and_eq_true] at hok
    have hok1 : ok = true := hok.1
    have hfam : r.fam = 2 := of_decide_eq_true hok.2
    subst hok1
    rw [hfam] at c1
    have HE : Hid (R = if (n : Int) ≠ pick r then (6, 0) else (0, 0)) := Lib.hid (by rw [← HRR.out]; unfold szE; rw [if_neg (show ¬ (a < 4 ∨ 6 < a) by omega), HRW.out ha])
    have hru := HRU.out
    have HFR := Lib.hid (HF.out r (.slice oA on oc) w2)
    unfold setV at HFR
    obtain ⟨z, hz⟩ : ∃ z, pick r = z := ⟨_, rfl⟩
    rw [hz] at HE HFR
    have hif := resS (setC r (.slice oA on oc)) (by rfl)
    clear hok hfam HOK HRW ha hz HF HRU
    generalize setC r (.slice oA on oc) = cs at *
    go_wp2_with (refine wpList_load_row rfl 81 _ rfl u rfl _ _ (0, 0) _ hru Tryz.underlying81 rfl hif ?_)
    refine HFR.out.mono ?_
    rintro e w3 ⟨rfl, hp3⟩
    have HP3 := Lib.hid (HP2.out.trans' hp3)
    clear hp3
    by_cases hnz : (n : Int) = z
    · have HE2 : Hid (R = (0, 0)) := Lib.hid (by rw [HE.out, if_neg (by omega)])
      clear HE
      go_wp2_with fail
      go_ret
      exact ⟨by rw [HE2.out]; rfl, HP3.out⟩
    · have HE2 : Hid (R = (6, 0)) := Lib.hid (by rw [HE.out, if_pos hnz])
      clear HE
      go_wp2_with fail
      refine (new_any 6 0 w3).mono ?_
      rintro e w4 ⟨rfl, hp4⟩
      have HP4 := Lib.hid (HP3.out.trans' hp4)
      obtain ⟨E, hE⟩ : ∃ E, (Ch.flt 6 0).val = E := ⟨_, rfl⟩
      have HE3 : Hid (errV R = E) := Lib.hid (by rw [HE2.out]; exact hE)
      rw [hE]
      clear hp4 hE
      go_wp2_with fail
      go_ret
      exact ⟨congrArg Ending.returned HE3.out.symm, HP4.out⟩
  · have hok := HOK.out
    rw [decide_eq_false ha] at hok
    have HE2 : Hid (R = (8, 0)) := Lib.hid (by rw [← HRR.out]; unfold szE; rw [if_pos (by omega)])
    clear HOK HRW ha HF HRU
    cases ok with
    | false =>
      clear hok
      go_wp2_with fail
      refine (new_any 8 0 w2).mono ?_
      rintro e w4 ⟨rfl, hp4⟩
      have HP4 := Lib.hid (HP2.out.trans' hp4)
      obtain ⟨E, hE⟩ : ∃ E, (Ch.flt 8 0).val = E := ⟨_, rfl⟩
      have HE3 : Hid (errV R = E) := Lib.hid (by rw [HE2.out]; exact hE)
      rw [hE]
      clear hp4 hE
      go_wp2_with fail
      go_ret
      exact ⟨congrArg Ending.returned HE3.out.symm, HP4.out⟩
    | true =>
      have hfam : ¬ r.fam = 2 := by
        rw [Bool.true_and] at hok
        exact of_decide_eq_false hok
      have hfb : (r.fam != 2) = true := by simpa using hfam
      clear hok
      generalize r.fam = fm at *
      go_wp2_with fail
      refine (new_any 8 0 w2).mono ?_
      rintro e w4 ⟨rfl, hp4⟩
      have HP4 := Lib.hid (HP2.out.trans' hp4)
      obtain ⟨E, hE⟩ : ∃ E, (Ch.flt 8 0).val = E := ⟨_, rfl⟩
      have HE3 : Hid (errV R = E) := Lib.hid (by rw [HE2.out]; exact hE)
      rw [hE]
      clear hp4 hE
      go_wp2_with fail
      go_ret
      exact ⟨congrArg Ending.returned HE3.out.symm, HP4.out⟩
theorem pcheckPublic_any (a : Int) (A : Option Addr) (n c : Nat) (hn : n ≤ 10000) (w : World) (hG : Glob13 w) :
    Calls Tryz.prog 14 #[.int .i64 a, .slice A n c] w fun e w' => e = .returned (errV (chkQ a (n : Int))) ∧ Past w w' := by
  have HC := Lib.hid (checkSize_any a A n c hn 32 (fun r => r.pub) (enters_of Tryz.func32 (by kernel_rfl) rfl) (fun r v w => pubOf_any r v w) w hG)
  have HE : Hid (errV (szE a n ((fun r : R13 => r.pub) (row13 a))) = errV (chkQ a (n : Int))) := Lib.hid (by
    congr 1
    unfold szE chkQ
    by_cases h : a < 4 ∨ 6 < a
    · rw [if_pos h, if_pos h]
    · rw [if_neg h, if_neg h]
      simp only [(dsa_sizes (in46 h)).1])
  rw [HE.out] at HC
  clear hG HE
  generalize errV (chkQ a (n : Int)) = R at *
  go_enter Tryz.func14, Tryz.ntmps14
  go_wp2_with fail
  refine HC.out.mono ?_
  rintro e w1 ⟨rfl, hp1⟩
  have HP1 := Lib.hid hp1
  clear hp1
  go_wp2_with fail
  go_ret
  exact ⟨rfl, HP1.out⟩
end Go.Proofs.YteflpbkdnebopaaGreatDoor
