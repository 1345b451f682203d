/- rank, Cost. -/
import Derived.Test.YtalhdalmafhofaaGreatDoorNo16B
import Derived.Test.YtalhdalmafhofaaGreatDoorPm13G
import Derived.Deep.RegionHeld
namespace Go.Proofs.YtalhdalmafhofaaGreatDoor
open Go.RowKit
set_option linter.unusedVariables false
set_option maxRecDepth 100000

def rkF (a : Int) : Int := if 1 ≤ a ∧ a ≤ 3 then a + 1 else 0
theorem fam_all : ∀ k : Fin 25, ((row13 ((k.val : Int) + 1)).fam = 1 ↔ k.val < 3) := by decide +kernel
theorem fam_iff {a : Int} (h : 1 ≤ a ∧ a ≤ 25) : ((row13 a).fam = 1) = (1 ≤ a ∧ a ≤ 3) := by
  have := fam_all ⟨(a - 1).toNat, by omega⟩
  simp only at this
  rw [show (((a - 1).toNat : Nat) : Int) + 1 = a by omega] at this
  rw [this]
  exact propext ⟨fun _ => by omega, fun _ => by omega⟩
set_option maxHeartbeats 2000000 in
theorem rank_any (a : Int) (w : World) (hG : Glob13 w) : Calls Tryz.prog 20 #[.int .i64 a] w fun r w' => r = .returned (.int .i64 (rkF a)) ∧ Past w w' := by
  have HGE := Lib.hid (get_any a w hG)
  clear hG
  have HRES : ∀ e w', GetP a w e w' → ∃ (r : R13) (A : Option Addr) (n c : Nat) (ok : Bool), e = .returned (.tuple #[setV r (.slice A n c), .bool ok]) ∧ (r.fam = 1 ↔ (1 ≤ a ∧ a ≤ 3)) ∧ Past w w' := by
    intro e w' h
    unfold GetP at h
    by_cases h25 : 1 ≤ a ∧ a ≤ 25
    · rw [if_pos h25] at h
      obtain ⟨⟨A, c, h1, _⟩, h2⟩ := h
      exact ⟨_, A, _, c, true, h1, by rw [fam_iff h25], h2⟩
    · rw [if_neg h25] at h
      exact ⟨_, none, 0, 0, false, h.1, ⟨fun h3 => absurd h3 (by decide), fun h3 => absurd h3 (by omega)⟩, h.2⟩
  have HRS := Lib.hid HRES
  clear HRES
  go_enter Tryz.func20, Tryz.ntmps20
  go_wp2_with fail
  refine (HGE.out).mono ?_
  intro e w2 h
  obtain ⟨r, A, n, c, ok, rfl, hfam, hp⟩ := HRS.out _ _ h
  unfold setV
  obtain ⟨u, hu⟩ : ∃ u, w2.heap.size = u := ⟨_, rfl⟩
  obtain ⟨w3, hw3⟩ : ∃ w3, w2.alloc (.cells (setC r (.slice A n c)) 75) = w3 := ⟨_, rfl⟩
  have hp3 : Past w2 w3 := by rw [← hw3]; exact past_alloc13 _ _
  have hru : Row w3 u 75 (setC r (.slice A n c)) := by rw [← hw3, ← hu]; exact Row.new _ _ _
  have c1 : w3.cell? ⟨u, 1, none⟩ = some (.int .i64 r.fam) := by rw [hru.cell]; rfl
  have HP3 := Lib.hid (hp.trans' hp3)
  have HW3 := Lib.hid hw3
  have HU := Lib.hid hu
  have HF := Lib.hid hfam
  clear hp hp3 hw3 HGE hru hu h HRS hfam
  go_upto_region 2 with (fail)
  rw [HW3.out]
  try rw [HU.out]
  clear HW3 HU
  by_cases hf : r.fam = 1
  · have ha := HF.out.1 hf
    have hR : Hid (rkF a = a + 1) := Lib.hid (if_pos ha)
    have hw : IntKind.i64.wrap (a + 1) = a + 1 := by rw [IntKind.wrap_i64]; omega
    rw [hf] at c1
    go_wp2_with fail
    go_ret
    exact ⟨congrArg (fun x => Ending.returned (.int .i64 x)) hR.out.symm, HP3.out⟩
  · have hR : Hid (rkF a = 0) := Lib.hid (if_neg (fun h => hf (HF.out.2 h)))
    have hf2 : (r.fam == 1) = false := by simpa using hf
    go_wp2_with fail
    go_ret
    exact ⟨congrArg (fun x => Ending.returned (.int .i64 x)) hR.out.symm, HP3.out⟩
def costF (a : Int) : Int := if 1 ≤ a ∧ a ≤ 3 then (a + 1) * (a + 1) + 2 * (a + 1) + 3 else 0
set_option maxHeartbeats 2000000 in
theorem cost_any (a : Int) (w : World) (hG : Glob13 w) : Calls Tryz.prog 10 #[.int .i64 a] w fun r w' => r = .returned (.int .i64 (costF a)) ∧ Past w w' := by
  have HR := Lib.hid (rank_any a w hG)
  clear hG
  go_enter Tryz.func10, Tryz.ntmps10
  go_wp2_with fail
  refine HR.out.mono ?_
  rintro e w2 ⟨rfl, hp⟩
  have HP := Lib.hid hp
  clear hp HR
  by_cases h : 1 ≤ a ∧ a ≤ 3
  · have hk : rkF a = a + 1 := if_pos h
    have hC : Hid (costF a = (a + 1) * (a + 1) + 2 * (a + 1) + 3) := Lib.hid (if_pos h)
    rw [hk]
    obtain ⟨k, hk2⟩ : ∃ k, a + 1 = k := ⟨_, rfl⟩
    rw [hk2] at hC ⊢
    have h3 : k = 2 ∨ k = 3 ∨ k = 4 := by omega
    clear h hk hk2
    rcases h3 with rfl | rfl | rfl
    · go_wp2_with fail
      go_ret
      exact ⟨congrArg (fun x => Ending.returned (.int .i64 x)) hC.out.symm, HP.out⟩
    · go_wp2_with fail
      go_ret
      exact ⟨congrArg (fun x => Ending.returned (.int .i64 x)) hC.out.symm, HP.out⟩
    · go_wp2_with fail
      go_ret
      exact ⟨congrArg (fun x => Ending.returned (.int .i64 x)) hC.out.symm, HP.out⟩
  · have hk : rkF a = 0 := if_neg h
    have hC : Hid (costF a = 0) := Lib.hid (if_neg h)
    rw [hk]
    clear h hk
    go_wp2_with fail
    go_ret
    exact ⟨congrArg (fun x => Ending.returned (.int .i64 x)) hC.out.symm, HP.out⟩
end Go.Proofs.YtalhdalmafhofaaGreatDoor
