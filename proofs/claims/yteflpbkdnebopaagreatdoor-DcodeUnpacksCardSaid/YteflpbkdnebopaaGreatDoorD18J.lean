/- The program's CheckPrivate. -/
import Derived.Test.YteflpbkdnebopaaGreatDoorD18I
namespace Go.Proofs.YteflpbkdnebopaaGreatDoor
open Go.RowKit
set_option linter.unusedVariables false
set_option maxRecDepth 100000

theorem SplR.err {a : Int} {xs : List Int} {w : World} {e : Ending} {w' : World} (h : SplR a xs w e w') : Past w w' ∧ ∃ v0 v1 v2 v3 v4 v5 : Value, (v0.oneCell' = true ∧ v1.oneCell' = true ∧ v2.oneCell' = true ∧ v3.oneCell' = true ∧ v4.oneCell' = true ∧ v5.oneCell' = true) ∧ e = .returned (.tuple #[.agg #[v0, v1, v2, v3, v4, v5], errV (chkD a xs)]) := by
  refine ⟨h.1, ?_⟩
  rcases h.2 with ⟨_, he⟩ | ⟨h0, g1, d1, g2, d2, g3, d3, p1, p2, p3, c1, c2, c3, he, _⟩
  · exact ⟨nilS, nilS, nilS, nilS, nilS, nilS, ⟨rfl, rfl, rfl, rfl, rfl, rfl⟩, he⟩
  · rw [h0]
    exact ⟨_, _, _, _, _, _, ⟨rfl, rfl, rfl, rfl, rfl, rfl⟩, he⟩
set_option maxHeartbeats 1000000 in
theorem pcheckPrivate_any (a : Int) (A : Option Addr) (n c : Nat) (xs : List Int) (w : World) (hS : Sl w A n c xs) (hn : n ≤ 10000) (hG : Glob13 w) :
    Calls Tryz.prog 12 #[.int .i64 a, .slice A n c] w fun e w' => e = .returned (errV (chkD a xs)) ∧ Past w w' := by
  have HSP := Lib.hid (psplit_any a A n c xs w hS hn hG)
  obtain ⟨E, hE⟩ : ∃ E, errV (chkD a xs) = E := ⟨_, rfl⟩
  rw [hE]
  have HE := Lib.hid hE
  clear hS hn hG hE
  go_enter Tryz.func12, Tryz.ntmps12
  go_wp2_with fail
  refine HSP.out.mono ?_
  intro e w1 h
  obtain ⟨hp, v0, v1, v2, v3, v4, v5, ⟨o0, o1, o2, o3, o4, o5⟩, rfl⟩ := h.err
  rw [HE.out]
  have HP1 := Lib.hid hp
  obtain ⟨u, hu⟩ : ∃ u, w1.heap.size = u := ⟨_, rfl⟩
  have hrz : Row (w1.alloc (.cells privZ 42)) u 42 privZ := by rw [← hu]; exact Row.new _ _ _
  have hi2 := infV #[v0, v1, v2, v3, v4, v5] rfl
  have ho2 : (#[v0, v1, v2, v3, v4, v5] : Array Value).all (·.oneCell') = true := by simp [o0, o1, o2, o3, o4, o5]
  have HP2 : Hid (Past w ((w1.alloc (.cells privZ 42)).setRow u #[v0, v1, v2, v3, v4, v5])) := Lib.hid (below_setRow (HP1.out.alloc HP1.out.size _) (by rw [← hu]; exact HP1.out.size) _)
  clear hp h HSP
  go_wp2_with (first | (refine wpList_store_row rfl 42 _ _ rfl u #[v0, v1, v2, v3, v4, v5] rfl rfl _ _ hrz hi2 rfl ho2 ?_) | fail)
  go_ret
  exact ⟨rfl, HP2.out⟩
end Go.Proofs.YteflpbkdnebopaaGreatDoor
