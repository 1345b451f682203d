/- The reference's Get. -/
import Derived.Test.YtnjoccmjembppaaDoorRf13A
import Derived.Test.YtnjoccmjembppaaDoorRf13B
import Derived.Deep.MidRow
namespace Go.Proofs.YtnjoccmjembppaaDoor
open Go.RowKit
set_option linter.unusedVariables false

theorem refT_at (k : Nat) (hk : k < 25) : (refT.drop (k * 10)).take 10 = refC (row13 ((k : Int) + 1)) := by
  rcases k with _ | _ | _ | _ | _ | _ | _ | _ | _ | _ | _ | _ | _ | _ | _ | _ | _ | _ | _ | _ | _ | _ | _ | _ | _ | k
  all_goals first | omega | kernel_rfl
theorem refT_cell (k j : Nat) (hk : k < 25) (v : Value) (h : (refC (row13 ((k : Int) + 1)))[j]? = some v) : refT[k * 10 + j]? = some v := by
  have hj : j < 10 := by
    rcases Nat.lt_or_ge j 10 with h2 | h2
    · exact h2
    · rw [List.getElem?_eq_none (show (refC (row13 ((k : Int) + 1))).length ≤ j from h2)] at h
      cases h
  rw [← refT_at k hk, List.getElem?_take_of_lt hj, List.getElem?_drop] at h
  exact h
theorem resR (cs : Array Value) (h : cs.size = 10) : (Tryd.prog.info? 31).map (·.size) = some cs.size := by rw [h]; kernel_rfl
abbrev zeroR : Array Value := #[.int .i64 0, .int .i64 0, .string ⟨#[]⟩, .int .i64 0, .int .i64 0, .int .i64 0, .int .i64 0, .string ⟨#[]⟩, .int .i64 0, .int .u32 0]
set_option maxHeartbeats 4000000 in
set_option maxRecDepth 100000 in
theorem rget_in (k : Nat) (hk : k < 25) (w : World) : Calls Tryd.prog 11 #[.int .i64 ((k : Int) + 1)] w fun e w' => e = .returned (.agg (refA (row13 ((k : Int) + 1)))) ∧ Past w w' := by
  obtain ⟨w1, hw1⟩ : ∃ w1, w1 = w.alloc (.cells zeroR 31) := ⟨_, rfl⟩
  obtain ⟨g, hg⟩ : ∃ g, w.heap.size = g := ⟨_, rfl⟩
  have hp1 : Past w w1 := by rw [hw1]; exact past_alloc13 _ _
  have hr1 : Row w1 g 31 zeroR := by rw [hw1, ← hg]; exact Row.new _ _ _
  have H1 : Hid (Past w w1 ∧ Row w1 g 31 zeroR ∧ w.heap.size = g) := Lib.hid ⟨hp1, hr1, hg⟩
  have HW1 := Lib.hid hw1
  have HK := Lib.hid hk
  obtain ⟨r, hr⟩ : ∃ r, row13 ((k : Int) + 1) = r := ⟨_, rfl⟩
  have HC : Hid (∀ j v, (refC r)[j]? = some v → refT[k * 10 + j]? = some v) := Lib.hid (fun j v h => refT_cell k j hk v (by rw [hr]; exact h))
  have h1 : (1 : Int) ≤ (k : Int) + 1 := by omega
  have h2 : (k : Int) + 1 ≤ 25 := by omega
  have h3 : ¬ (25 : Int) < (k : Int) + 1 := by omega
  have h4 : ¬ (k : Int) + 1 < 1 := by omega
  have h5 : IntKind.i64.wrap ((k : Int) + 1 - 1) = (k : Int) := by rw [IntKind.wrap_i64]; omega
  have hTB := Lib.hid (table_any w1)
  rw [hr]
  clear hw1 hp1 hr1 hr
  obtain ⟨a, ha⟩ : ∃ a : Int, (k : Int) + 1 = a := ⟨_, rfl⟩
  rw [ha] at h1 h2 h3 h4 h5 ⊢
  clear ha
  go_enter Tryd.func11, Tryd.ntmps11
  go_upto_region 1 with (fail)
  rw [← HW1.out]
  try rw [hg]
  clear HW1 hg
  go_wp2_with fail
  refine (hTB.out).mono ?_
  rintro e w2 ⟨rfl, hcl, hp⟩
  obtain ⟨u, hu⟩ : ∃ u, w1.heap.size = u := ⟨_, rfl⟩
  rw [hu] at hcl ⊢
  have hrg : w2.rangeAt u (k * 10) (refC r) := fun j v hj => by
    have hj10 : j < 10 := by
      rcases Nat.lt_or_ge j 10 with h | h
      · exact h
      · rw [List.getElem?_eq_none (show (refC r).length ≤ j from h)] at hj
        cases hj
    rw [hcl _ (by have := HK.out; omega)]
    exact HC.out j v hj
  have hrow := H1.out.2.1.past hp
  have H2 : Hid (Past w w2 ∧ w.heap.size = g) := Lib.hid ⟨H1.out.1.trans' hp, H1.out.2.2⟩
  clear hcl hp H1 hTB hu
  go_wp2_with (first
    | (refine wpList_load_mid rfl 31 _ rfl u (k * 10) rfl (refC r) _ hrg Tryd.underlying31 rfl (by kernel_rfl) ?_)
    | (refine wpList_store_row rfl 31 _ _ rfl g _ rfl rfl _ _ hrow (resR _ (by rfl)) rfl (by simp [Value.oneCell', refC]) ?_))
  refine bodyPost_ret (results_cell_row rfl _ _ _ _ _ _ _ rfl (setRow_heap _ g _ _ _ _ hrow) Tryd.underlying31 rfl (resR _ (by rfl))) (by rfl) ?_
  exact ⟨rfl, past_row13 H2.out.1 (by rw [H2.out.2]; exact Nat.le_refl _) _⟩
set_option maxHeartbeats 4000000 in
set_option maxRecDepth 100000 in
theorem rget_out (a : Int) (w : World) (h : ¬ (1 ≤ a ∧ a ≤ 25)) : Calls Tryd.prog 11 #[.int .i64 a] w fun e w' => e = .returned (.agg (refA (row13 a))) ∧ Past w w' := by
  have HRO := Lib.hid (row13_out h)
  obtain ⟨w1, hw1⟩ : ∃ w1, w1 = w.alloc (.cells zeroR 31) := ⟨_, rfl⟩
  obtain ⟨g, hg⟩ : ∃ g, w.heap.size = g := ⟨_, rfl⟩
  have hp1 : Past w w1 := by rw [hw1]; exact past_alloc13 _ _
  have hr1 : Row w1 g 31 zeroR := by rw [hw1, ← hg]; exact Row.new _ _ _
  have H1 : Hid (Past w w1 ∧ w.heap.size = g) := Lib.hid ⟨hp1, hg⟩
  have HW1 := Lib.hid hw1
  rcases (show a < 1 ∨ 25 < a by omega) with h | h
  case' inl =>
    have h1 : ¬ (25 : Int) < a := by omega
  case' inr =>
    have h1 : ¬ a < (1 : Int) := by omega
  all_goals
    clear hw1 hp1
    go_enter Tryd.func11, Tryd.ntmps11
    go_upto_region 1 with (fail)
    rw [← HW1.out]
    try rw [hg]
    clear HW1 hg
    go_wp2_with (refine wpList_store_row rfl 31 _ _ rfl g _ rfl rfl _ _ hr1 (resR _ (by rfl)) rfl (by simp [Value.oneCell']) ?_)
    refine bodyPost_ret (results_cell_row rfl _ _ _ _ _ _ _ rfl (setRow_heap _ g _ _ _ _ hr1) Tryd.underlying31 rfl (resR _ (by rfl))) (by rfl) ?_
    rw [HRO.out]
    exact ⟨rfl, past_row13 H1.out.1 (by rw [H1.out.2]; exact Nat.le_refl _) _⟩
theorem rget_any (a : Int) (w : World) : Calls Tryd.prog 11 #[.int .i64 a] w fun e w' => e = .returned (.agg (refA (row13 a))) ∧ Past w w' := by
  by_cases h : 1 ≤ a ∧ a ≤ 25
  · have := rget_in (a - 1).toNat (by omega) w
    rwa [show (((a - 1).toNat : Nat) : Int) + 1 = a by omega] at this
  · exact rget_out a w h
end Go.Proofs.YtnjoccmjembppaaDoor
