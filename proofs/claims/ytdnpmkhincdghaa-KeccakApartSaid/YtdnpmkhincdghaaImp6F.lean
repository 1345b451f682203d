/- The program's package keccak as a whole: every contract that the laws ask for. -/
import Derived.Test.YtdnpmkhincdghaaImp6E
import Derived.Test.YtdnpmkhincdghaaP6
namespace Go.Proofs.Ytdnpmkhincdghaa
open Go.RowKit

theorem pconsts_any (w : World) : Calls Try.prog 18 #[] w fun e w' => e = .returned (.agg (arr .u64 24 rcF)) ∧ Past w w' := by
  have HC := Lib.hid (fun w => pconstants_any w)
  have hi2 : (Try.prog.info? 38).map (·.size) = some (arr .u64 24 rcF).size := by rw [arr_size]; kernel_rfl
  have hs2 : (arr .u64 24 fun _ => 0).size = (arr .u64 24 rcF).size := by rw [arr_size, arr_size]
  have ho2 := arr_one .u64 24 rcF
  generalize arr .u64 24 rcF = c2 at *
  go_enter Try.func18, Try.ntmps18
  go_wp2_with fail
  rw [arr_zero24]
  refine (HC.out _).mono ?_
  rintro e w1 ⟨rfl, hp⟩
  have hr := (Row.new w 38 (arr .u64 24 fun _ => 0)).past hp
  have HP := Lib.hid ((past_alloc6 _ _).trans' hp)
  clear hp
  go_wp2_with (refine wpList_store_row rfl 38 _ _ rfl w.heap.size _ rfl rfl _ _ hr hi2 hs2 ho2 ?_)
  refine bodyPost_ret (results_cell_row rfl _ _ w.heap.size _ c2 (0, 0) _ rfl (setRow_heap w1 w.heap.size _ c2 _ _ hr) Try.underlying38 rfl hi2) rfl ?_
  exact ⟨rfl, below_setRow HP.out (Nat.le_refl _) _⟩
theorem poffs_any (w : World) : Calls Try.prog 19 #[] w fun e w' => e = .returned (.agg (arr .i64 25 poff)) ∧ Past w w' := by
  have h0 : (arr .i64 25 fun i => (offN (i % 5 * 5 + i / 5) : Int)) = arr .i64 25 poff := rfl
  have hO := fun w => poffsets_any w
  rw [h0] at hO
  have HC := Lib.hid hO
  have hi2 : (Try.prog.info? 44).map (·.size) = some (arr .i64 25 poff).size := by rw [arr_size]; kernel_rfl
  have hs2 : (arr .i64 25 fun _ => 0).size = (arr .i64 25 poff).size := by rw [arr_size, arr_size]
  have ho2 := arr_one .i64 25 poff
  clear h0 hO
  generalize arr .i64 25 poff = c2 at *
  go_enter Try.func19, Try.ntmps19
  go_wp2_with fail
  rw [arr_izero25]
  refine (HC.out _).mono ?_
  rintro e w1 ⟨rfl, hp⟩
  have hr := (Row.new w 44 (arr .i64 25 fun _ => 0)).past hp
  have HP := Lib.hid ((past_alloc6 _ _).trans' hp)
  clear hp
  go_wp2_with (refine wpList_store_row rfl 44 _ _ rfl w.heap.size _ rfl rfl _ _ hr hi2 hs2 ho2 ?_)
  refine bodyPost_ret (results_cell_row rfl _ _ w.heap.size _ c2 (0, 0) _ rfl (setRow_heap w1 w.heap.size _ c2 _ _ hr) Try.underlying44 rfl hi2) rfl ?_
  exact ⟨rfl, below_setRow HP.out (Nat.le_refl _) _⟩

theorem prog6 : Prog6 := ⟨pconsts_any, poffs_any, pround_any, pperm_any, fun S w => pbytes_any S w, fun S w => pfrom_any S w⟩

end Go.Proofs.Ytdnpmkhincdghaa
