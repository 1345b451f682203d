/- Contract of the reference of the hashes: the permutation of a state. -/
import Derived.Test.YtamgbkadiobklaaRef7B
namespace Go.Proofs.Ytamgbkadiobklaa
open Go.RowKit

/-- The permutation of a state whose lanes lie row by row. -/
def tp (A : Nat → Lane) (i : Nat) : Lane := A (i / 5 + 5 * (i % 5))
def tq (A : Nat → Lane) (i : Nat) : Lane := A (i % 5 * 5 + i / 5)
def rperm (A : Nat → Lane) : Nat → Lane := tq (kperm (tp A))

theorem rpermute_any (A : Nat → Lane) (w : World) :
    Calls Try.prog 31 #[.agg (arr .u64 25 fun i => ln (A i))] w fun e w' => e = .returned (.agg (arr .u64 25 fun i => ln (rperm A i))) ∧ Past w w' := by
  have HC1 := Lib.hid fun w => of_any (fun i => ln (A i)) w
  have HC2 := Lib.hid fun w => permute_any (tp A) w
  have HC3 := Lib.hid fun w => list_any (fun i => ln (kperm (tp A) i)) w
  have hs0 := arr_size .u64 25 fun i => ln (A i)
  have hs1 : (arr .u64 25 fun _ => 0).size = (arr .u64 25 fun i => ln (rperm A i)).size := by rw [arr_size, arr_size]
  have ho1 := arr_one .u64 25 fun i => ln (rperm A i)
  have hi1 : (Try.prog.info? 56).map (·.size) = some (arr .u64 25 fun i => ln (rperm A i)).size := by rw [arr_size]; kernel_rfl
  have hi0 : (Try.prog.info? 56).map (·.size) = some (arr .u64 25 fun i => ln (A i)).size := by rw [arr_size]; kernel_rfl
  generalize arr .u64 25 (fun i => ln (A i)) = cs at *
  change Hid (∀ w, Calls Try.prog 37 #[.agg (arr .u64 25 fun i => ln (kperm (tp A) i))] w fun e w' => e = .returned (.agg (arr .u64 25 fun i => ln (rperm A i))) ∧ Past w w') at HC3
  change Hid (∀ w, Calls Try.prog 39 #[.agg cs] w fun e w' => e = .returned (.agg (arr .u64 25 fun i => ln (tp A i))) ∧ Past w w') at HC1
  generalize arr .u64 25 (fun i => ln (rperm A i)) = c2 at *
  generalize arr .u64 25 (fun i => ln (kperm (tp A) i)) = c3 at *
  generalize arr .u64 25 (fun i => ln (tp A i)) = c4 at *
  have hz := arr_zero25
  generalize arr .u64 25 (fun _ => 0) = c1 at *
  have hr0 : Row ((w.alloc (.cells cs 56)).alloc (.cells c1 56)) w.heap.size 56 cs := (Row.new w _ _).alloc _
  have HR1 : Hid (Row ((w.alloc (.cells cs 56)).alloc (.cells c1 56)) (w.heap.size + 1) 56 c1) := by show Row _ _ _ _; simpa using Row.new (w.alloc (.cells cs 56)) 56 c1
  have HP : Hid (Past w ((w.alloc (.cells cs 56)).alloc (.cells c1 56))) := ((Below.refl _ _).alloc (Nat.le_refl _) _).alloc (by simp) _
  go_enter Try.func31, Try.ntmps31
  go_wp2_with (refine wpList_load_row rfl 56 _ rfl w.heap.size rfl _ _ (0, 0) _ hr0 Try.underlying56 rfl hi0 ?_)
  clear hr0
  generalize (w.alloc (.cells cs 56)).alloc (.cells c1 56) = w0 at *
  refine (HC1.out _).mono ?_
  rintro e w1 ⟨rfl, hp1⟩
  have HP1 := Lib.hid (HP.out.trans' hp1)
  have HR2 := Lib.hid (HR1.out.past hp1)
  clear hp1 HR1 HP
  go_wp2_with fail
  refine (HC2.out _).mono ?_
  rintro e w2 ⟨rfl, hp1⟩
  have HP2 := Lib.hid (HP1.out.trans' hp1)
  have HR3 := Lib.hid (HR2.out.past hp1)
  clear hp1 HR2 HP1
  go_wp2_with fail
  refine (HC3.out _).mono ?_
  rintro e w3 ⟨rfl, hp1⟩
  have HP3 := Lib.hid (HP2.out.trans' hp1)
  have hr1 := HR3.out.past hp1
  clear hp1 HR3 HP2
  go_wp2_with (refine wpList_store_row rfl 56 _ _ rfl (w.heap.size + 1) _ rfl rfl _ _ hr1 hi1 hs1 ho1 ?_)
  refine bodyPost_ret (results_cell_row rfl _ _ (w.heap.size + 1) _ c2 (0, 0) _ rfl (setRow_heap w3 (w.heap.size + 1) c1 c2 _ _ hr1) Try.underlying56 rfl hi1) rfl ?_
  exact ⟨rfl, below_setRow HP3.out (by omega) _⟩

end Go.Proofs.Ytamgbkadiobklaa
