/- The reference's table. -/
import Derived.Test.YtnjoccmjembppaaDoorPm13B
import Derived.Great.CaseRows
namespace Go.Proofs.YtnjoccmjembppaaDoor
open Go.RowKit
set_option linter.unusedVariables false

/-- The cells of a row of the reference. -/
def refC (r : R13) : List Value := [.int .i64 r.alg, .int .i64 r.fam, .string r.name, .int .i64 r.pub, .int .i64 r.priv, .int .i64 r.seed, .int .i64 r.sig, .string r.text, .int .i64 r.cose, .int .u32 r.typ]
def refT : List Value := tab13.flatMap refC
def refVs : List Value := tab13.map fun r => .agg (refC r).toArray
theorem tab_tail (w : World) (i : Nat) : (w.alloc (.cells (refVs.flatMap fun v => v.cells.toList).toArray 31)).cell? ⟨w.heap.size, i, none⟩ = refT[i]? := by
  have hfl : (refVs.flatMap fun v => v.cells.toList) = refT := by kernel_rfl
  rw [hfl]
  have h := cell_of_row (w.alloc (.cells refT.toArray 31)) w.heap.size i refT.toArray 31 (0, 0) (heap_alloc_new w _)
  rw [h, List.getElem?_toArray]
set_option maxHeartbeats 8000000 in
set_option maxRecDepth 100000 in
theorem table_any (w : World) : Calls Tryd.prog 15 #[] w fun e w' => e = .returned (.slice (some ⟨w.heap.size, 0, none⟩) 25 25) ∧ (∀ i, i < 250 → w'.cell? ⟨w.heap.size, i, none⟩ = refT[i]?) ∧ Past w w' := by
  have ha1 : ∀ w : World, (Op.stringOp .add ⟨#[50, 46, 49, 54, 46, 56, 52, 48, 46, 49, 46, 49, 48, 49, 46, 51, 46, 52, 46]⟩ ⟨#[52, 46, 49]⟩).run Tryd.prog w = .ok (.string ⟨#[50, 46, 49, 54, 46, 56, 52, 48, 46, 49, 46, 49, 48, 49, 46, 51, 46, 52, 46, 52, 46, 49]⟩) w := fun w => by rw [run_string_add_sum w _ _ (by decide)]; exact congrArg (fun s => Result.ok (Value.string s) w) (by kernel_rfl)
  have ha2 : ∀ w : World, (Op.stringOp .add ⟨#[50, 46, 49, 54, 46, 56, 52, 48, 46, 49, 46, 49, 48, 49, 46, 51, 46, 52, 46]⟩ ⟨#[52, 46, 50]⟩).run Tryd.prog w = .ok (.string ⟨#[50, 46, 49, 54, 46, 56, 52, 48, 46, 49, 46, 49, 48, 49, 46, 51, 46, 52, 46, 52, 46, 50]⟩) w := fun w => by rw [run_string_add_sum w _ _ (by decide)]; exact congrArg (fun s => Result.ok (Value.string s) w) (by kernel_rfl)
  have ha3 : ∀ w : World, (Op.stringOp .add ⟨#[50, 46, 49, 54, 46, 56, 52, 48, 46, 49, 46, 49, 48, 49, 46, 51, 46, 52, 46]⟩ ⟨#[52, 46, 51]⟩).run Tryd.prog w = .ok (.string ⟨#[50, 46, 49, 54, 46, 56, 52, 48, 46, 49, 46, 49, 48, 49, 46, 51, 46, 52, 46, 52, 46, 51]⟩) w := fun w => by rw [run_string_add_sum w _ _ (by decide)]; exact congrArg (fun s => Result.ok (Value.string s) w) (by kernel_rfl)
  have ha4 : ∀ w : World, (Op.stringOp .add ⟨#[50, 46, 49, 54, 46, 56, 52, 48, 46, 49, 46, 49, 48, 49, 46, 51, 46, 52, 46]⟩ ⟨#[51, 46, 49, 55]⟩).run Tryd.prog w = .ok (.string ⟨#[50, 46, 49, 54, 46, 56, 52, 48, 46, 49, 46, 49, 48, 49, 46, 51, 46, 52, 46, 51, 46, 49, 55]⟩) w := fun w => by rw [run_string_add_sum w _ _ (by decide)]; exact congrArg (fun s => Result.ok (Value.string s) w) (by kernel_rfl)
  have ha5 : ∀ w : World, (Op.stringOp .add ⟨#[50, 46, 49, 54, 46, 56, 52, 48, 46, 49, 46, 49, 48, 49, 46, 51, 46, 52, 46]⟩ ⟨#[51, 46, 49, 56]⟩).run Tryd.prog w = .ok (.string ⟨#[50, 46, 49, 54, 46, 56, 52, 48, 46, 49, 46, 49, 48, 49, 46, 51, 46, 52, 46, 51, 46, 49, 56]⟩) w := fun w => by rw [run_string_add_sum w _ _ (by decide)]; exact congrArg (fun s => Result.ok (Value.string s) w) (by kernel_rfl)
  have ha6 : ∀ w : World, (Op.stringOp .add ⟨#[50, 46, 49, 54, 46, 56, 52, 48, 46, 49, 46, 49, 48, 49, 46, 51, 46, 52, 46]⟩ ⟨#[51, 46, 49, 57]⟩).run Tryd.prog w = .ok (.string ⟨#[50, 46, 49, 54, 46, 56, 52, 48, 46, 49, 46, 49, 48, 49, 46, 51, 46, 52, 46, 51, 46, 49, 57]⟩) w := fun w => by rw [run_string_add_sum w _ _ (by decide)]; exact congrArg (fun s => Result.ok (Value.string s) w) (by kernel_rfl)
  have ha7 : ∀ w : World, (Op.stringOp .add ⟨#[50, 46, 49, 54, 46, 56, 52, 48, 46, 49, 46, 49, 48, 49, 46, 51, 46, 52, 46]⟩ ⟨#[51, 46, 50, 48]⟩).run Tryd.prog w = .ok (.string ⟨#[50, 46, 49, 54, 46, 56, 52, 48, 46, 49, 46, 49, 48, 49, 46, 51, 46, 52, 46, 51, 46, 50, 48]⟩) w := fun w => by rw [run_string_add_sum w _ _ (by decide)]; exact congrArg (fun s => Result.ok (Value.string s) w) (by kernel_rfl)
  have ha8 : ∀ w : World, (Op.stringOp .add ⟨#[50, 46, 49, 54, 46, 56, 52, 48, 46, 49, 46, 49, 48, 49, 46, 51, 46, 52, 46]⟩ ⟨#[51, 46, 50, 49]⟩).run Tryd.prog w = .ok (.string ⟨#[50, 46, 49, 54, 46, 56, 52, 48, 46, 49, 46, 49, 48, 49, 46, 51, 46, 52, 46, 51, 46, 50, 49]⟩) w := fun w => by rw [run_string_add_sum w _ _ (by decide)]; exact congrArg (fun s => Result.ok (Value.string s) w) (by kernel_rfl)
  have ha9 : ∀ w : World, (Op.stringOp .add ⟨#[50, 46, 49, 54, 46, 56, 52, 48, 46, 49, 46, 49, 48, 49, 46, 51, 46, 52, 46]⟩ ⟨#[51, 46, 50, 50]⟩).run Tryd.prog w = .ok (.string ⟨#[50, 46, 49, 54, 46, 56, 52, 48, 46, 49, 46, 49, 48, 49, 46, 51, 46, 52, 46, 51, 46, 50, 50]⟩) w := fun w => by rw [run_string_add_sum w _ _ (by decide)]; exact congrArg (fun s => Result.ok (Value.string s) w) (by kernel_rfl)
  have ha10 : ∀ w : World, (Op.stringOp .add ⟨#[50, 46, 49, 54, 46, 56, 52, 48, 46, 49, 46, 49, 48, 49, 46, 51, 46, 52, 46]⟩ ⟨#[51, 46, 50, 51]⟩).run Tryd.prog w = .ok (.string ⟨#[50, 46, 49, 54, 46, 56, 52, 48, 46, 49, 46, 49, 48, 49, 46, 51, 46, 52, 46, 51, 46, 50, 51]⟩) w := fun w => by rw [run_string_add_sum w _ _ (by decide)]; exact congrArg (fun s => Result.ok (Value.string s) w) (by kernel_rfl)
  have ha11 : ∀ w : World, (Op.stringOp .add ⟨#[50, 46, 49, 54, 46, 56, 52, 48, 46, 49, 46, 49, 48, 49, 46, 51, 46, 52, 46]⟩ ⟨#[51, 46, 50, 52]⟩).run Tryd.prog w = .ok (.string ⟨#[50, 46, 49, 54, 46, 56, 52, 48, 46, 49, 46, 49, 48, 49, 46, 51, 46, 52, 46, 51, 46, 50, 52]⟩) w := fun w => by rw [run_string_add_sum w _ _ (by decide)]; exact congrArg (fun s => Result.ok (Value.string s) w) (by kernel_rfl)
  have ha12 : ∀ w : World, (Op.stringOp .add ⟨#[50, 46, 49, 54, 46, 56, 52, 48, 46, 49, 46, 49, 48, 49, 46, 51, 46, 52, 46]⟩ ⟨#[51, 46, 50, 53]⟩).run Tryd.prog w = .ok (.string ⟨#[50, 46, 49, 54, 46, 56, 52, 48, 46, 49, 46, 49, 48, 49, 46, 51, 46, 52, 46, 51, 46, 50, 53]⟩) w := fun w => by rw [run_string_add_sum w _ _ (by decide)]; exact congrArg (fun s => Result.ok (Value.string s) w) (by kernel_rfl)
  have ha13 : ∀ w : World, (Op.stringOp .add ⟨#[50, 46, 49, 54, 46, 56, 52, 48, 46, 49, 46, 49, 48, 49, 46, 51, 46, 52, 46]⟩ ⟨#[51, 46, 50, 54]⟩).run Tryd.prog w = .ok (.string ⟨#[50, 46, 49, 54, 46, 56, 52, 48, 46, 49, 46, 49, 48, 49, 46, 51, 46, 52, 46, 51, 46, 50, 54]⟩) w := fun w => by rw [run_string_add_sum w _ _ (by decide)]; exact congrArg (fun s => Result.ok (Value.string s) w) (by kernel_rfl)
  have ha14 : ∀ w : World, (Op.stringOp .add ⟨#[50, 46, 49, 54, 46, 56, 52, 48, 46, 49, 46, 49, 48, 49, 46, 51, 46, 52, 46]⟩ ⟨#[51, 46, 50, 55]⟩).run Tryd.prog w = .ok (.string ⟨#[50, 46, 49, 54, 46, 56, 52, 48, 46, 49, 46, 49, 48, 49, 46, 51, 46, 52, 46, 51, 46, 50, 55]⟩) w := fun w => by rw [run_string_add_sum w _ _ (by decide)]; exact congrArg (fun s => Result.ok (Value.string s) w) (by kernel_rfl)
  have ha15 : ∀ w : World, (Op.stringOp .add ⟨#[50, 46, 49, 54, 46, 56, 52, 48, 46, 49, 46, 49, 48, 49, 46, 51, 46, 52, 46]⟩ ⟨#[51, 46, 50, 56]⟩).run Tryd.prog w = .ok (.string ⟨#[50, 46, 49, 54, 46, 56, 52, 48, 46, 49, 46, 49, 48, 49, 46, 51, 46, 52, 46, 51, 46, 50, 56]⟩) w := fun w => by rw [run_string_add_sum w _ _ (by decide)]; exact congrArg (fun s => Result.ok (Value.string s) w) (by kernel_rfl)
  have ha16 : ∀ w : World, (Op.stringOp .add ⟨#[50, 46, 49, 54, 46, 56, 52, 48, 46, 49, 46, 49, 48, 49, 46, 51, 46, 52, 46]⟩ ⟨#[51, 46, 50, 57]⟩).run Tryd.prog w = .ok (.string ⟨#[50, 46, 49, 54, 46, 56, 52, 48, 46, 49, 46, 49, 48, 49, 46, 51, 46, 52, 46, 51, 46, 50, 57]⟩) w := fun w => by rw [run_string_add_sum w _ _ (by decide)]; exact congrArg (fun s => Result.ok (Value.string s) w) (by kernel_rfl)
  have ha17 : ∀ w : World, (Op.stringOp .add ⟨#[50, 46, 49, 54, 46, 56, 52, 48, 46, 49, 46, 49, 48, 49, 46, 51, 46, 52, 46]⟩ ⟨#[51, 46, 51, 48]⟩).run Tryd.prog w = .ok (.string ⟨#[50, 46, 49, 54, 46, 56, 52, 48, 46, 49, 46, 49, 48, 49, 46, 51, 46, 52, 46, 51, 46, 51, 48]⟩) w := fun w => by rw [run_string_add_sum w _ _ (by decide)]; exact congrArg (fun s => Result.ok (Value.string s) w) (by kernel_rfl)
  have ha18 : ∀ w : World, (Op.stringOp .add ⟨#[50, 46, 49, 54, 46, 56, 52, 48, 46, 49, 46, 49, 48, 49, 46, 51, 46, 52, 46]⟩ ⟨#[51, 46, 51, 49]⟩).run Tryd.prog w = .ok (.string ⟨#[50, 46, 49, 54, 46, 56, 52, 48, 46, 49, 46, 49, 48, 49, 46, 51, 46, 52, 46, 51, 46, 51, 49]⟩) w := fun w => by rw [run_string_add_sum w _ _ (by decide)]; exact congrArg (fun s => Result.ok (Value.string s) w) (by kernel_rfl)
  have hcl : ∀ v ∈ refVs, v.cells.size = 10 := by
    intro v hv
    have h : (refVs.all fun v => v.cells.size == 10) = true := by kernel_rfl
    simpa using List.all_eq_true.1 h v hv
  have hfl : (refVs.flatMap fun v => v.cells.toList) = refT := by kernel_rfl
  have hlen : refVs.length = 25 := by kernel_rfl
  obtain ⟨g, hg⟩ : ∃ g, w.heap.size = g := ⟨_, rfl⟩
  have HG := Lib.hid hg
  have HF := Lib.hid hfl
  clear hfl
  go_enter Tryd.func15, Tryd.ntmps15
  go_wp2_with (refine Go.Great.wpList_buildRows (P := Tryd.prog) rfl 37 31 _ 10 refVs rfl (fun i => if i < 18 then 5 + 3 * i else 57 + 2 * (i - 18)) g HG.out _ rfl Tryd.underlying37 (by kernel_rfl) (by kernel_rfl) (by decide) (by rw [hlen]; decide) (by rw [hlen]; decide) (by kernel_rfl) hcl (fun i h => by
                            rw [hlen] at h
                            rcases i with _ | _ | _ | _ | _ | _ | _ | _ | _ | _ | _ | _ | _ | _ | _ | _ | _ | _ | _ | _ | _ | _ | _ | _ | _ | i
                            all_goals first
                              | rfl
                              | omega) ?_)
  first | (refine bodyPost_ret (results_tmp rfl _ _ _) (by rfl) ?_) | (refine bodyPost_ret (results_tmp (by rfl) _ _ _) (by rfl) ?_) | go_ret
  refine ⟨by rw [HG.out]; rfl, fun i hi => ?_, past_alloc13 _ _⟩
  exact tab_tail w i
end Go.Proofs.YtnjoccmjembppaaDoor
