/- Contracts of the small functions of package fault: New, In, Shift, the Unwrap methods, and next. -/
import Derived.Test.YtdpnfojpeafdhaaDoorErr1
import Derived.Defers
import Derived.Recover
import Derived.Laws.Pointers
import Derived.Outline
namespace Go.Proofs.YtdpnfojpeafdhaaDoor
open Go.RowKit

theorem Ch.shape (r : Ch) : ∃ T x, r.val = .iface T x := by cases r <;> exact ⟨_, _, rfl⟩

theorem new_any (c a : Int) (w : World) : Calls Tryd.prog 23 #[.int .i64 c, .int .i64 a] w fun e w' => e = .returned (Ch.flt c a).val ∧ Past w w' := by
  go_enter Tryd.func23, Tryd.ntmps23
  go_wp2
  go_ret
  exact ⟨rfl, Below.refl _ _⟩

/-! ### The Unwrap methods -/
theorem unwFault_any (c a : Int) (w : World) : Calls Tryd.prog 92 #[.agg #[.int .i64 c, .int .i64 a]] w fun e w' => e = .returned (.iface 56 (.int .i64 c)) ∧ Past w w' := by
  go_enter Tryd.func92, Tryd.ntmps92
  go_wp2
  go_ret
  exact ⟨rfl, (Below.refl _ _).alloc (Nat.le_refl _) _⟩
theorem unwShf_any (g : Nat) (b : Int) (r : Ch) (w : World) (h : (Ch.shf g b r).In w) : Calls Tryd.prog 94 #[.pointer (some ⟨g, 0, none⟩)] w fun e w' => e = .returned r.val ∧ w = w' := by
  have h1 := h.1.cell 1
  simp at h1
  clear h
  go_enter Tryd.func94, Tryd.ntmps94
  go_wp2
  go_ret
  exact ⟨rfl, rfl⟩

/-! ### next -/
theorem newCell {w w1 : World} {v : Value} {t : TypeId} (hp : Past (w.alloc (.cells #[v] t)) w1) :
    w1.cell? ⟨w.heap.size, 0, none⟩ = some v ∧ w1.frozen? ⟨w.heap.size, 0, none⟩ = false ∧ Hid (Past w w1) := by
  have h := (Row.new w t #[v]).past hp
  refine ⟨?_, h.fr 0, Past.trans' ((Below.refl _ _).alloc (Nat.le_refl _) _) hp⟩
  rw [h.cell 0]
  rfl

theorem calm_any (p : Addr) (w : World) :
    CallsD Tryd.prog 66 #[.pointer (some p)] .returning w fun e u' w' => e = .returned (.tuple #[]) ∧ u' = .returning ∧ w' = w := by
  refine callsD_of_wpS Tryd.func66 rfl fun c₀ cs hu => ?_
  apply wpS_seq
  apply wpS_region
  simp [wpOpsS, go_sem, recoverD, hu, Tryd.ntmps66, Exit.thenS]
  refine wpS_cond (t := false) (by simp [Act.eval, Array.replicate]) ?_
  simp only [Bool.false_eq_true, if_false]
  refine wpS_of_wp (wp_skip ?_)
  cases c₀
  simp_all [bodyPostS, results, Tryd.results66]

theorem next_code (c : Int) (w : World) : Calls Tryd.prog 56 #[(Ch.code c).val] w fun e w' => e = .returned .nilIface ∧ Past w w' := by
  have hmf : ∀ (fn : Fn) (first cap : Array Value) (w : World), (Instr.makeFunc fn first cap).run Tryd.prog w = .ok (.func fn first cap) w := fun _ _ _ _ => rfl
  have ha := asUnwCode (.int .i64 c)
  unfold Ch.val
  go_enter_defers Tryd.func56, Tryd.ntmps56
  go_wp2
  refine leaves_cons (f := 66) (args := #[.pointer (some ⟨w.heap.size, 0, none⟩)]) (by simp) (by simp [go_sem]) ?_
  refine (calm_any ⟨w.heap.size, 0, none⟩ _).mono ?_
  rintro e u' w'' ⟨rfl, rfl, rfl⟩
  simp [Leaves, settle, results, Tryd.results56, go_sem]
  exact (Below.refl _ _).alloc (Nat.le_refl _) _

theorem next_flt (c a : Int) (w : World) : Calls Tryd.prog 56 #[(Ch.flt c a).val] w fun e w' => e = .returned (Ch.code c).val ∧ Past w w' := by
  have hmf : ∀ (fn : Fn) (first cap : Array Value) (w : World), (Instr.makeFunc fn first cap).run Tryd.prog w = .ok (.func fn first cap) w := fun _ _ _ _ => rfl
  have ha := asUnwFault (.agg #[.int .i64 c, .int .i64 a])
  have hn := fun n w => nuFault n w (.int .i64 c) (.int .i64 a)
  have hm := fun n w => muFault n w (.int .i64 c) (.int .i64 a)
  unfold Ch.val
  go_enter_defers Tryd.func56, Tryd.ntmps56
  go_wp2_with fail
  refine (unwFault_any c a _).mono ?_
  rintro e w1 ⟨rfl, hp⟩
  obtain ⟨hc, hf, HP⟩ := newCell hp
  clear hp
  go_wp2
  refine leaves_cons (f := 66) (args := #[.pointer (some ⟨w.heap.size, 0, none⟩)]) (by simp) (by simp [go_sem]) ?_
  refine (calm_any ⟨w.heap.size, 0, none⟩ _).mono ?_
  rintro e u' w'' ⟨rfl, rfl, rfl⟩
  have hc2 : ∀ v, (w1.setCell ⟨w.heap.size, 0, none⟩ v).cell? ⟨w.heap.size, 0, none⟩ = some v := fun v => World.cell?_setCell_same' w1 _ v (by rw [hc]; rfl)
  simp [Leaves, settle, results, Tryd.results56, go_sem, hc2]
  exact HP.out.setCell (Nat.le_refl _) _

theorem next_shf (g : Nat) (b : Int) (r : Ch) (w : World) (h : (Ch.shf g b r).In w) : Calls Tryd.prog 56 #[(Ch.shf g b r).val] w fun e w' => e = .returned r.val ∧ Past w w' := by
  have hmf : ∀ (fn : Fn) (first cap : Array Value) (w : World), (Instr.makeFunc fn first cap).run Tryd.prog w = .ok (.func fn first cap) w := fun _ _ _ _ => rfl
  have ha := asUnwShf (.pointer (some ⟨g, 0, none⟩))
  have hn := fun n w => nuShf n w ⟨g, 0, none⟩
  have hm := fun n w => muShf n w ⟨g, 0, none⟩
  have hp : Past w (w.alloc (.cells #[.nilIface] 28)) := (Below.refl _ _).alloc (Nat.le_refl _) _
  have H := Lib.hid (unwShf_any g b r _ (h.past hp))
  have HP := Lib.hid hp
  clear h hp
  unfold Ch.val
  obtain ⟨T, x, hv⟩ := r.shape
  unfold Ch.val at hv H
  rw [hv] at H ⊢
  clear hv
  go_enter_defers Tryd.func56, Tryd.ntmps56
  go_wp2_with fail
  refine H.out.mono ?_
  rintro e w1 ⟨rfl, rfl⟩
  go_wp2
  refine leaves_cons (f := 66) (args := #[.pointer (some ⟨w.heap.size, 0, none⟩)]) (by simp) (by simp [go_sem]) ?_
  refine (calm_any ⟨w.heap.size, 0, none⟩ _).mono ?_
  rintro e u' w'' ⟨rfl, rfl, rfl⟩
  simp [Leaves, settle, results, Tryd.results56, go_sem]
  exact (Below.refl _ _).alloc (Nat.le_refl _) _

/-- The error after a chain's first one. -/
def Ch.tail : Ch → Option Ch
  | .code _ => none
  | .flt c _ => some (.code c)
  | .shf _ _ r => some r
def optVal : Option Ch → Value
  | none => .nilIface
  | some r => r.val
def optIn (w : World) : Option Ch → Prop
  | none => True
  | some r => r.In w
theorem optIn.past {w w' : World} {r : Option Ch} (h : optIn w r) (hp : Past w w') : optIn w' r := by
  cases r with
  | none => trivial
  | some r => exact Ch.In.past h hp
theorem optVal_shape (r : Option Ch) : optVal r = .nilIface ∨ ∃ T x, optVal r = .iface T x := by
  cases r with
  | none => exact .inl rfl
  | some r => exact .inr r.shape
theorem Ch.In.tail {w : World} {r : Ch} (h : r.In w) : optIn w r.tail := by
  cases r with
  | code => trivial
  | flt => trivial
  | shf => exact h.2
theorem next_any (r : Ch) (w : World) (h : r.In w) : Calls Tryd.prog 56 #[r.val] w fun e w' => e = .returned (optVal r.tail) ∧ Past w w' := by
  cases r with
  | code c => exact next_code c w
  | flt c a => exact next_flt c a w
  | shf g b r => exact next_shf g b r w h

end Go.Proofs.YtdpnfojpeafdhaaDoor
