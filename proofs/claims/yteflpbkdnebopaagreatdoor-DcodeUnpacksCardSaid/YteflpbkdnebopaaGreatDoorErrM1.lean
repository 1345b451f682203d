/- Errors of package fault as chains in memory, and closed facts on their methods and type assertions. Contracts of the small functions of package fault: New, In, Shift, the Unwrap methods, and next. Contracts of package fault's readers: find. Package internal/reflectlite's entries at the types that errors.As meets here: closed facts, and small laws on the entries that read or write memory. -/
import Derived.Test.YteflpbkdnebopaaGreatDoorRows
import Derived.Test.YteflpbkdnebopaaGreatDoorBase
import Derived.LaidEql
import Derived.Stop.Asserts
import Derived.RowKitTokens
import Derived.Deep.QuietTactic
import Derived.BigQuiet
import Derived.Defers
import Derived.Recover
import Derived.Laws.Pointers
import Derived.Outline
import Derived.Deep.LoopGhost
import Derived.Laws.Rows
import Derived.Laws.Tables
namespace Go.Proofs.YteflpbkdnebopaaGreatDoor
open Go.RowKit

/-- An error as this program makes it: a code, a fault, or a block that wraps another error. -/
inductive Ch where
  | code (c : Int)
  | flt (c at' : Int)
  | shf (g : Nat) (b : Int) (r : Ch)

def Ch.val : Ch → Value
  | .code c => .iface 72 (.int .i64 c)
  | .flt c a => .iface 108 (.agg #[.int .i64 c, .int .i64 a])
  | .shf g _ _ => .iface 123 (.pointer (some ⟨g, 0, none⟩))

theorem valCode (c : Int) : (Ch.code c).val = .iface 72 (.int .i64 c) := rfl
theorem valFlt (c a : Int) : (Ch.flt c a).val = .iface 108 (.agg #[.int .i64 c, .int .i64 a]) := rfl
theorem valShf (g : Nat) (b : Int) (r : Ch) : (Ch.shf g b r).val = .iface 123 (.pointer (some ⟨g, 0, none⟩)) := rfl

/-- The blocks of a chain stand in the world. -/
def Ch.In (w : World) : Ch → Prop
  | .code _ => True
  | .flt _ _ => True
  | .shf g b r => Row w g 125 #[.int .i64 b, r.val] ∧ r.In w

theorem Ch.In.past {w w' : World} : ∀ {r : Ch}, r.In w → Past w w' → r.In w'
  | .code _, _, _ => trivial
  | .flt _ _, _, _ => trivial
  | .shf _ _ _, h, hp => ⟨h.1.past hp, Ch.In.past h.2 hp⟩
theorem Ch.In.drewN {w : World} (m : Nat) : ∀ {r : Ch}, r.In w → r.In (w.drewN m)
  | .code _, _ => trivial
  | .flt _ _, _ => trivial
  | .shf _ _ _, h => ⟨h.1, Ch.In.drewN m h.2⟩

/-- How many errors stand ahead of the innermost one. -/
def Ch.depth : Ch → Nat
  | .code _ => 0
  | .flt _ _ => 1
  | .shf _ _ r => r.depth + 2

/-! ### What the assertions find -/
section
variable (v : Value) (xT : TypeId) (w : World)
theorem asUnwCode : (Instr.typeAssert (.iface 72 v) xT 142 true).run Tryz.prog w = .ok (.tuple #[.nilIface, .bool false]) w := run_typeAssert_lacksB Tryz.underlying142 (by kernel_rfl) (by kernel_rfl) v xT w
theorem asUnwFault : (Instr.typeAssert (.iface 108 v) xT 142 true).run Tryz.prog w = .ok (.tuple #[.iface 108 v, .bool true]) w := run_typeAssert_hasB Tryz.underlying142 (by kernel_rfl) v xT w
theorem asUnwShf : (Instr.typeAssert (.iface 123 v) xT 142 true).run Tryz.prog w = .ok (.tuple #[.iface 123 v, .bool true]) w := run_typeAssert_hasB Tryz.underlying142 (by kernel_rfl) v xT w

theorem asManyCode : (Instr.typeAssert (.iface 72 v) xT 154 true).run Tryz.prog w = .ok (.tuple #[.nilIface, .bool false]) w := run_typeAssert_lacksB Tryz.underlying154 (by kernel_rfl) (by kernel_rfl) v xT w

theorem asAsCode : (Instr.typeAssert (.iface 72 v) xT 151 true).run Tryz.prog w = .ok (.tuple #[.nilIface, .bool false]) w := run_typeAssert_lacksB Tryz.underlying151 (by kernel_rfl) (by kernel_rfl) v xT w
theorem asAsFault : (Instr.typeAssert (.iface 108 v) xT 151 true).run Tryz.prog w = .ok (.tuple #[.nilIface, .bool false]) w := run_typeAssert_lacksB Tryz.underlying151 (by kernel_rfl) (by kernel_rfl) v xT w
theorem asAsShf : (Instr.typeAssert (.iface 123 v) xT 151 true).run Tryz.prog w = .ok (.tuple #[.nilIface, .bool false]) w := run_typeAssert_lacksB Tryz.underlying151 (by kernel_rfl) (by kernel_rfl) v xT w
theorem toCodeCode : (Instr.typeAssert (.iface 72 v) xT 72 true).run Tryz.prog w = .ok (.tuple #[v, .bool true]) w := by kernel_rfl
theorem toCodeFault : (Instr.typeAssert (.iface 108 v) xT 72 true).run Tryz.prog w = .ok (.tuple #[.int .i64 0, .bool false]) w := by kernel_rfl
theorem toCodeShf : (Instr.typeAssert (.iface 123 v) xT 72 true).run Tryz.prog w = .ok (.tuple #[.int .i64 0, .bool false]) w := by kernel_rfl
theorem toFaultCode : (Instr.typeAssert (.iface 72 v) xT 108 true).run Tryz.prog w = .ok (.tuple #[.agg #[.int .i64 0, .int .i64 0], .bool false]) w := by kernel_rfl
theorem toFaultFault : (Instr.typeAssert (.iface 108 v) xT 108 true).run Tryz.prog w = .ok (.tuple #[v, .bool true]) w := by kernel_rfl
theorem toFaultShf : (Instr.typeAssert (.iface 123 v) xT 108 true).run Tryz.prog w = .ok (.tuple #[.agg #[.int .i64 0, .int .i64 0], .bool false]) w := by kernel_rfl
theorem toShfCode : (Instr.typeAssert (.iface 72 v) xT 123 true).run Tryz.prog w = .ok (.tuple #[.pointer none, .bool false]) w := by kernel_rfl
theorem toShfFault : (Instr.typeAssert (.iface 108 v) xT 123 true).run Tryz.prog w = .ok (.tuple #[.pointer none, .bool false]) w := by kernel_rfl
theorem toShfShf : (Instr.typeAssert (.iface 123 v) xT 123 true).run Tryz.prog w = .ok (.tuple #[v, .bool true]) w := by kernel_rfl
end

/-! ### Which method a call through the interface reaches -/
section
variable (n : Nat) (w : World)
theorem nuFault (c a : Value) : (nilAhead (n + 1) 108 (.agg #[c, a]) "Unwrap").run Tryz.prog w = .ok (some false) w := by kernel_rfl
theorem muFault (c a : Value) : (method (n + 1) 108 (.agg #[c, a]) "Unwrap").run Tryz.prog w = .ok (154, .agg #[c, a]) w := by kernel_rfl
theorem nuShf (a : Addr) : (nilAhead (n + 1) 123 (.pointer (some a)) "Unwrap").run Tryz.prog w = .ok (some false) w := by kernel_rfl
theorem muShf (a : Addr) : (method (n + 1) 123 (.pointer (some a)) "Unwrap").run Tryz.prog w = .ok (156, .pointer (some a)) w := by kernel_rfl
theorem neCode (c : Value) : (nilAhead (n + 1) 72 c "Error").run Tryz.prog w = .ok (some false) w := by kernel_rfl
theorem meCode (c : Value) : (method (n + 1) 72 c "Error").run Tryz.prog w = .ok (152, c) w := by kernel_rfl
theorem neFault (c a : Value) : (nilAhead (n + 1) 108 (.agg #[c, a]) "Error").run Tryz.prog w = .ok (some false) w := by kernel_rfl
theorem meFault (c a : Value) : (method (n + 1) 108 (.agg #[c, a]) "Error").run Tryz.prog w = .ok (153, .agg #[c, a]) w := by kernel_rfl
theorem neShf (a : Addr) : (nilAhead (n + 1) 123 (.pointer (some a)) "Error").run Tryz.prog w = .ok (some false) w := by kernel_rfl
theorem meShf (a : Addr) : (method (n + 1) 123 (.pointer (some a)) "Error").run Tryz.prog w = .ok (155, .pointer (some a)) w := by kernel_rfl
end

end Go.Proofs.YteflpbkdnebopaaGreatDoor

namespace Go.Proofs.YteflpbkdnebopaaGreatDoor
open Go.RowKit

theorem Ch.shape (r : Ch) : ∃ T x, r.val = .iface T x := by cases r <;> exact ⟨_, _, rfl⟩

theorem new_any (c a : Int) (w : World) : Calls Tryz.prog 39 #[.int .i64 c, .int .i64 a] w fun e w' => e = .returned (Ch.flt c a).val ∧ Past w w' := by
  go_enter Tryz.func39, Tryz.ntmps39
  go_wp2
  go_ret
  exact ⟨rfl, Below.refl _ _⟩

/-! ### The Unwrap methods -/
theorem unwFault_any (c a : Int) (w : World) : Calls Tryz.prog 154 #[.agg #[.int .i64 c, .int .i64 a]] w fun e w' => e = .returned (.iface 72 (.int .i64 c)) ∧ Past w w' := by
  go_enter Tryz.func154, Tryz.ntmps154
  go_wp2
  go_ret
  exact ⟨rfl, (Below.refl _ _).alloc (Nat.le_refl _) _⟩
theorem unwShf_any (g : Nat) (b : Int) (r : Ch) (w : World) (h : (Ch.shf g b r).In w) : Calls Tryz.prog 156 #[.pointer (some ⟨g, 0, none⟩)] w fun e w' => e = .returned r.val ∧ w = w' := by
  have h1 := h.1.cell 1
  simp at h1
  clear h
  go_enter Tryz.func156, Tryz.ntmps156
  go_wp2
  go_ret
  exact ⟨rfl, rfl⟩

/-! ### next -/
theorem newCell {w w1 : World} {v : Value} {t : TypeId} (hp : Past (w.alloc (.cells #[v] t)) w1) :
    w1.cell? ⟨w.heap.size, 0, none⟩ = some v ∧ w1.frozen? ⟨w.heap.size, 0, none⟩ = false ∧ Hid (Past w w1) := by
  have h := (Row.new w t #[v]).past hp
  refine ⟨?_, h.fr 0, Past.trans' ((Below.refl _ _).alloc (Nat.le_refl _) _) hp⟩
  rw [h.cell 0]
  rfl

theorem calm_any (p : Addr) (w : World) :
    CallsD Tryz.prog 74 #[.pointer (some p)] .returning w fun e u' w' => e = .returned (.tuple #[]) ∧ u' = .returning ∧ w' = w := by
  refine callsD_of_wpS Tryz.func74 rfl fun c₀ cs hu => ?_
  apply wpS_seq
  apply wpS_region
  simp [wpOpsS, go_sem, recoverD, hu, Tryz.ntmps74, Exit.thenS]
  refine wpS_cond (t := false) (by simp [Act.eval, Array.replicate]) ?_
  simp only [Bool.false_eq_true, if_false]
  refine wpS_of_wp (wp_skip ?_)
  cases c₀
  simp_all [bodyPostS, results, Tryz.results74]

theorem next_code (c : Int) (w : World) : Calls Tryz.prog 65 #[(Ch.code c).val] w fun e w' => e = .returned .nilIface ∧ Past w w' := by
  have hmf : ∀ (fn : Fn) (first cap : Array Value) (w : World), (Instr.makeFunc fn first cap).run Tryz.prog w = .ok (.func fn first cap) w := fun _ _ _ _ => rfl
  have ha := asUnwCode (.int .i64 c)
  unfold Ch.val
  go_enter_defers Tryz.func65, Tryz.ntmps65
  go_wp2
  refine leaves_cons (f := 74) (args := #[.pointer (some ⟨w.heap.size, 0, none⟩)]) (by simp) (by simp [go_sem]) ?_
  refine (calm_any ⟨w.heap.size, 0, none⟩ _).mono ?_
  rintro e u' w'' ⟨rfl, rfl, rfl⟩
  simp [Leaves, settle, results, Tryz.results65, go_sem]
  exact (Below.refl _ _).alloc (Nat.le_refl _) _

theorem next_flt (c a : Int) (w : World) : Calls Tryz.prog 65 #[(Ch.flt c a).val] w fun e w' => e = .returned (Ch.code c).val ∧ Past w w' := by
  have hmf : ∀ (fn : Fn) (first cap : Array Value) (w : World), (Instr.makeFunc fn first cap).run Tryz.prog w = .ok (.func fn first cap) w := fun _ _ _ _ => rfl
  have ha := asUnwFault (.agg #[.int .i64 c, .int .i64 a])
  have hn := fun n w => nuFault n w (.int .i64 c) (.int .i64 a)
  have hm := fun n w => muFault n w (.int .i64 c) (.int .i64 a)
  unfold Ch.val
  go_enter_defers Tryz.func65, Tryz.ntmps65
  go_wp2_with fail
  refine (unwFault_any c a _).mono ?_
  rintro e w1 ⟨rfl, hp⟩
  obtain ⟨hc, hf, HP⟩ := newCell hp
  clear hp
  go_wp2
  refine leaves_cons (f := 74) (args := #[.pointer (some ⟨w.heap.size, 0, none⟩)]) (by simp) (by simp [go_sem]) ?_
  refine (calm_any ⟨w.heap.size, 0, none⟩ _).mono ?_
  rintro e u' w'' ⟨rfl, rfl, rfl⟩
  have hc2 : ∀ v, (w1.setCell ⟨w.heap.size, 0, none⟩ v).cell? ⟨w.heap.size, 0, none⟩ = some v := fun v => World.cell?_setCell_same' w1 _ v (by rw [hc]; rfl)
  simp [Leaves, settle, results, Tryz.results65, go_sem, hc2]
  exact HP.out.setCell (Nat.le_refl _) _

theorem next_shf (g : Nat) (b : Int) (r : Ch) (w : World) (h : (Ch.shf g b r).In w) : Calls Tryz.prog 65 #[(Ch.shf g b r).val] w fun e w' => e = .returned r.val ∧ Past w w' := by
  have hmf : ∀ (fn : Fn) (first cap : Array Value) (w : World), (Instr.makeFunc fn first cap).run Tryz.prog w = .ok (.func fn first cap) w := fun _ _ _ _ => rfl
  have ha := asUnwShf (.pointer (some ⟨g, 0, none⟩))
  have hn := fun n w => nuShf n w ⟨g, 0, none⟩
  have hm := fun n w => muShf n w ⟨g, 0, none⟩
  have hp : Past w (w.alloc (.cells #[.nilIface] 34)) := (Below.refl _ _).alloc (Nat.le_refl _) _
  have H := Lib.hid (unwShf_any g b r _ (h.past hp))
  have HP := Lib.hid hp
  clear h hp
  unfold Ch.val
  obtain ⟨T, x, hv⟩ := r.shape
  unfold Ch.val at hv H
  rw [hv] at H ⊢
  clear hv
  go_enter_defers Tryz.func65, Tryz.ntmps65
  go_wp2_with fail
  refine H.out.mono ?_
  rintro e w1 ⟨rfl, rfl⟩
  go_wp2
  refine leaves_cons (f := 74) (args := #[.pointer (some ⟨w.heap.size, 0, none⟩)]) (by simp) (by simp [go_sem]) ?_
  refine (calm_any ⟨w.heap.size, 0, none⟩ _).mono ?_
  rintro e u' w'' ⟨rfl, rfl, rfl⟩
  simp [Leaves, settle, results, Tryz.results65, go_sem]
  exact (Below.refl _ _).alloc (Nat.le_refl _) _

/-- The error after a chain's first one. -/
def Ch.tail : Ch → Option Ch
  | .code _ => none
  | .flt c _ => some (.code c)
  | .shf _ _ r => some r
def optVal : Option Ch → Value
  | none => .nilIface
  | some r => r.val
def optIn (w : World) : Option Ch → Prop
  | none => True
  | some r => r.In w
theorem optIn.past {w w' : World} {r : Option Ch} (h : optIn w r) (hp : Past w w') : optIn w' r := by
  cases r with
  | none => trivial
  | some r => exact Ch.In.past h hp
theorem optVal_shape (r : Option Ch) : optVal r = .nilIface ∨ ∃ T x, optVal r = .iface T x := by
  cases r with
  | none => exact .inl rfl
  | some r => exact .inr r.shape
theorem Ch.In.tail {w : World} {r : Ch} (h : r.In w) : optIn w r.tail := by
  cases r with
  | code => trivial
  | flt => trivial
  | shf => exact h.2
theorem next_any (r : Ch) (w : World) (h : r.In w) : Calls Tryz.prog 65 #[r.val] w fun e w' => e = .returned (optVal r.tail) ∧ Past w w' := by
  cases r with
  | code c => exact next_code c w
  | flt c a => exact next_flt c a w
  | shf g b r => exact next_shf g b r w h

end Go.Proofs.YteflpbkdnebopaaGreatDoor

namespace Go.Proofs.YteflpbkdnebopaaGreatDoor
open Go.RowKit

/-- The innermost error of package api's first met in a chain. -/
def Ch.base : Ch → Ch
  | .shf _ _ r => r.base
  | r => r
/-- The sum of the shifts ahead of it, as the machine adds them. -/
def Ch.acc (a : Int) : Ch → Int
  | .shf _ b r => r.acc (wrap64 (a + b))
  | _ => a

theorem find_any (r : Ch) (w : World) (h : r.In w) : Calls Tryz.prog 52 #[r.val] w fun e w' => e = .returned (.tuple #[r.base.val, .int .i64 (r.acc 0)]) ∧ Past w w' := by
  have HS : Hid (Past w w) := Below.refl _ _
  have HI := Lib.hid h
  clear h
  obtain ⟨T, x, hv⟩ := r.shape
  generalize hb : r.base = B
  generalize ha : r.acc 0 = A
  have HV := Lib.hid hv
  have HB := Lib.hid hb
  have HA := Lib.hid ha
  rw [hv]
  clear hb ha
  clear hv
  go_enter Tryz.func52, Tryz.ntmps52
  go_wp2
  go_loopg [0, 4] r.depth (fun k s0 s4 wx => ∃ (q : Ch) (a : Int), k = q.depth ∧ s0 = q.val ∧ s4 = .int .i64 a ∧ Hid (q.base = B ∧ q.acc a = A ∧ q.In wx ∧ Past w wx))
  case atStart => exact ⟨r, 0, rfl, HV.out.symm, rfl, HB.out, HA.out, HI.out, HS.out⟩
  case round =>
    obtain ⟨q, a, hgk, rfl, rfl, hin⟩ := hrel
    have HGK := Lib.hid hgk
    clear hgk
    cases q with
    | code c =>
      have t1 := toShfCode (.int .i64 c)
      have t2 := toFaultCode (.int .i64 c)
      have t3 := toCodeCode (.int .i64 c)
      simp only [valCode]
      go_wp2
      go_ret2
      obtain ⟨h1, h2, _, h4⟩ := hin.out
      subst h1 h2
      exact ⟨rfl, h4⟩
    | flt c a2 =>
      have t1 := toShfFault (.agg #[.int .i64 c, .int .i64 a2])
      have t2 := toFaultFault (.agg #[.int .i64 c, .int .i64 a2])
      have t3 := toCodeFault (.agg #[.int .i64 c, .int .i64 a2])
      simp only [valFlt]
      go_wp2
      go_ret2
      obtain ⟨h1, h2, _, h4⟩ := hin.out
      subst h1 h2
      exact ⟨rfl, h4⟩
    | shf g b q =>
      have t1 := toShfShf (.pointer (some ⟨g, 0, none⟩))
      have HN := Lib.hid (next_shf g b q wr hin.out.2.2.1)
      have hc := hin.out.2.2.1.1.cell 0
      simp at hc
      obtain ⟨T2, x2, hv2⟩ := q.shape
      have HV2 := Lib.hid hv2
      rw [hv2] at HN
      simp only [valShf] at HN ⊢
      clear hv2
      go_wp2_with fail
      refine HN.out.mono ?_
      rintro e w1 ⟨rfl, hp⟩
      have HIN : Hid (q.base = B ∧ q.acc (wrap64 (a + b)) = A ∧ q.In w1 ∧ Past w w1) := by
        obtain ⟨h1, h2, h3, h4⟩ := hin.out
        exact ⟨h1, h2, h3.2.past hp, h4.trans' hp⟩
      clear hp hin
      go_wp2_with fail
      go_roundg q.depth
      case rel => exact ⟨q, _, rfl, HV2.out.symm, rfl, HIN⟩
      case measure => rw [HGK.out]; simp [Ch.depth]

end Go.Proofs.YteflpbkdnebopaaGreatDoor

namespace Go.Proofs.YteflpbkdnebopaaGreatDoor
open Go.RowKit Go.Extern.Stop Go.Stop Go.Extern

/-- The handle of a type. -/
def hdl (t : TypeId) : Value := .pointer (some ⟨13, t, none⟩)
/-- A reflectlite.Value: its type, where its variable lies, its flags. -/
def rv (t : TypeId) (p : Addr) (f : Int) : Value := .agg #[hdl t, .pointer (some p), .int .u64 f]
def rtE (t : TypeId) : Value := .agg #[hdl t]

def compE : Array Value → Sem Value := ReflectliteType.method fun t => do
  Rtype.noPackHeld "Comparable" t
  pure (.bool (← typeInfo t).comparable)

theorem rlm (z : Sem Value) (f : TypeId → Addr → Nat → Nat → Sem Value) (v : Value) :
    ReflectliteValue.method z f #[v] = (do match ← ReflectliteValue.parts v with | none => z | some (t, a, fl) => f t a fl (fl % 32)) := rfl
theorem rls (v x : Value) : ReflectliteValue.set #[v, x] = (do
    let (some (dst, a, fl), some (src, b, _)) := (← ReflectliteValue.parts v, ← ReflectliteValue.parts x)
      | unsupported (.noEntry "extern/(internal/reflectlite.Value).Set.zeroValue")
    if fl / ReflectliteValue.flagAddr % 2 == 0 then unsupported (.noEntry "extern/(internal/reflectlite.Value).Set.unaddressable")
    let val ← loadVar src b
    if ← Rtype.directlyAssignable dst src then storeVar dst a val
    else if ← Rtype.implements dst src then
      if (← Rtype.kind src) == 20 then
        match val with
        | .nilIface => unsupported (.noEntry "extern/reflectlite: a nil value of one interface type handed on as a value of another")
        | _ => storeVar dst a val
      else storeVar dst a (.iface src val)
    else panicString ("reflectlite.Set: value of type " ++ (← Rtype.spelt src) ++ " is not assignable to type " ++ (← Rtype.spelt dst))
    pure (.tuple #[])) := rfl

theorem rmKind (n : Nat) (h : Value) (w : World) : (Go.method (n + 1) 146 (.agg #[h]) "Kind").run Tryz.prog w = .ok (149, h) w := by kernel_rfl
theorem rnKind (n : Nat) (h : Value) (w : World) : (nilAhead (n + 1) 146 (.agg #[h]) "Kind").run Tryz.prog w = .ok (some false) w := by kernel_rfl
theorem rmElem (n : Nat) (h : Value) (w : World) : (Go.method (n + 1) 146 (.agg #[h]) "Elem").run Tryz.prog w = .ok (163, .agg #[h]) w := by kernel_rfl
theorem rnElem (n : Nat) (h : Value) (w : World) : (nilAhead (n + 1) 146 (.agg #[h]) "Elem").run Tryz.prog w = .ok (some false) w := by kernel_rfl
theorem rmImplements (n : Nat) (h : Value) (w : World) : (Go.method (n + 1) 146 (.agg #[h]) "Implements").run Tryz.prog w = .ok (164, .agg #[h]) w := by kernel_rfl
theorem rnImplements (n : Nat) (h : Value) (w : World) : (nilAhead (n + 1) 146 (.agg #[h]) "Implements").run Tryz.prog w = .ok (some false) w := by kernel_rfl
theorem rmAssignableTo (n : Nat) (h : Value) (w : World) : (Go.method (n + 1) 146 (.agg #[h]) "AssignableTo").run Tryz.prog w = .ok (161, .agg #[h]) w := by kernel_rfl
theorem rnAssignableTo (n : Nat) (h : Value) (w : World) : (nilAhead (n + 1) 146 (.agg #[h]) "AssignableTo").run Tryz.prog w = .ok (some false) w := by kernel_rfl
theorem rmComparable (n : Nat) (h : Value) (w : World) : (Go.method (n + 1) 146 (.agg #[h]) "Comparable").run Tryz.prog w = .ok (162, .agg #[h]) w := by kernel_rfl
theorem rnComparable (n : Nat) (h : Value) (w : World) : (nilAhead (n + 1) 146 (.agg #[h]) "Comparable").run Tryz.prog w = .ok (some false) w := by kernel_rfl
theorem rtOfCode (v : Value) (w : World) : (ReflectliteType.typeOf #[.iface 72 v]).run Tryz.prog w = .ok (.iface 146 (rtE 72)) w := by kernel_rfl
theorem rAssCodeCode (w : World) : (ReflectliteType.relation "AssignableTo" ReflectliteType.assignableTo #[rtE 72, .iface 146 (rtE 72)]).run Tryz.prog w = .ok (.bool true) w := by kernel_rfl
theorem rAssFaultCode (w : World) : (ReflectliteType.relation "AssignableTo" ReflectliteType.assignableTo #[rtE 72, .iface 146 (rtE 108)]).run Tryz.prog w = .ok (.bool false) w := by kernel_rfl
theorem rCompCode (w : World) : (compE #[rtE 72]).run Tryz.prog w = .ok (.bool true) w := by kernel_rfl
theorem rtOfFault (v : Value) (w : World) : (ReflectliteType.typeOf #[.iface 108 v]).run Tryz.prog w = .ok (.iface 146 (rtE 108)) w := by kernel_rfl
theorem rAssCodeFault (w : World) : (ReflectliteType.relation "AssignableTo" ReflectliteType.assignableTo #[rtE 108, .iface 146 (rtE 72)]).run Tryz.prog w = .ok (.bool false) w := by kernel_rfl
theorem rAssFaultFault (w : World) : (ReflectliteType.relation "AssignableTo" ReflectliteType.assignableTo #[rtE 108, .iface 146 (rtE 108)]).run Tryz.prog w = .ok (.bool true) w := by kernel_rfl
theorem rCompFault (w : World) : (compE #[rtE 108]).run Tryz.prog w = .ok (.bool true) w := by kernel_rfl
theorem rtOfShf (v : Value) (w : World) : (ReflectliteType.typeOf #[.iface 123 v]).run Tryz.prog w = .ok (.iface 146 (rtE 123)) w := by kernel_rfl
theorem rAssCodeShf (w : World) : (ReflectliteType.relation "AssignableTo" ReflectliteType.assignableTo #[rtE 123, .iface 146 (rtE 72)]).run Tryz.prog w = .ok (.bool false) w := by kernel_rfl
theorem rAssFaultShf (w : World) : (ReflectliteType.relation "AssignableTo" ReflectliteType.assignableTo #[rtE 123, .iface 146 (rtE 108)]).run Tryz.prog w = .ok (.bool false) w := by kernel_rfl
theorem rCompShf (w : World) : (compE #[rtE 123]).run Tryz.prog w = .ok (.bool true) w := by kernel_rfl

/-! ### the target is a variable of type Code -/
theorem rvOfPCode (t : Addr) (w : World) : (ReflectliteValue.unpack (.iface 106 (.pointer (some t)))).run Tryz.prog w = .ok (rv 106 ⟨w.heap.size, 0, none⟩ 150) (w.alloc (.cells #[.pointer (some t)] 106)) := by kernel_rfl
theorem rvTypeCode (a : Addr) (w : World) : (ReflectliteValue.methodAny (ReflectliteValue.valueError "reflectlite.Value.Type" 0) (fun t _ _ _ => ReflectliteType.toType t) #[rv 106 a 150]).run Tryz.prog w = .ok (.iface 146 (rtE 106)) w := by kernel_rfl
theorem rkPCode (w : World) : ((ReflectliteType.abiMethod fun t => (fun a : Nat => Value.int IntKind.u8 (a : Int)) <$> Rtype.kind t) #[hdl 106]).run Tryz.prog w = .ok (.int .u8 22) w := by kernel_rfl
theorem rkCode (w : World) : ((ReflectliteType.abiMethod fun t => (fun a : Nat => Value.int IntKind.u8 (a : Int)) <$> Rtype.kind t) #[hdl 72]).run Tryz.prog w = .ok (.int .u8 2) w := by kernel_rfl
theorem rPartsPCode (a : Addr) (w : World) : (ReflectliteValue.parts (rv 106 a 150)).run Tryz.prog w = .ok (some (106, a, 150)) w := by kernel_rfl
theorem rIsNilCode (a p : Addr) (W : World) (ha : W.cell? a = some (.pointer (some p))) :
    (ReflectliteValue.method (ReflectliteValue.valueError "reflectlite.Value.IsNil" 0) ReflectliteValue.isNil #[rv 106 a 150]).run Tryz.prog W = .ok (.bool false) W := by
  rw [rlm]
  simp only [Sem.run_bind, rPartsPCode, Result.andThen]
  simp [ReflectliteValue.isNil, loadVar, isAgg, underlying, Tryz.underlying106, ha, Result.andThen]
theorem rElemCode (w : World) : (ReflectliteType.method ReflectliteType.elem #[rtE 106]).run Tryz.prog w = .ok (.iface 146 (rtE 72)) w := by kernel_rfl
theorem rImplCode (w : World) : (ReflectliteType.relation "Implements" ReflectliteType.implements_ #[rtE 72, .iface 146 (rtE 34)]).run Tryz.prog w = .ok (.bool true) w := by kernel_rfl
theorem rvOfCode (c : Int) (w : World) : (ReflectliteValue.unpack (.iface 72 (.int .i64 c))).run Tryz.prog w = .ok (rv 72 ⟨w.heap.size, 0, none⟩ 130) (w.alloc (.cells #[.int .i64 c] 72)) := by kernel_rfl
theorem rElemOfCode (w : World) : (Rtype.elem? 106).run Tryz.prog w = .ok (some 72) w := by kernel_rfl
theorem rMkCode (p : Addr) (w : World) : (ReflectliteValue.mk 72 p ReflectliteValue.flagAddr).run Tryz.prog w = .ok (rv 72 p 386) w := by kernel_rfl
theorem rElemVCode (a p : Addr) (W : World) (ha : W.cell? a = some (.pointer (some p))) :
    (ReflectliteValue.method (ReflectliteValue.valueError "reflectlite.Value.Elem" 0) ReflectliteValue.elem #[rv 106 a 150]).run Tryz.prog W = .ok (rv 72 p 386) W := by
  rw [rlm]
  simp only [Sem.run_bind, rPartsPCode, Result.andThen]
  simp [ReflectliteValue.elem, loadVar, isAgg, underlying, Tryz.underlying106, ha, Result.andThen, rElemOfCode, rMkCode]
theorem rPartsCodea (a : Addr) (w : World) : (ReflectliteValue.parts (rv 72 a 386)).run Tryz.prog w = .ok (some (72, a, 386)) w := by kernel_rfl
theorem rPartsCode (a : Addr) (w : World) : (ReflectliteValue.parts (rv 72 a 130)).run Tryz.prog w = .ok (some (72, a, 130)) w := by kernel_rfl
theorem rDirectCode (w : World) : (Rtype.directlyAssignable 72 72).run Tryz.prog w = .ok true w := by kernel_rfl


/-! ### the target is a variable of type Fault -/
theorem rvOfPFault (t : Addr) (w : World) : (ReflectliteValue.unpack (.iface 109 (.pointer (some t)))).run Tryz.prog w = .ok (rv 109 ⟨w.heap.size, 0, none⟩ 150) (w.alloc (.cells #[.pointer (some t)] 109)) := by kernel_rfl
theorem rvTypeFault (a : Addr) (w : World) : (ReflectliteValue.methodAny (ReflectliteValue.valueError "reflectlite.Value.Type" 0) (fun t _ _ _ => ReflectliteType.toType t) #[rv 109 a 150]).run Tryz.prog w = .ok (.iface 146 (rtE 109)) w := by kernel_rfl
theorem rkPFault (w : World) : ((ReflectliteType.abiMethod fun t => (fun a : Nat => Value.int IntKind.u8 (a : Int)) <$> Rtype.kind t) #[hdl 109]).run Tryz.prog w = .ok (.int .u8 22) w := by kernel_rfl
theorem rkFault (w : World) : ((ReflectliteType.abiMethod fun t => (fun a : Nat => Value.int IntKind.u8 (a : Int)) <$> Rtype.kind t) #[hdl 108]).run Tryz.prog w = .ok (.int .u8 25) w := by kernel_rfl
theorem rPartsPFault (a : Addr) (w : World) : (ReflectliteValue.parts (rv 109 a 150)).run Tryz.prog w = .ok (some (109, a, 150)) w := by kernel_rfl
theorem rIsNilFault (a p : Addr) (W : World) (ha : W.cell? a = some (.pointer (some p))) :
    (ReflectliteValue.method (ReflectliteValue.valueError "reflectlite.Value.IsNil" 0) ReflectliteValue.isNil #[rv 109 a 150]).run Tryz.prog W = .ok (.bool false) W := by
  rw [rlm]
  simp only [Sem.run_bind, rPartsPFault, Result.andThen]
  simp [ReflectliteValue.isNil, loadVar, isAgg, underlying, Tryz.underlying109, ha, Result.andThen]
theorem rElemFault (w : World) : (ReflectliteType.method ReflectliteType.elem #[rtE 109]).run Tryz.prog w = .ok (.iface 146 (rtE 108)) w := by kernel_rfl
theorem rImplFault (w : World) : (ReflectliteType.relation "Implements" ReflectliteType.implements_ #[rtE 108, .iface 146 (rtE 34)]).run Tryz.prog w = .ok (.bool true) w := by kernel_rfl
theorem rvOfFault (c a : Int) (w : World) : (ReflectliteValue.unpack (.iface 108 (.agg #[.int .i64 c, .int .i64 a]))).run Tryz.prog w = .ok (rv 108 ⟨w.heap.size, 0, none⟩ 153) (w.alloc (.cells #[.int .i64 c, .int .i64 a] 108)) := by kernel_rfl
theorem rElemOfFault (w : World) : (Rtype.elem? 109).run Tryz.prog w = .ok (some 108) w := by kernel_rfl
theorem rMkFault (p : Addr) (w : World) : (ReflectliteValue.mk 108 p ReflectliteValue.flagAddr).run Tryz.prog w = .ok (rv 108 p 409) w := by kernel_rfl
theorem rElemVFault (a p : Addr) (W : World) (ha : W.cell? a = some (.pointer (some p))) :
    (ReflectliteValue.method (ReflectliteValue.valueError "reflectlite.Value.Elem" 0) ReflectliteValue.elem #[rv 109 a 150]).run Tryz.prog W = .ok (rv 108 p 409) W := by
  rw [rlm]
  simp only [Sem.run_bind, rPartsPFault, Result.andThen]
  simp [ReflectliteValue.elem, loadVar, isAgg, underlying, Tryz.underlying109, ha, Result.andThen, rElemOfFault, rMkFault]
theorem rPartsFaulta (a : Addr) (w : World) : (ReflectliteValue.parts (rv 108 a 409)).run Tryz.prog w = .ok (some (108, a, 409)) w := by kernel_rfl
theorem rPartsFault (a : Addr) (w : World) : (ReflectliteValue.parts (rv 108 a 153)).run Tryz.prog w = .ok (some (108, a, 153)) w := by kernel_rfl
theorem rDirectFault (w : World) : (Rtype.directlyAssignable 108 108).run Tryz.prog w = .ok true w := by kernel_rfl


theorem rSetCode (ta b : Addr) (c : Int) (old : Value) (W : World) (hb : W.cell? b = some (.int .i64 c)) (ht : W.cell? ta = some old) (hf : W.frozen? ta = false) :
    (ReflectliteValue.set #[rv 72 ta 386, rv 72 b 130]).run Tryz.prog W = .ok (.tuple #[]) (W.setCell ta (.int .i64 c)) := by
  rw [rls]
  simp only [Sem.run_bind, rPartsCodea, rPartsCode, Result.andThen]
  simp [ReflectliteValue.flagAddr, loadVar, isAgg, underlying, Tryz.underlying72, hb, Result.andThen, rDirectCode, storeVar, Value.cells, storeCells, Addr.add]
  rw [run_store Tryz.prog W ta _ _ (by rfl)]
  simp [ht, hf]

theorem rSetFault (g b : Nat) (c a : Int) (old : Array Value) (W : World) (hb : Row W b 108 #[.int .i64 c, .int .i64 a]) (ht : Row W g 108 old) (ho : old.size = 2) :
    (ReflectliteValue.set #[rv 108 ⟨g, 0, none⟩ 409, rv 108 ⟨b, 0, none⟩ 153]).run Tryz.prog W = .ok (.tuple #[]) (W.setRow g #[.int .i64 c, .int .i64 a]) := by
  have h1 := run_loadVar_row (P := Tryz.prog) W b _ _ _ _ _ hb Tryz.underlying108 rfl (by kernel_rfl)
  have h2 := run_storeVar_row (P := Tryz.prog) W g _ 108 old #[.int .i64 c, .int .i64 a] ht (by kernel_rfl) (by simp [ho]) (by simp [Value.oneCell'])
  rw [rls]
  simp only [Sem.run_bind, rPartsFaulta, rPartsFault, Result.andThen]
  simp [ReflectliteValue.flagAddr, h1, h2, Result.andThen, rDirectFault]

end Go.Proofs.YteflpbkdnebopaaGreatDoor
