/- Errors of package fault as chains in memory, and closed facts on their methods and type assertions. -/
import Derived.Test.YtdpnfojpeafdhaaDoorRows
import Derived.Test.YtdpnfojpeafdhaaDoorBase
import Derived.LaidEql
import Derived.Stop.Asserts
import Derived.RowKitTokens
import Derived.Deep.QuietTactic
import Derived.BigQuiet
namespace Go.Proofs.YtdpnfojpeafdhaaDoor
open Go.RowKit

/-- An error as this program makes it: a code, a fault, or a block that wraps another error. -/
inductive Ch where
  | code (c : Int)
  | flt (c at' : Int)
  | shf (g : Nat) (b : Int) (r : Ch)

def Ch.val : Ch → Value
  | .code c => .iface 56 (.int .i64 c)
  | .flt c a => .iface 73 (.agg #[.int .i64 c, .int .i64 a])
  | .shf g _ _ => .iface 100 (.pointer (some ⟨g, 0, none⟩))

theorem valCode (c : Int) : (Ch.code c).val = .iface 56 (.int .i64 c) := rfl
theorem valFlt (c a : Int) : (Ch.flt c a).val = .iface 73 (.agg #[.int .i64 c, .int .i64 a]) := rfl
theorem valShf (g : Nat) (b : Int) (r : Ch) : (Ch.shf g b r).val = .iface 100 (.pointer (some ⟨g, 0, none⟩)) := rfl

/-- The blocks of a chain stand in the world. -/
def Ch.In (w : World) : Ch → Prop
  | .code _ => True
  | .flt _ _ => True
  | .shf g b r => Row w g 102 #[.int .i64 b, r.val] ∧ r.In w

theorem Ch.In.past {w w' : World} : ∀ {r : Ch}, r.In w → Past w w' → r.In w'
  | .code _, _, _ => trivial
  | .flt _ _, _, _ => trivial
  | .shf _ _ _, h, hp => ⟨h.1.past hp, Ch.In.past h.2 hp⟩
theorem Ch.In.drewN {w : World} (m : Nat) : ∀ {r : Ch}, r.In w → r.In (w.drewN m)
  | .code _, _ => trivial
  | .flt _ _, _ => trivial
  | .shf _ _ _, h => ⟨h.1, Ch.In.drewN m h.2⟩

/-- How many errors stand ahead of the innermost one. -/
def Ch.depth : Ch → Nat
  | .code _ => 0
  | .flt _ _ => 1
  | .shf _ _ r => r.depth + 2

/-! ### What the assertions find -/
section
variable (v : Value) (xT : TypeId) (w : World)
theorem asUnwCode : (Instr.typeAssert (.iface 56 v) xT 118 true).run Tryd.prog w = .ok (.tuple #[.nilIface, .bool false]) w := run_typeAssert_lacksB Tryd.underlying118 (by kernel_rfl) (by kernel_rfl) v xT w
theorem asUnwFault : (Instr.typeAssert (.iface 73 v) xT 118 true).run Tryd.prog w = .ok (.tuple #[.iface 73 v, .bool true]) w := run_typeAssert_hasB Tryd.underlying118 (by kernel_rfl) v xT w
theorem asUnwShf : (Instr.typeAssert (.iface 100 v) xT 118 true).run Tryd.prog w = .ok (.tuple #[.iface 100 v, .bool true]) w := run_typeAssert_hasB Tryd.underlying118 (by kernel_rfl) v xT w

theorem asManyCode : (Instr.typeAssert (.iface 56 v) xT 130 true).run Tryd.prog w = .ok (.tuple #[.nilIface, .bool false]) w := run_typeAssert_lacksB Tryd.underlying130 (by kernel_rfl) (by kernel_rfl) v xT w

theorem asAsCode : (Instr.typeAssert (.iface 56 v) xT 127 true).run Tryd.prog w = .ok (.tuple #[.nilIface, .bool false]) w := run_typeAssert_lacksB Tryd.underlying127 (by kernel_rfl) (by kernel_rfl) v xT w
theorem asAsFault : (Instr.typeAssert (.iface 73 v) xT 127 true).run Tryd.prog w = .ok (.tuple #[.nilIface, .bool false]) w := run_typeAssert_lacksB Tryd.underlying127 (by kernel_rfl) (by kernel_rfl) v xT w
theorem asAsShf : (Instr.typeAssert (.iface 100 v) xT 127 true).run Tryd.prog w = .ok (.tuple #[.nilIface, .bool false]) w := run_typeAssert_lacksB Tryd.underlying127 (by kernel_rfl) (by kernel_rfl) v xT w
theorem toCodeCode : (Instr.typeAssert (.iface 56 v) xT 56 true).run Tryd.prog w = .ok (.tuple #[v, .bool true]) w := by kernel_rfl
theorem toCodeFault : (Instr.typeAssert (.iface 73 v) xT 56 true).run Tryd.prog w = .ok (.tuple #[.int .i64 0, .bool false]) w := by kernel_rfl
theorem toCodeShf : (Instr.typeAssert (.iface 100 v) xT 56 true).run Tryd.prog w = .ok (.tuple #[.int .i64 0, .bool false]) w := by kernel_rfl
theorem toFaultCode : (Instr.typeAssert (.iface 56 v) xT 73 true).run Tryd.prog w = .ok (.tuple #[.agg #[.int .i64 0, .int .i64 0], .bool false]) w := by kernel_rfl
theorem toFaultFault : (Instr.typeAssert (.iface 73 v) xT 73 true).run Tryd.prog w = .ok (.tuple #[v, .bool true]) w := by kernel_rfl
theorem toFaultShf : (Instr.typeAssert (.iface 100 v) xT 73 true).run Tryd.prog w = .ok (.tuple #[.agg #[.int .i64 0, .int .i64 0], .bool false]) w := by kernel_rfl
theorem toShfCode : (Instr.typeAssert (.iface 56 v) xT 100 true).run Tryd.prog w = .ok (.tuple #[.pointer none, .bool false]) w := by kernel_rfl
theorem toShfFault : (Instr.typeAssert (.iface 73 v) xT 100 true).run Tryd.prog w = .ok (.tuple #[.pointer none, .bool false]) w := by kernel_rfl
theorem toShfShf : (Instr.typeAssert (.iface 100 v) xT 100 true).run Tryd.prog w = .ok (.tuple #[v, .bool true]) w := by kernel_rfl
end

/-! ### Which method a call through the interface reaches -/
section
variable (n : Nat) (w : World)
theorem nuFault (c a : Value) : (nilAhead (n + 1) 73 (.agg #[c, a]) "Unwrap").run Tryd.prog w = .ok (some false) w := by kernel_rfl
theorem muFault (c a : Value) : (method (n + 1) 73 (.agg #[c, a]) "Unwrap").run Tryd.prog w = .ok (92, .agg #[c, a]) w := by kernel_rfl
theorem nuShf (a : Addr) : (nilAhead (n + 1) 100 (.pointer (some a)) "Unwrap").run Tryd.prog w = .ok (some false) w := by kernel_rfl
theorem muShf (a : Addr) : (method (n + 1) 100 (.pointer (some a)) "Unwrap").run Tryd.prog w = .ok (94, .pointer (some a)) w := by kernel_rfl
theorem neCode (c : Value) : (nilAhead (n + 1) 56 c "Error").run Tryd.prog w = .ok (some false) w := by kernel_rfl
theorem meCode (c : Value) : (method (n + 1) 56 c "Error").run Tryd.prog w = .ok (90, c) w := by kernel_rfl
theorem neFault (c a : Value) : (nilAhead (n + 1) 73 (.agg #[c, a]) "Error").run Tryd.prog w = .ok (some false) w := by kernel_rfl
theorem meFault (c a : Value) : (method (n + 1) 73 (.agg #[c, a]) "Error").run Tryd.prog w = .ok (91, .agg #[c, a]) w := by kernel_rfl
theorem neShf (a : Addr) : (nilAhead (n + 1) 100 (.pointer (some a)) "Error").run Tryd.prog w = .ok (some false) w := by kernel_rfl
theorem meShf (a : Addr) : (method (n + 1) 100 (.pointer (some a)) "Error").run Tryd.prog w = .ok (93, .pointer (some a)) w := by kernel_rfl
end

end Go.Proofs.YtdpnfojpeafdhaaDoor
