/- Package internal/reflectlite's entries at the types that errors.As meets here: closed facts, and small laws on the entries that read or write memory. -/
import Derived.Test.YtdpnfojpeafdhaaDoorErr2
import Derived.Deep.LoopGhost
import Derived.Laws.Rows
import Derived.Laws.Tables
namespace Go.Proofs.YtdpnfojpeafdhaaDoor
open Go.RowKit Go.Extern.Stop Go.Stop Go.Extern

/-- The handle of a type. -/
def hdl (t : TypeId) : Value := .pointer (some ⟨2, t, none⟩)
/-- A reflectlite.Value: its type, where its variable lies, its flags. -/
def rv (t : TypeId) (p : Addr) (f : Int) : Value := .agg #[hdl t, .pointer (some p), .int .u64 f]
def rt (t : TypeId) : Value := .agg #[hdl t]

def compE : Array Value → Sem Value := ReflectliteType.method fun t => do
  Rtype.noPackHeld "Comparable" t
  pure (.bool (← typeInfo t).comparable)

theorem rlm (z : Sem Value) (f : TypeId → Addr → Nat → Nat → Sem Value) (v : Value) :
    ReflectliteValue.method z f #[v] = (do match ← ReflectliteValue.parts v with | none => z | some (t, a, fl) => f t a fl (fl % 32)) := rfl
theorem rls (v x : Value) : ReflectliteValue.set #[v, x] = (do
    let (some (dst, a, fl), some (src, b, _)) := (← ReflectliteValue.parts v, ← ReflectliteValue.parts x)
      | unsupported (.noEntry "extern/(internal/reflectlite.Value).Set.zeroValue")
    if fl / ReflectliteValue.flagAddr % 2 == 0 then unsupported (.noEntry "extern/(internal/reflectlite.Value).Set.unaddressable")
    let val ← loadVar src b
    if ← Rtype.directlyAssignable dst src then storeVar dst a val
    else if ← Rtype.implements dst src then
      if (← Rtype.kind src) == 20 then
        match val with
        | .nilIface => unsupported (.noEntry "extern/reflectlite: a nil value of one interface type handed on as a value of another")
        | _ => storeVar dst a val
      else storeVar dst a (.iface src val)
    else panicString ("reflectlite.Set: value of type " ++ (← Rtype.spelt src) ++ " is not assignable to type " ++ (← Rtype.spelt dst))
    pure (.tuple #[])) := rfl

theorem rmKind (n : Nat) (h : Value) (w : World) : (Go.method (n + 1) 122 (.agg #[h]) "Kind").run Tryd.prog w = .ok (87, h) w := by kernel_rfl
theorem rnKind (n : Nat) (h : Value) (w : World) : (nilAhead (n + 1) 122 (.agg #[h]) "Kind").run Tryd.prog w = .ok (some false) w := by kernel_rfl
theorem rmElem (n : Nat) (h : Value) (w : World) : (Go.method (n + 1) 122 (.agg #[h]) "Elem").run Tryd.prog w = .ok (101, .agg #[h]) w := by kernel_rfl
theorem rnElem (n : Nat) (h : Value) (w : World) : (nilAhead (n + 1) 122 (.agg #[h]) "Elem").run Tryd.prog w = .ok (some false) w := by kernel_rfl
theorem rmImplements (n : Nat) (h : Value) (w : World) : (Go.method (n + 1) 122 (.agg #[h]) "Implements").run Tryd.prog w = .ok (102, .agg #[h]) w := by kernel_rfl
theorem rnImplements (n : Nat) (h : Value) (w : World) : (nilAhead (n + 1) 122 (.agg #[h]) "Implements").run Tryd.prog w = .ok (some false) w := by kernel_rfl
theorem rmAssignableTo (n : Nat) (h : Value) (w : World) : (Go.method (n + 1) 122 (.agg #[h]) "AssignableTo").run Tryd.prog w = .ok (99, .agg #[h]) w := by kernel_rfl
theorem rnAssignableTo (n : Nat) (h : Value) (w : World) : (nilAhead (n + 1) 122 (.agg #[h]) "AssignableTo").run Tryd.prog w = .ok (some false) w := by kernel_rfl
theorem rmComparable (n : Nat) (h : Value) (w : World) : (Go.method (n + 1) 122 (.agg #[h]) "Comparable").run Tryd.prog w = .ok (100, .agg #[h]) w := by kernel_rfl
theorem rnComparable (n : Nat) (h : Value) (w : World) : (nilAhead (n + 1) 122 (.agg #[h]) "Comparable").run Tryd.prog w = .ok (some false) w := by kernel_rfl
theorem rtOfCode (v : Value) (w : World) : (ReflectliteType.typeOf #[.iface 56 v]).run Tryd.prog w = .ok (.iface 122 (rt 56)) w := by kernel_rfl
theorem rAssCodeCode (w : World) : (ReflectliteType.relation "AssignableTo" ReflectliteType.assignableTo #[rt 56, .iface 122 (rt 56)]).run Tryd.prog w = .ok (.bool true) w := by kernel_rfl
theorem rAssFaultCode (w : World) : (ReflectliteType.relation "AssignableTo" ReflectliteType.assignableTo #[rt 56, .iface 122 (rt 73)]).run Tryd.prog w = .ok (.bool false) w := by kernel_rfl
theorem rCompCode (w : World) : (compE #[rt 56]).run Tryd.prog w = .ok (.bool true) w := by kernel_rfl
theorem rtOfFault (v : Value) (w : World) : (ReflectliteType.typeOf #[.iface 73 v]).run Tryd.prog w = .ok (.iface 122 (rt 73)) w := by kernel_rfl
theorem rAssCodeFault (w : World) : (ReflectliteType.relation "AssignableTo" ReflectliteType.assignableTo #[rt 73, .iface 122 (rt 56)]).run Tryd.prog w = .ok (.bool false) w := by kernel_rfl
theorem rAssFaultFault (w : World) : (ReflectliteType.relation "AssignableTo" ReflectliteType.assignableTo #[rt 73, .iface 122 (rt 73)]).run Tryd.prog w = .ok (.bool true) w := by kernel_rfl
theorem rCompFault (w : World) : (compE #[rt 73]).run Tryd.prog w = .ok (.bool true) w := by kernel_rfl
theorem rtOfShf (v : Value) (w : World) : (ReflectliteType.typeOf #[.iface 100 v]).run Tryd.prog w = .ok (.iface 122 (rt 100)) w := by kernel_rfl
theorem rAssCodeShf (w : World) : (ReflectliteType.relation "AssignableTo" ReflectliteType.assignableTo #[rt 100, .iface 122 (rt 56)]).run Tryd.prog w = .ok (.bool false) w := by kernel_rfl
theorem rAssFaultShf (w : World) : (ReflectliteType.relation "AssignableTo" ReflectliteType.assignableTo #[rt 100, .iface 122 (rt 73)]).run Tryd.prog w = .ok (.bool false) w := by kernel_rfl
theorem rCompShf (w : World) : (compE #[rt 100]).run Tryd.prog w = .ok (.bool true) w := by kernel_rfl

/-! ### the target is a variable of type Code -/
theorem rvOfPCode (t : Addr) (w : World) : (ReflectliteValue.unpack (.iface 93 (.pointer (some t)))).run Tryd.prog w = .ok (rv 93 ⟨w.heap.size, 0, none⟩ 150) (w.alloc (.cells #[.pointer (some t)] 93)) := by kernel_rfl
theorem rvTypeCode (a : Addr) (w : World) : (ReflectliteValue.methodAny (ReflectliteValue.valueError "reflectlite.Value.Type" 0) (fun t _ _ _ => ReflectliteType.toType t) #[rv 93 a 150]).run Tryd.prog w = .ok (.iface 122 (rt 93)) w := by kernel_rfl
theorem rkPCode (w : World) : ((ReflectliteType.abiMethod fun t => (fun a : Nat => Value.int IntKind.u8 (a : Int)) <$> Rtype.kind t) #[hdl 93]).run Tryd.prog w = .ok (.int .u8 22) w := by kernel_rfl
theorem rkCode (w : World) : ((ReflectliteType.abiMethod fun t => (fun a : Nat => Value.int IntKind.u8 (a : Int)) <$> Rtype.kind t) #[hdl 56]).run Tryd.prog w = .ok (.int .u8 2) w := by kernel_rfl
theorem rPartsPCode (a : Addr) (w : World) : (ReflectliteValue.parts (rv 93 a 150)).run Tryd.prog w = .ok (some (93, a, 150)) w := by kernel_rfl
theorem rIsNilCode (a p : Addr) (W : World) (ha : W.cell? a = some (.pointer (some p))) :
    (ReflectliteValue.method (ReflectliteValue.valueError "reflectlite.Value.IsNil" 0) ReflectliteValue.isNil #[rv 93 a 150]).run Tryd.prog W = .ok (.bool false) W := by
  rw [rlm]
  simp only [Sem.run_bind, rPartsPCode, Result.andThen]
  simp [ReflectliteValue.isNil, loadVar, isAgg, underlying, Tryd.underlying93, ha, Result.andThen]
theorem rElemCode (w : World) : (ReflectliteType.method ReflectliteType.elem #[rt 93]).run Tryd.prog w = .ok (.iface 122 (rt 56)) w := by kernel_rfl
theorem rImplCode (w : World) : (ReflectliteType.relation "Implements" ReflectliteType.implements_ #[rt 56, .iface 122 (rt 28)]).run Tryd.prog w = .ok (.bool true) w := by kernel_rfl
theorem rvOfCode (c : Int) (w : World) : (ReflectliteValue.unpack (.iface 56 (.int .i64 c))).run Tryd.prog w = .ok (rv 56 ⟨w.heap.size, 0, none⟩ 130) (w.alloc (.cells #[.int .i64 c] 56)) := by kernel_rfl
theorem rElemOfCode (w : World) : (Rtype.elem? 93).run Tryd.prog w = .ok (some 56) w := by kernel_rfl
theorem rMkCode (p : Addr) (w : World) : (ReflectliteValue.mk 56 p ReflectliteValue.flagAddr).run Tryd.prog w = .ok (rv 56 p 386) w := by kernel_rfl
theorem rElemVCode (a p : Addr) (W : World) (ha : W.cell? a = some (.pointer (some p))) :
    (ReflectliteValue.method (ReflectliteValue.valueError "reflectlite.Value.Elem" 0) ReflectliteValue.elem #[rv 93 a 150]).run Tryd.prog W = .ok (rv 56 p 386) W := by
  rw [rlm]
  simp only [Sem.run_bind, rPartsPCode, Result.andThen]
  simp [ReflectliteValue.elem, loadVar, isAgg, underlying, Tryd.underlying93, ha, Result.andThen, rElemOfCode, rMkCode]
theorem rPartsCodea (a : Addr) (w : World) : (ReflectliteValue.parts (rv 56 a 386)).run Tryd.prog w = .ok (some (56, a, 386)) w := by kernel_rfl
theorem rPartsCode (a : Addr) (w : World) : (ReflectliteValue.parts (rv 56 a 130)).run Tryd.prog w = .ok (some (56, a, 130)) w := by kernel_rfl
theorem rDirectCode (w : World) : (Rtype.directlyAssignable 56 56).run Tryd.prog w = .ok true w := by kernel_rfl


/-! ### the target is a variable of type Fault -/
theorem rvOfPFault (t : Addr) (w : World) : (ReflectliteValue.unpack (.iface 89 (.pointer (some t)))).run Tryd.prog w = .ok (rv 89 ⟨w.heap.size, 0, none⟩ 150) (w.alloc (.cells #[.pointer (some t)] 89)) := by kernel_rfl
theorem rvTypeFault (a : Addr) (w : World) : (ReflectliteValue.methodAny (ReflectliteValue.valueError "reflectlite.Value.Type" 0) (fun t _ _ _ => ReflectliteType.toType t) #[rv 89 a 150]).run Tryd.prog w = .ok (.iface 122 (rt 89)) w := by kernel_rfl
theorem rkPFault (w : World) : ((ReflectliteType.abiMethod fun t => (fun a : Nat => Value.int IntKind.u8 (a : Int)) <$> Rtype.kind t) #[hdl 89]).run Tryd.prog w = .ok (.int .u8 22) w := by kernel_rfl
theorem rkFault (w : World) : ((ReflectliteType.abiMethod fun t => (fun a : Nat => Value.int IntKind.u8 (a : Int)) <$> Rtype.kind t) #[hdl 73]).run Tryd.prog w = .ok (.int .u8 25) w := by kernel_rfl
theorem rPartsPFault (a : Addr) (w : World) : (ReflectliteValue.parts (rv 89 a 150)).run Tryd.prog w = .ok (some (89, a, 150)) w := by kernel_rfl
theorem rIsNilFault (a p : Addr) (W : World) (ha : W.cell? a = some (.pointer (some p))) :
    (ReflectliteValue.method (ReflectliteValue.valueError "reflectlite.Value.IsNil" 0) ReflectliteValue.isNil #[rv 89 a 150]).run Tryd.prog W = .ok (.bool false) W := by
  rw [rlm]
  simp only [Sem.run_bind, rPartsPFault, Result.andThen]
  simp [ReflectliteValue.isNil, loadVar, isAgg, underlying, Tryd.underlying89, ha, Result.andThen]
theorem rElemFault (w : World) : (ReflectliteType.method ReflectliteType.elem #[rt 89]).run Tryd.prog w = .ok (.iface 122 (rt 73)) w := by kernel_rfl
theorem rImplFault (w : World) : (ReflectliteType.relation "Implements" ReflectliteType.implements_ #[rt 73, .iface 122 (rt 28)]).run Tryd.prog w = .ok (.bool true) w := by kernel_rfl
theorem rvOfFault (c a : Int) (w : World) : (ReflectliteValue.unpack (.iface 73 (.agg #[.int .i64 c, .int .i64 a]))).run Tryd.prog w = .ok (rv 73 ⟨w.heap.size, 0, none⟩ 153) (w.alloc (.cells #[.int .i64 c, .int .i64 a] 73)) := by kernel_rfl
theorem rElemOfFault (w : World) : (Rtype.elem? 89).run Tryd.prog w = .ok (some 73) w := by kernel_rfl
theorem rMkFault (p : Addr) (w : World) : (ReflectliteValue.mk 73 p ReflectliteValue.flagAddr).run Tryd.prog w = .ok (rv 73 p 409) w := by kernel_rfl
theorem rElemVFault (a p : Addr) (W : World) (ha : W.cell? a = some (.pointer (some p))) :
    (ReflectliteValue.method (ReflectliteValue.valueError "reflectlite.Value.Elem" 0) ReflectliteValue.elem #[rv 89 a 150]).run Tryd.prog W = .ok (rv 73 p 409) W := by
  rw [rlm]
  simp only [Sem.run_bind, rPartsPFault, Result.andThen]
  simp [ReflectliteValue.elem, loadVar, isAgg, underlying, Tryd.underlying89, ha, Result.andThen, rElemOfFault, rMkFault]
theorem rPartsFaulta (a : Addr) (w : World) : (ReflectliteValue.parts (rv 73 a 409)).run Tryd.prog w = .ok (some (73, a, 409)) w := by kernel_rfl
theorem rPartsFault (a : Addr) (w : World) : (ReflectliteValue.parts (rv 73 a 153)).run Tryd.prog w = .ok (some (73, a, 153)) w := by kernel_rfl
theorem rDirectFault (w : World) : (Rtype.directlyAssignable 73 73).run Tryd.prog w = .ok true w := by kernel_rfl


theorem rSetCode (ta b : Addr) (c : Int) (old : Value) (W : World) (hb : W.cell? b = some (.int .i64 c)) (ht : W.cell? ta = some old) (hf : W.frozen? ta = false) :
    (ReflectliteValue.set #[rv 56 ta 386, rv 56 b 130]).run Tryd.prog W = .ok (.tuple #[]) (W.setCell ta (.int .i64 c)) := by
  rw [rls]
  simp only [Sem.run_bind, rPartsCodea, rPartsCode, Result.andThen]
  simp [ReflectliteValue.flagAddr, loadVar, isAgg, underlying, Tryd.underlying56, hb, Result.andThen, rDirectCode, storeVar, Value.cells, storeCells, Addr.add]
  rw [run_store Tryd.prog W ta _ _ (by rfl)]
  simp [ht, hf]

theorem rSetFault (g b : Nat) (c a : Int) (old : Array Value) (W : World) (hb : Row W b 73 #[.int .i64 c, .int .i64 a]) (ht : Row W g 73 old) (ho : old.size = 2) :
    (ReflectliteValue.set #[rv 73 ⟨g, 0, none⟩ 409, rv 73 ⟨b, 0, none⟩ 153]).run Tryd.prog W = .ok (.tuple #[]) (W.setRow g #[.int .i64 c, .int .i64 a]) := by
  have h1 := run_loadVar_row (P := Tryd.prog) W b _ _ _ _ _ hb Tryd.underlying73 rfl (by kernel_rfl)
  have h2 := run_storeVar_row (P := Tryd.prog) W g _ 73 old #[.int .i64 c, .int .i64 a] ht (by kernel_rfl) (by simp [ho]) (by simp [Value.oneCell'])
  rw [rls]
  simp only [Sem.run_bind, rPartsFaulta, rPartsFault, Result.andThen]
  simp [ReflectliteValue.flagAddr, h1, h2, Result.andThen, rDirectFault]

end Go.Proofs.YtdpnfojpeafdhaaDoor
