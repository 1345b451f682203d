/- errors.As of the library, by its own text: the target is a variable of type api.Code. errors.As of the library, by its own text: the target is a variable of type api.Code. errors.As of the library, by its own text: the target is a variable of type api.Fault. errors.As of the library, by its own text, at a variable of type api.Code and at one of type api.Fault. Contracts of package fault's readers: Code and At. The law's own functions on errors: code and told, at a fault of package api. -/
import Derived.Test.YteflpbkdnebopaaGreatDoorErrM1
import Derived.Outline
namespace Go.Proofs.YteflpbkdnebopaaGreatDoor
open Go.RowKit Go.Extern.Stop Go.Stop Go.Extern

/-- The number of the code at the end of a chain. -/
def Ch.cd : Ch → Int
  | .code c => c
  | .flt c _ => c
  | .shf _ _ r => r.cd

section
variable (args : Array Value) (w : World)
theorem cfValueOf : (callFunc 66 args).run Tryz.prog w = ((ReflectliteValue.unpack (args.getD 0 (.tuple #[]))).run Tryz.prog w).andThen fun v w' => .ok (.value v) w' := run_callFunc_extern (e := fun args => ReflectliteValue.unpack (args.getD 0 (.tuple #[]))) Tryz.func66 (by kernel_rfl) (by kernel_rfl) (by kernel_rfl) (by kernel_rfl) args w
theorem cfType : (callFunc 67 args).run Tryz.prog w = ((ReflectliteValue.methodAny (ReflectliteValue.valueError "reflectlite.Value.Type" 0) (fun t _ _ _ => ReflectliteType.toType t) args).run Tryz.prog w).andThen fun v w' => .ok (.value v) w' := run_callFunc_extern Tryz.func67 (by kernel_rfl) (by kernel_rfl) (by kernel_rfl) (by kernel_rfl) args w
theorem cfIsNil : (callFunc 68 args).run Tryz.prog w = ((ReflectliteValue.method (ReflectliteValue.valueError "reflectlite.Value.IsNil" 0) ReflectliteValue.isNil args).run Tryz.prog w).andThen fun v w' => .ok (.value v) w' := run_callFunc_extern Tryz.func68 (by kernel_rfl) (by kernel_rfl) (by kernel_rfl) (by kernel_rfl) args w
theorem cfTypeOf : (callFunc 75 args).run Tryz.prog w = ((ReflectliteType.typeOf args).run Tryz.prog w).andThen fun v w' => .ok (.value v) w' := run_callFunc_extern Tryz.func75 (by kernel_rfl) (by kernel_rfl) (by kernel_rfl) (by kernel_rfl) args w
theorem cfVElem : (callFunc 76 args).run Tryz.prog w = ((ReflectliteValue.method (ReflectliteValue.valueError "reflectlite.Value.Elem" 0) ReflectliteValue.elem args).run Tryz.prog w).andThen fun v w' => .ok (.value v) w' := run_callFunc_extern Tryz.func76 (by kernel_rfl) (by kernel_rfl) (by kernel_rfl) (by kernel_rfl) args w
theorem cfSet : (callFunc 77 args).run Tryz.prog w = ((ReflectliteValue.set args).run Tryz.prog w).andThen fun v w' => .ok (.value v) w' := run_callFunc_extern Tryz.func77 (by kernel_rfl) (by kernel_rfl) (by kernel_rfl) (by kernel_rfl) args w
theorem cfKind : (callFunc 149 args).run Tryz.prog w = (((ReflectliteType.abiMethod fun t => (fun a : Nat => Value.int IntKind.u8 (a : Int)) <$> Rtype.kind t) args).run Tryz.prog w).andThen fun v w' => .ok (.value v) w' := run_callFunc_extern (e := ReflectliteType.abiMethod fun t => do pure (.int .u8 (← Rtype.kind t))) Tryz.func149 (by kernel_rfl) (by kernel_rfl) (by kernel_rfl) (by kernel_rfl) args w
theorem cfAss : (callFunc 161 args).run Tryz.prog w = ((ReflectliteType.relation "AssignableTo" ReflectliteType.assignableTo args).run Tryz.prog w).andThen fun v w' => .ok (.value v) w' := run_callFunc_extern Tryz.func161 (by kernel_rfl) (by kernel_rfl) (by kernel_rfl) (by kernel_rfl) args w
theorem cfComp : (callFunc 162 args).run Tryz.prog w = ((compE args).run Tryz.prog w).andThen fun v w' => .ok (.value v) w' := run_callFunc_extern Tryz.func162 (by kernel_rfl) (by kernel_rfl) (by kernel_rfl) (by kernel_rfl) args w
theorem cfElem : (callFunc 163 args).run Tryz.prog w = ((ReflectliteType.method ReflectliteType.elem args).run Tryz.prog w).andThen fun v w' => .ok (.value v) w' := run_callFunc_extern Tryz.func163 (by kernel_rfl) (by kernel_rfl) (by kernel_rfl) (by kernel_rfl) args w
theorem cfImpl : (callFunc 164 args).run Tryz.prog w = ((ReflectliteType.relation "Implements" ReflectliteType.implements_ args).run Tryz.prog w).andThen fun v w' => .ok (.value v) w' := run_callFunc_extern Tryz.func164 (by kernel_rfl) (by kernel_rfl) (by kernel_rfl) (by kernel_rfl) args w
end

end Go.Proofs.YteflpbkdnebopaaGreatDoor

namespace Go.Proofs.YteflpbkdnebopaaGreatDoor
open Go.RowKit Go.Extern.Stop Go.Stop Go.Extern

structure AsC (w : World) (g b h : Nat) (x : Int) : Prop where
  var : Row w g 72 #[.int .i64 x]
  val : Row w b 106 #[.pointer (some ⟨g, 0, none⟩)]
  box : Row w h 129 #[hdl 106, .pointer (some ⟨b, 0, none⟩), .int .u64 150]

theorem AsC.past {w w' : World} {g b h : Nat} {x : Int} (k : AsC w g b h x) (hp : Past w w') : AsC w' g b h x := ⟨k.var.past hp, k.val.past hp, k.box.past hp⟩

set_option maxHeartbeats 2000000 in
theorem asCode_loop (r : Ch) (g b : Nat) (x : Int) (w : World) (hI : r.In w) (hg : Row w g 72 #[.int .i64 x]) (hb : Row w b 106 #[.pointer (some ⟨g, 0, none⟩)]) :
    Calls Tryz.prog 69 #[r.val, .iface 106 (.pointer (some ⟨g, 0, none⟩)), rv 106 ⟨b, 0, none⟩ 150, .iface 146 (rtE 72)] w
      fun e w' => e = .returned (.bool true) ∧ Row w' g 72 #[.int .i64 r.cd] ∧ w.grownBy w' (some g) := by
  have c22 := cfTypeOf
  have c18 := cfValueOf
  have c26 := cfVElem
  have c27 := cfSet
  have c71 := cfAss
  have m1 := rmAssignableTo
  have n1 := rnAssignableTo
  simp only [rv, rtE]
  have hlt := hg.lt
  have HG := Lib.hid hg
  have HB := Lib.hid hb
  have HI := Lib.hid hI
  clear hI hg hb
  generalize hcd : r.cd = C
  have HC := Lib.hid hcd
  obtain ⟨T, y, hv⟩ := r.shape
  have HV := Lib.hid hv
  rw [hv]
  clear hv hcd
  go_enter Tryz.func69, Tryz.ntmps69
  go_wp2_with fail
  have H0 : Hid (r.cd = C ∧ r.In (w.alloc (.cells #[hdl 106, .pointer (some ⟨b, 0, none⟩), .int .u64 150] 129)) ∧ AsC (w.alloc (.cells #[hdl 106, .pointer (some ⟨b, 0, none⟩), .int .u64 150] 129)) g b w.heap.size x ∧
      Past w (w.alloc (.cells #[hdl 106, .pointer (some ⟨b, 0, none⟩), .int .u64 150] 129))) := by
    have hp : Past w (w.alloc (.cells #[hdl 106, .pointer (some ⟨b, 0, none⟩), .int .u64 150] 129)) := (Below.refl _ _).alloc (Nat.le_refl _) _
    exact ⟨HC.out, HI.out.past hp, ⟨HG.out.past hp, HB.out.past hp, Row.new _ _ _⟩, hp⟩
  go_loopg [0] r.depth (fun k s0 wx => ∃ q : Ch, k = q.depth ∧ s0 = q.val ∧ Hid (q.cd = C ∧ q.In wx ∧ AsC wx g b w.heap.size x ∧ Past w wx))
  case atStart => exact ⟨r, rfl, HV.out.symm, H0⟩
  case round =>
    clear H0
    obtain ⟨q, hgk, rfl, hin⟩ := hrel
    have HGK := Lib.hid hgk
    clear hgk HG HB HI HC HV
    cases q with
    | code c =>
      have r1 := rtOfCode (.int .i64 c)
      have a1 := rAssCodeCode
      have hA := hin.out.2.2.1
      have l0 := hA.box.cell 0
      have l1 := hA.box.cell 1
      have l2 := hA.box.cell 2
      simp at l0 l1 l2
      have hbl := hA.box.lt
      have hx := rElemVCode ⟨b, 0, none⟩ ⟨g, 0, none⟩ wr (by rw [hA.val.cell 0]; rfl)
      have hv := rvOfCode c wr
      have hs := rSetCode ⟨g, 0, none⟩ ⟨wr.heap.size, 0, none⟩ c (.int .i64 x) (wr.alloc (.cells #[.int .i64 c] 72)) (by rw [(Row.new _ _ _).cell 0]; rfl) (by rw [(hA.var.alloc _).cell 0]; rfl) ((hA.var.alloc _).fr 0)
      simp only [rtE, rv] at r1 a1 hx hv hs
      clear hA
      simp only [valCode]
      go_wp2_with fail
      go_ret
      obtain ⟨h1, _, h3, h4⟩ := hin.out
      subst h1
      refine ⟨rfl, (h3.var.alloc _).set 0 _, only_setCell (only_of_past (h4.trans' ((Below.refl _ _).alloc (Nat.le_refl _) _)) _) (.inl rfl) _⟩
    | flt c a2 =>
      have r1 := rtOfFault (.agg #[.int .i64 c, .int .i64 a2])
      have a1 := rAssCodeFault
      have s1 := asAsFault (.agg #[.int .i64 c, .int .i64 a2])
      have u1 := asUnwFault (.agg #[.int .i64 c, .int .i64 a2])
      have n2 := fun n w => nuFault n w (.int .i64 c) (.int .i64 a2)
      have m2 := fun n w => muFault n w (.int .i64 c) (.int .i64 a2)
      simp only [rtE] at r1 a1
      simp only [valFlt]
      go_wp2_with fail
      refine (unwFault_any c a2 _).mono ?_
      rintro e w1 ⟨rfl, hp⟩
      have HIN : Hid ((Ch.code c).cd = C ∧ (Ch.code c).In w1 ∧ AsC w1 g b w.heap.size x ∧ Past w w1) := by
        obtain ⟨h1, _, h3, h4⟩ := hin.out
        exact ⟨h1, trivial, h3.past hp, h4.trans' hp⟩
      clear hp hin
      go_wp2_with fail
      go_roundg 0
      case rel => exact ⟨.code c, rfl, rfl, HIN⟩
      case measure => rw [HGK.out]; simp [Ch.depth]
    | shf g2 p q =>
      have r1 := rtOfShf (.pointer (some ⟨g2, 0, none⟩))
      have a1 := rAssCodeShf
      have s1 := asAsShf (.pointer (some ⟨g2, 0, none⟩))
      have u1 := asUnwShf (.pointer (some ⟨g2, 0, none⟩))
      have n2 := fun n w => nuShf n w ⟨g2, 0, none⟩
      have m2 := fun n w => muShf n w ⟨g2, 0, none⟩
      simp only [rtE] at r1 a1
      have HU := Lib.hid (unwShf_any g2 p q wr hin.out.2.1)
      obtain ⟨T2, x2, hv2⟩ := q.shape
      have HV2 := Lib.hid hv2
      rw [hv2] at HU
      clear hv2
      simp only [valShf]
      go_wp2_with fail
      refine HU.out.mono ?_
      rintro e w1 ⟨rfl, rfl⟩
      go_wp2_with fail
      go_roundg q.depth
      case rel => exact ⟨q, rfl, HV2.out.symm, hin.out.1, hin.out.2.1.2, hin.out.2.2⟩
      case measure => rw [HGK.out]; simp [Ch.depth]

end Go.Proofs.YteflpbkdnebopaaGreatDoor

namespace Go.Proofs.YteflpbkdnebopaaGreatDoor
open Go.RowKit Go.Extern.Stop Go.Stop Go.Extern

theorem only_setRow {a w : World} {g : Nat} (h : a.grownBy w (some g)) (cs : Array Value) : a.grownBy (w.setRow g cs) (some g) :=
  ⟨h.os, h.tape, h.output, by simpa using h.size, fun i hi hne => (setRow_other _ _ _ _ (fun e => hne (by rw [e]))).trans (h.block i hi hne)⟩

/-- What errors.As comes to: the fault is found, or there is only a code. -/
def AsFPost (w : World) (g : Nat) (B : Ch) (x : Array Value) (e : Ending) (w' : World) : Prop :=
  (∃ c a, B = .flt c a ∧ e = .returned (.bool true) ∧ Row w' g 108 #[.int .i64 c, .int .i64 a] ∧ w.grownBy w' (some g)) ∨
  ∃ c, B = .code c ∧ e = .returned (.bool false) ∧ Row w' g 108 x ∧ Past w w'

structure AsF (w : World) (g b h : Nat) (x : Array Value) : Prop where
  var : Row w g 108 x
  val : Row w b 109 #[.pointer (some ⟨g, 0, none⟩)]
  box : Row w h 129 #[hdl 109, .pointer (some ⟨b, 0, none⟩), .int .u64 150]

theorem AsF.past {w w' : World} {g b h : Nat} {x : Array Value} (k : AsF w g b h x) (hp : Past w w') : AsF w' g b h x := ⟨k.var.past hp, k.val.past hp, k.box.past hp⟩

set_option maxHeartbeats 2000000 in
theorem asFault_loop (r : Ch) (g b : Nat) (x : Array Value) (w : World) (hI : r.In w) (hg : Row w g 108 x) (hx2 : x.size = 2) (hb : Row w b 109 #[.pointer (some ⟨g, 0, none⟩)]) :
    Calls Tryz.prog 69 #[r.val, .iface 109 (.pointer (some ⟨g, 0, none⟩)), rv 109 ⟨b, 0, none⟩ 150, .iface 146 (rtE 108)] w
      (AsFPost w g r.base x) := by
  have c22 := cfTypeOf
  have c18 := cfValueOf
  have c26 := cfVElem
  have c27 := cfSet
  have c71 := cfAss
  have m1 := rmAssignableTo
  have n1 := rnAssignableTo
  simp only [rv, rtE]
  have hlt := hg.lt
  have HX2 := Lib.hid hx2
  clear hx2
  have HG := Lib.hid hg
  have HB := Lib.hid hb
  have HI := Lib.hid hI
  clear hI hg hb
  generalize hcd : r.base = C
  have HC := Lib.hid hcd
  obtain ⟨T, y, hv⟩ := r.shape
  have HV := Lib.hid hv
  rw [hv]
  clear hv hcd
  go_enter Tryz.func69, Tryz.ntmps69
  go_wp2_with fail
  have H0 : Hid (r.base = C ∧ r.In (w.alloc (.cells #[hdl 109, .pointer (some ⟨b, 0, none⟩), .int .u64 150] 129)) ∧ AsF (w.alloc (.cells #[hdl 109, .pointer (some ⟨b, 0, none⟩), .int .u64 150] 129)) g b w.heap.size x ∧
      Past w (w.alloc (.cells #[hdl 109, .pointer (some ⟨b, 0, none⟩), .int .u64 150] 129))) := by
    have hp : Past w (w.alloc (.cells #[hdl 109, .pointer (some ⟨b, 0, none⟩), .int .u64 150] 129)) := (Below.refl _ _).alloc (Nat.le_refl _) _
    exact ⟨HC.out, HI.out.past hp, ⟨HG.out.past hp, HB.out.past hp, Row.new _ _ _⟩, hp⟩
  go_loopg [0] r.depth (fun k s0 wx => ∃ q : Ch, k = q.depth ∧ s0 = q.val ∧ Hid (q.base = C ∧ q.In wx ∧ AsF wx g b w.heap.size x ∧ Past w wx))
  case atStart => exact ⟨r, rfl, HV.out.symm, H0⟩
  case round =>
    clear H0
    obtain ⟨q, hgk, rfl, hin⟩ := hrel
    have HGK := Lib.hid hgk
    clear hgk HG HB HI HC HV
    cases q with
    | code c =>
      have r1 := rtOfCode (.int .i64 c)
      have a1 := rAssFaultCode
      have s1 := asAsCode (.int .i64 c)
      have u1 := asUnwCode (.int .i64 c)
      have v1 := asManyCode (.int .i64 c)
      simp only [rtE] at r1 a1
      simp only [valCode]
      go_wp2_with fail
      go_ret
      obtain ⟨h1, _, h3, h4⟩ := hin.out
      exact .inr ⟨c, h1.symm, rfl, h3.var, h4⟩
    | flt c a2 =>
      have r1 := rtOfFault (.agg #[.int .i64 c, .int .i64 a2])
      have a1 := rAssFaultFault
      have hA := hin.out.2.2.1
      have l0 := hA.box.cell 0
      have l1 := hA.box.cell 1
      have l2 := hA.box.cell 2
      simp at l0 l1 l2
      have hbl := hA.box.lt
      have hx := rElemVFault ⟨b, 0, none⟩ ⟨g, 0, none⟩ wr (by rw [hA.val.cell 0]; rfl)
      have hv := rvOfFault c a2 wr
      have hs := rSetFault g wr.heap.size c a2 x (wr.alloc (.cells #[.int .i64 c, .int .i64 a2] 108)) (Row.new _ _ _) (hA.var.alloc _) HX2.out
      simp only [rtE, rv] at r1 a1 hx hv hs
      clear hA
      simp only [valFlt]
      go_wp2_with fail
      go_ret
      obtain ⟨h1, _, h3, h4⟩ := hin.out
      have h5 := h3.var.alloc (.cells #[.int .i64 c, .int .i64 a2] 108)
      exact .inl ⟨c, a2, h1.symm, rfl, setRow_heap _ _ _ _ _ _ h5, only_setRow (only_of_past (h4.trans' ((Below.refl _ _).alloc (Nat.le_refl _) _)) _) _⟩
    | shf g2 p q =>
      have r1 := rtOfShf (.pointer (some ⟨g2, 0, none⟩))
      have a1 := rAssFaultShf
      have s1 := asAsShf (.pointer (some ⟨g2, 0, none⟩))
      have u1 := asUnwShf (.pointer (some ⟨g2, 0, none⟩))
      have n2 := fun n w => nuShf n w ⟨g2, 0, none⟩
      have m2 := fun n w => muShf n w ⟨g2, 0, none⟩
      simp only [rtE] at r1 a1
      have HU := Lib.hid (unwShf_any g2 p q wr hin.out.2.1)
      obtain ⟨T2, x2, hv2⟩ := q.shape
      have HV2 := Lib.hid hv2
      rw [hv2] at HU
      clear hv2
      simp only [valShf]
      go_wp2_with fail
      refine HU.out.mono ?_
      rintro e w1 ⟨rfl, rfl⟩
      go_wp2_with fail
      go_roundg q.depth
      case rel => exact ⟨q, rfl, HV2.out.symm, hin.out.1, hin.out.2.1.2, hin.out.2.2⟩
      case measure => rw [HGK.out]; simp [Ch.depth]

end Go.Proofs.YteflpbkdnebopaaGreatDoor

namespace Go.Proofs.YteflpbkdnebopaaGreatDoor
open Go.RowKit Go.Extern.Stop Go.Stop Go.Extern

/-- The library's own variable errors.errorType holds the handle of the type error. -/
def GlobE (w : World) : Prop := w.cell? ⟨0, 0, none⟩ = some (.iface 146 (rtE 34))
theorem GlobE.past {w w' : World} (h : GlobE w) (hp : Past w w') : GlobE w' := (hp.cell (cell_lt h)).trans h
theorem GlobE.drewN {w : World} (h : GlobE w) (n : Nat) : GlobE (w.drewN n) := h

theorem asNil_any (t : Value) (w : World) : Calls Tryz.prog 53 #[.nilIface, t] w fun e w' => e = .returned (.bool false) ∧ w = w' := by
  go_enter Tryz.func53, Tryz.ntmps53
  go_wp2
  go_ret
  exact ⟨rfl, rfl⟩

set_option maxHeartbeats 2000000 in
theorem asCode_any (r : Ch) (g : Nat) (x : Int) (w : World) (hI : r.In w) (hG : GlobE w) (hg : Row w g 72 #[.int .i64 x]) :
    Calls Tryz.prog 53 #[r.val, .iface 106 (.pointer (some ⟨g, 0, none⟩))] w
      fun e w' => e = .returned (.bool true) ∧ Row w' g 72 #[.int .i64 r.cd] ∧ w.grownBy w' (some g) := by
  have c18 := cfValueOf
  have c19 := cfType
  have c20 := cfIsNil
  have c43 := cfKind
  have c73 := cfElem
  have c74 := cfImpl
  have m1 := rmKind
  have n1 := rnKind
  have m2 := rmElem
  have n2 := rnElem
  have m3 := rmImplements
  have n3 := rnImplements
  have v1 := rvOfPCode ⟨g, 0, none⟩ w
  have t1 := rvTypeCode ⟨w.heap.size, 0, none⟩
  have k1 := rkPCode
  have k2 := rkCode
  have e1 := rElemCode
  have i1 := rImplCode
  have hlt := cell_lt hG
  simp only at hlt
  have hp1 : Past w (w.alloc (.cells #[.pointer (some ⟨g, 0, none⟩)] 106)) := (Below.refl _ _).alloc (Nat.le_refl _) _
  have hp2 : Past w ((w.alloc (.cells #[.pointer (some ⟨g, 0, none⟩)] 106)).alloc (.cells #[hdl 106, .pointer (some ⟨w.heap.size, 0, none⟩), .int .u64 150] 129)) := hp1.alloc (by simp) _
  have hb := (Row.new w 106 #[.pointer (some ⟨g, 0, none⟩)]).alloc (.cells #[hdl 106, .pointer (some ⟨w.heap.size, 0, none⟩), .int .u64 150] 129)
  have hn := rIsNilCode ⟨w.heap.size, 0, none⟩ ⟨g, 0, none⟩ ((w.alloc (.cells #[.pointer (some ⟨g, 0, none⟩)] 106)).alloc (.cells #[hdl 106, .pointer (some ⟨w.heap.size, 0, none⟩), .int .u64 150] 129)) (by rw [hb.cell 0]; rfl)
  have hG2 : ((w.alloc (.cells #[.pointer (some ⟨g, 0, none⟩)] 106)).alloc (.cells #[hdl 106, .pointer (some ⟨w.heap.size, 0, none⟩), .int .u64 150] 129)).cell? ⟨0, 0, none⟩ = _ := (hp2.cell hlt).trans hG
  have HL := Lib.hid (asCode_loop r g w.heap.size x _ (hI.past hp2) (hg.past hp2) hb)
  have HP := Lib.hid hp2
  clear hp1 hp2 hb hI hg hG
  simp only [rv, rtE, hdl] at v1 t1 k1 k2 e1 i1 hn HL hG2
  obtain ⟨T, y, hv⟩ := r.shape
  rw [hv] at HL ⊢
  clear hv
  go_enter Tryz.func53, Tryz.ntmps53
  go_wp2_with fail
  refine HL.out.mono ?_
  rintro e w1 ⟨rfl, h1, h2⟩
  have HF := Lib.hid (And.intro h1 (only_trans (only_of_past HP.out _) h2))
  clear h1 h2
  go_wp2_with fail
  go_ret
  exact ⟨rfl, HF.out⟩

set_option maxHeartbeats 2000000 in
theorem asFault_any (r : Ch) (g : Nat) (x : Array Value) (w : World) (hI : r.In w) (hG : GlobE w) (hg : Row w g 108 x) (hx2 : x.size = 2) :
    Calls Tryz.prog 53 #[r.val, .iface 109 (.pointer (some ⟨g, 0, none⟩))] w
      (AsFPost w g r.base x) := by
  have c18 := cfValueOf
  have c19 := cfType
  have c20 := cfIsNil
  have c43 := cfKind
  have c73 := cfElem
  have c74 := cfImpl
  have m1 := rmKind
  have n1 := rnKind
  have m2 := rmElem
  have n2 := rnElem
  have m3 := rmImplements
  have n3 := rnImplements
  have v1 := rvOfPFault ⟨g, 0, none⟩ w
  have t1 := rvTypeFault ⟨w.heap.size, 0, none⟩
  have k1 := rkPFault
  have k2 := rkFault
  have e1 := rElemFault
  have i1 := rImplFault
  have hlt := cell_lt hG
  simp only at hlt
  have hp1 : Past w (w.alloc (.cells #[.pointer (some ⟨g, 0, none⟩)] 109)) := (Below.refl _ _).alloc (Nat.le_refl _) _
  have hp2 : Past w ((w.alloc (.cells #[.pointer (some ⟨g, 0, none⟩)] 109)).alloc (.cells #[hdl 109, .pointer (some ⟨w.heap.size, 0, none⟩), .int .u64 150] 129)) := hp1.alloc (by simp) _
  have hb := (Row.new w 109 #[.pointer (some ⟨g, 0, none⟩)]).alloc (.cells #[hdl 109, .pointer (some ⟨w.heap.size, 0, none⟩), .int .u64 150] 129)
  have hn := rIsNilFault ⟨w.heap.size, 0, none⟩ ⟨g, 0, none⟩ ((w.alloc (.cells #[.pointer (some ⟨g, 0, none⟩)] 109)).alloc (.cells #[hdl 109, .pointer (some ⟨w.heap.size, 0, none⟩), .int .u64 150] 129)) (by rw [hb.cell 0]; rfl)
  have hG2 : ((w.alloc (.cells #[.pointer (some ⟨g, 0, none⟩)] 109)).alloc (.cells #[hdl 109, .pointer (some ⟨w.heap.size, 0, none⟩), .int .u64 150] 129)).cell? ⟨0, 0, none⟩ = _ := (hp2.cell hlt).trans hG
  have HL := Lib.hid (asFault_loop r g w.heap.size x _ (hI.past hp2) (hg.past hp2) hx2 hb)
  have HP := Lib.hid hp2
  clear hp1 hp2 hb hI hg hG
  simp only [rv, rtE, hdl] at v1 t1 k1 k2 e1 i1 hn HL hG2
  obtain ⟨T, y, hv⟩ := r.shape
  rw [hv] at HL ⊢
  clear hv
  go_enter Tryz.func53, Tryz.ntmps53
  go_wp2_with fail
  refine HL.out.mono ?_
  rintro e w1 (⟨c, a, hb, rfl, h1, h2⟩ | ⟨c, hb, rfl, h1, h2⟩)
  · have HF := Lib.hid (And.intro hb (And.intro h1 (only_trans (only_of_past HP.out _) h2)))
    clear h1 h2 hb
    go_wp2_with fail
    go_ret
    exact .inl ⟨c, a, HF.out.1, rfl, HF.out.2⟩
  · have HF := Lib.hid (And.intro hb (And.intro h1 (HP.out.trans' h2)))
    clear h1 h2 hb
    go_wp2_with fail
    go_ret
    exact .inr ⟨c, HF.out.1, rfl, HF.out.2⟩

end Go.Proofs.YteflpbkdnebopaaGreatDoor

namespace Go.Proofs.YteflpbkdnebopaaGreatDoor
open Go.RowKit Go.Extern.Stop Go.Stop Go.Extern

theorem Ch.cd_base (r : Ch) : r.base.cd = r.cd := by
  induction r with
  | code => rfl
  | flt => rfl
  | shf g b r ih => exact ih
theorem Ch.base_in (r : Ch) (w : World) : r.base.In w := by
  induction r with
  | code => trivial
  | flt => trivial
  | shf g b r ih => exact ih
theorem Ch.base_base (r : Ch) : r.base.base = r.base := by
  induction r with
  | code => rfl
  | flt => rfl
  | shf g b r ih => exact ih

theorem find_nil (w : World) : Calls Tryz.prog 52 #[.nilIface] w fun e w' => e = .returned (.tuple #[.nilIface, .int .i64 0]) ∧ w = w' := by
  go_enter Tryz.func52, Tryz.ntmps52
  go_wp2
  refine wp_loop_rounds 1 ?_
  rw [rounds_succ]
  go_wp2
  go_ret2
  exact ⟨rfl, rfl⟩

theorem code_nil (w : World) : Calls Tryz.prog 27 #[.nilIface] w fun e w' => e = .returned (.tuple #[.int .i64 0, .bool false]) ∧ Past w w' := by
  go_enter Tryz.func27, Tryz.ntmps27
  go_wp2_with fail
  refine (find_nil _).mono ?_
  rintro e w1 ⟨rfl, rfl⟩
  go_wp2_with fail
  refine (asNil_any _ _).mono ?_
  rintro e w1 ⟨rfl, rfl⟩
  go_wp2_with fail
  go_ret2
  exact ⟨rfl, (Below.refl _ _).alloc (Nat.le_refl _) _⟩

theorem code_any (r : Ch) (w : World) (hI : r.In w) (hG : GlobE w) : Calls Tryz.prog 27 #[r.val] w fun e w' => e = .returned (.tuple #[.int .i64 r.cd, .bool true]) ∧ Past w w' := by
  have HF := Lib.hid (find_any r w hI)
  have HG := Lib.hid hG
  have HB : Hid (r.base.cd = r.cd) := r.cd_base
  have HBI : Hid (∀ W, r.base.In W) := r.base_in
  generalize r.base = B at HF HB HBI
  generalize r.acc 0 = A at HF
  obtain ⟨T, y, hv⟩ := r.shape
  rw [hv] at HF ⊢
  clear hv hI hG
  go_enter Tryz.func27, Tryz.ntmps27
  go_wp2_with fail
  refine HF.out.mono ?_
  rintro e w1 ⟨rfl, hp⟩
  have HP := Lib.hid hp
  clear hp
  have h1 : Past w1 (w1.alloc (.cells #[.int .i64 0] 72)) := (Below.refl _ _).alloc (Nat.le_refl _) _
  have HA := Lib.hid (asCode_any B w1.heap.size 0 _ (HBI.out _) (HG.out.past (HP.out.trans' h1)) (Row.new w1 _ _))
  clear h1
  rw [HB.out] at HA
  obtain ⟨T2, y2, hv2⟩ := B.shape
  rw [hv2] at HA ⊢
  clear hv2
  go_wp2_with fail
  refine HA.out.mono ?_
  rintro e w2 ⟨rfl, h2, h3⟩
  have hc := h2.cell 0
  simp at hc
  have HP2 : Hid (Past w w2) := past_of_only (HP.out.trans' ((Below.refl _ _).alloc (Nat.le_refl _) _)) h3 (by
    have := HP.out.size
    simp
    omega) HP.out.size
  clear h2 h3
  go_wp2_with fail
  go_ret2
  exact ⟨rfl, HP2.out⟩

theorem at_nil (w : World) : Calls Tryz.prog 28 #[.nilIface] w fun e w' => e = .returned (.tuple #[.int .i64 0, .bool false]) ∧ Past w w' := by
  go_enter Tryz.func28, Tryz.ntmps28
  go_wp2_with fail
  refine (find_nil _).mono ?_
  rintro e w1 ⟨rfl, rfl⟩
  go_wp2_with fail
  refine (asNil_any _ _).mono ?_
  rintro e w1 ⟨rfl, rfl⟩
  go_wp2_with fail
  go_ret2
  exact ⟨rfl, (Below.refl _ _).alloc (Nat.le_refl _) _⟩

/-- What At answers: the offset with the shifts ahead of it, or nothing. -/
def atVal (r : Ch) : Value :=
  match r.base with
  | .flt _ a => .tuple #[.int .i64 (wrap64 (a + r.acc 0)), .bool true]
  | _ => .tuple #[.int .i64 0, .bool false]

theorem at_any (r : Ch) (w : World) (hI : r.In w) (hG : GlobE w) : Calls Tryz.prog 28 #[r.val] w fun e w' => e = .returned (atVal r) ∧ Past w w' := by
  have HF := Lib.hid (find_any r w hI)
  have HG := Lib.hid hG
  have HBI : Hid (∀ W, r.base.In W) := r.base_in
  have HBB : Hid (r.base.base = r.base) := r.base_base
  generalize hav : atVal r = av
  have HV : Hid (atVal r = av) := hav
  clear hav
  have HV2 : Hid ((∀ c a, r.base = .flt c a → av = .tuple #[.int .i64 (wrap64 (a + r.acc 0)), .bool true]) ∧ ∀ c, r.base = .code c → av = .tuple #[.int .i64 0, .bool false]) := by
    refine ⟨fun c a h => ?_, fun c h => ?_⟩ <;> (rw [← HV.out]; unfold atVal; rw [h])
  clear HV
  generalize r.base = B at HF HBI HV2 HBB
  generalize r.acc 0 = A at HF HV2
  obtain ⟨T, y, hv⟩ := r.shape
  rw [hv] at HF ⊢
  clear hv hI hG
  go_enter Tryz.func28, Tryz.ntmps28
  go_wp2_with fail
  refine HF.out.mono ?_
  rintro e w1 ⟨rfl, hp⟩
  have HP := Lib.hid hp
  clear hp
  have h1 : Past w1 (w1.alloc (.cells #[.int .i64 0, .int .i64 0] 108)) := (Below.refl _ _).alloc (Nat.le_refl _) _
  have HA := Lib.hid (asFault_any B w1.heap.size _ _ (HBI.out _) (HG.out.past (HP.out.trans' h1)) (Row.new w1 _ _) rfl)
  clear h1
  rw [HBB.out] at HA
  obtain ⟨T2, y2, hv2⟩ := B.shape
  rw [hv2] at HA ⊢
  clear hv2
  go_wp2_with fail
  refine HA.out.mono ?_
  rintro e w2 (⟨c, a, hb, rfl, h2, h3⟩ | ⟨c, hb, rfl, h2, h3⟩)
  · have hc := h2.cell 1
    simp at hc
    have HP2 : Hid (Past w w2) := past_of_only (HP.out.trans' ((Below.refl _ _).alloc (Nat.le_refl _) _)) h3 (by
      have := HP.out.size
      simp
      omega) HP.out.size
    have HAV := Lib.hid (HV2.out.1 c a hb)
    clear h2 h3 hb
    go_wp2_with fail
    go_ret2
    exact ⟨by rw [HAV.out]; rfl, HP2.out⟩
  · have HP2 : Hid (Past w w2) := (HP.out.trans' ((Below.refl _ _).alloc (Nat.le_refl _) _)).trans' h3
    have HAV := Lib.hid (HV2.out.2 c hb)
    clear h2 h3 hb
    go_wp2_with fail
    go_ret2
    exact ⟨by rw [HAV.out]; rfl, HP2.out⟩

end Go.Proofs.YteflpbkdnebopaaGreatDoor

namespace Go.Proofs.YteflpbkdnebopaaGreatDoor
open Go.RowKit

end Go.Proofs.YteflpbkdnebopaaGreatDoor
