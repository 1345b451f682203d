/- errors.As of the library, by its own text, at a variable of type api.Code and at one of type api.Fault. -/
import Derived.Test.YtdpnfojpeafdhaaDoorErr7
namespace Go.Proofs.YtdpnfojpeafdhaaDoor
open Go.RowKit Go.Extern.Stop Go.Stop Go.Extern

/-- The library's own variable errors.errorType holds the handle of the type error. -/
def Glob (w : World) : Prop := w.cell? ⟨0, 0, none⟩ = some (.iface 122 (rt 28))
theorem Glob.past {w w' : World} (h : Glob w) (hp : Past w w') : Glob w' := (hp.cell (cell_lt h)).trans h
theorem Glob.drewN {w : World} (h : Glob w) (n : Nat) : Glob (w.drewN n) := h

theorem asNil_any (t : Value) (w : World) : Calls Tryd.prog 47 #[.nilIface, t] w fun e w' => e = .returned (.bool false) ∧ w = w' := by
  go_enter Tryd.func47, Tryd.ntmps47
  go_wp2
  go_ret
  exact ⟨rfl, rfl⟩

set_option maxHeartbeats 2000000 in
theorem asCode_any (r : Ch) (g : Nat) (x : Int) (w : World) (hI : r.In w) (hG : Glob w) (hg : Row w g 56 #[.int .i64 x]) :
    Calls Tryd.prog 47 #[r.val, .iface 93 (.pointer (some ⟨g, 0, none⟩))] w
      fun e w' => e = .returned (.bool true) ∧ Row w' g 56 #[.int .i64 r.cd] ∧ w.grownBy w' (some g) := by
  have c18 := cfValueOf
  have c19 := cfType
  have c20 := cfIsNil
  have c43 := cfKind
  have c73 := cfElem
  have c74 := cfImpl
  have m1 := rmKind
  have n1 := rnKind
  have m2 := rmElem
  have n2 := rnElem
  have m3 := rmImplements
  have n3 := rnImplements
  have v1 := rvOfPCode ⟨g, 0, none⟩ w
  have t1 := rvTypeCode ⟨w.heap.size, 0, none⟩
  have k1 := rkPCode
  have k2 := rkCode
  have e1 := rElemCode
  have i1 := rImplCode
  have hlt := cell_lt hG
  simp only at hlt
  have hp1 : Past w (w.alloc (.cells #[.pointer (some ⟨g, 0, none⟩)] 93)) := (Below.refl _ _).alloc (Nat.le_refl _) _
  have hp2 : Past w ((w.alloc (.cells #[.pointer (some ⟨g, 0, none⟩)] 93)).alloc (.cells #[hdl 93, .pointer (some ⟨w.heap.size, 0, none⟩), .int .u64 150] 106)) := hp1.alloc (by simp) _
  have hb := (Row.new w 93 #[.pointer (some ⟨g, 0, none⟩)]).alloc (.cells #[hdl 93, .pointer (some ⟨w.heap.size, 0, none⟩), .int .u64 150] 106)
  have hn := rIsNilCode ⟨w.heap.size, 0, none⟩ ⟨g, 0, none⟩ ((w.alloc (.cells #[.pointer (some ⟨g, 0, none⟩)] 93)).alloc (.cells #[hdl 93, .pointer (some ⟨w.heap.size, 0, none⟩), .int .u64 150] 106)) (by rw [hb.cell 0]; rfl)
  have hG2 : ((w.alloc (.cells #[.pointer (some ⟨g, 0, none⟩)] 93)).alloc (.cells #[hdl 93, .pointer (some ⟨w.heap.size, 0, none⟩), .int .u64 150] 106)).cell? ⟨0, 0, none⟩ = _ := (hp2.cell hlt).trans hG
  have HL := Lib.hid (asCode_loop r g w.heap.size x _ (hI.past hp2) (hg.past hp2) hb)
  have HP := Lib.hid hp2
  clear hp1 hp2 hb hI hg hG
  simp only [rv, rt, hdl] at v1 t1 k1 k2 e1 i1 hn HL hG2
  obtain ⟨T, y, hv⟩ := r.shape
  rw [hv] at HL ⊢
  clear hv
  go_enter Tryd.func47, Tryd.ntmps47
  go_wp2_with fail
  refine HL.out.mono ?_
  rintro e w1 ⟨rfl, h1, h2⟩
  have HF := Lib.hid (And.intro h1 (only_trans (only_of_past HP.out _) h2))
  clear h1 h2
  go_wp2_with fail
  go_ret
  exact ⟨rfl, HF.out⟩

set_option maxHeartbeats 2000000 in
theorem asFault_any (r : Ch) (g : Nat) (x : Array Value) (w : World) (hI : r.In w) (hG : Glob w) (hg : Row w g 73 x) (hx2 : x.size = 2) :
    Calls Tryd.prog 47 #[r.val, .iface 89 (.pointer (some ⟨g, 0, none⟩))] w
      (AsFPost w g r.base x) := by
  have c18 := cfValueOf
  have c19 := cfType
  have c20 := cfIsNil
  have c43 := cfKind
  have c73 := cfElem
  have c74 := cfImpl
  have m1 := rmKind
  have n1 := rnKind
  have m2 := rmElem
  have n2 := rnElem
  have m3 := rmImplements
  have n3 := rnImplements
  have v1 := rvOfPFault ⟨g, 0, none⟩ w
  have t1 := rvTypeFault ⟨w.heap.size, 0, none⟩
  have k1 := rkPFault
  have k2 := rkFault
  have e1 := rElemFault
  have i1 := rImplFault
  have hlt := cell_lt hG
  simp only at hlt
  have hp1 : Past w (w.alloc (.cells #[.pointer (some ⟨g, 0, none⟩)] 89)) := (Below.refl _ _).alloc (Nat.le_refl _) _
  have hp2 : Past w ((w.alloc (.cells #[.pointer (some ⟨g, 0, none⟩)] 89)).alloc (.cells #[hdl 89, .pointer (some ⟨w.heap.size, 0, none⟩), .int .u64 150] 106)) := hp1.alloc (by simp) _
  have hb := (Row.new w 89 #[.pointer (some ⟨g, 0, none⟩)]).alloc (.cells #[hdl 89, .pointer (some ⟨w.heap.size, 0, none⟩), .int .u64 150] 106)
  have hn := rIsNilFault ⟨w.heap.size, 0, none⟩ ⟨g, 0, none⟩ ((w.alloc (.cells #[.pointer (some ⟨g, 0, none⟩)] 89)).alloc (.cells #[hdl 89, .pointer (some ⟨w.heap.size, 0, none⟩), .int .u64 150] 106)) (by rw [hb.cell 0]; rfl)
  have hG2 : ((w.alloc (.cells #[.pointer (some ⟨g, 0, none⟩)] 89)).alloc (.cells #[hdl 89, .pointer (some ⟨w.heap.size, 0, none⟩), .int .u64 150] 106)).cell? ⟨0, 0, none⟩ = _ := (hp2.cell hlt).trans hG
  have HL := Lib.hid (asFault_loop r g w.heap.size x _ (hI.past hp2) (hg.past hp2) hx2 hb)
  have HP := Lib.hid hp2
  clear hp1 hp2 hb hI hg hG
  simp only [rv, rt, hdl] at v1 t1 k1 k2 e1 i1 hn HL hG2
  obtain ⟨T, y, hv⟩ := r.shape
  rw [hv] at HL ⊢
  clear hv
  go_enter Tryd.func47, Tryd.ntmps47
  go_wp2_with fail
  refine HL.out.mono ?_
  rintro e w1 (⟨c, a, hb, rfl, h1, h2⟩ | ⟨c, hb, rfl, h1, h2⟩)
  · have HF := Lib.hid (And.intro hb (And.intro h1 (only_trans (only_of_past HP.out _) h2)))
    clear h1 h2 hb
    go_wp2_with fail
    go_ret
    exact .inl ⟨c, a, HF.out.1, rfl, HF.out.2⟩
  · have HF := Lib.hid (And.intro hb (And.intro h1 (HP.out.trans' h2)))
    clear h1 h2 hb
    go_wp2_with fail
    go_ret
    exact .inr ⟨c, HF.out.1, rfl, HF.out.2⟩

end Go.Proofs.YtdpnfojpeafdhaaDoor
