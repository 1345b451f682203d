/- errors.As of the library, by its own text: the target is a variable of type api.Fault. -/
import Derived.Test.YtdpnfojpeafdhaaDoorErr5
import Derived.Test.YtdpnfojpeafdhaaDoorErr6
import Derived.Test.YtdpnfojpeafdhaaDoorErr3
namespace Go.Proofs.YtdpnfojpeafdhaaDoor
open Go.RowKit Go.Extern.Stop Go.Stop Go.Extern

theorem only_setRow {a w : World} {g : Nat} (h : a.grownBy w (some g)) (cs : Array Value) : a.grownBy (w.setRow g cs) (some g) :=
  ⟨h.os, h.tape, h.output, by simpa using h.size, fun i hi hne => (setRow_other _ _ _ _ (fun e => hne (by rw [e]))).trans (h.block i hi hne)⟩

/-- What errors.As comes to: the fault is found, or there is only a code. -/
def AsFPost (w : World) (g : Nat) (B : Ch) (x : Array Value) (e : Ending) (w' : World) : Prop :=
  (∃ c a, B = .flt c a ∧ e = .returned (.bool true) ∧ Row w' g 73 #[.int .i64 c, .int .i64 a] ∧ w.grownBy w' (some g)) ∨
  ∃ c, B = .code c ∧ e = .returned (.bool false) ∧ Row w' g 73 x ∧ Past w w'

structure AsF (w : World) (g b h : Nat) (x : Array Value) : Prop where
  var : Row w g 73 x
  val : Row w b 89 #[.pointer (some ⟨g, 0, none⟩)]
  box : Row w h 106 #[hdl 89, .pointer (some ⟨b, 0, none⟩), .int .u64 150]

theorem AsF.past {w w' : World} {g b h : Nat} {x : Array Value} (k : AsF w g b h x) (hp : Past w w') : AsF w' g b h x := ⟨k.var.past hp, k.val.past hp, k.box.past hp⟩

set_option maxHeartbeats 2000000 in
theorem asFault_loop (r : Ch) (g b : Nat) (x : Array Value) (w : World) (hI : r.In w) (hg : Row w g 73 x) (hx2 : x.size = 2) (hb : Row w b 89 #[.pointer (some ⟨g, 0, none⟩)]) :
    Calls Tryd.prog 60 #[r.val, .iface 89 (.pointer (some ⟨g, 0, none⟩)), rv 89 ⟨b, 0, none⟩ 150, .iface 122 (rt 73)] w
      (AsFPost w g r.base x) := by
  have c22 := cfTypeOf
  have c18 := cfValueOf
  have c26 := cfVElem
  have c27 := cfSet
  have c71 := cfAss
  have m1 := rmAssignableTo
  have n1 := rnAssignableTo
  simp only [rv, rt]
  have hlt := hg.lt
  have HX2 := Lib.hid hx2
  clear hx2
  have HG := Lib.hid hg
  have HB := Lib.hid hb
  have HI := Lib.hid hI
  clear hI hg hb
  generalize hcd : r.base = C
  have HC := Lib.hid hcd
  obtain ⟨T, y, hv⟩ := r.shape
  have HV := Lib.hid hv
  rw [hv]
  clear hv hcd
  go_enter Tryd.func60, Tryd.ntmps60
  go_wp2_with fail
  have H0 : Hid (r.base = C ∧ r.In (w.alloc (.cells #[hdl 89, .pointer (some ⟨b, 0, none⟩), .int .u64 150] 106)) ∧ AsF (w.alloc (.cells #[hdl 89, .pointer (some ⟨b, 0, none⟩), .int .u64 150] 106)) g b w.heap.size x ∧
      Past w (w.alloc (.cells #[hdl 89, .pointer (some ⟨b, 0, none⟩), .int .u64 150] 106))) := by
    have hp : Past w (w.alloc (.cells #[hdl 89, .pointer (some ⟨b, 0, none⟩), .int .u64 150] 106)) := (Below.refl _ _).alloc (Nat.le_refl _) _
    exact ⟨HC.out, HI.out.past hp, ⟨HG.out.past hp, HB.out.past hp, Row.new _ _ _⟩, hp⟩
  go_loopg [0] r.depth (fun k s0 wx => ∃ q : Ch, k = q.depth ∧ s0 = q.val ∧ Hid (q.base = C ∧ q.In wx ∧ AsF wx g b w.heap.size x ∧ Past w wx))
  case atStart => exact ⟨r, rfl, HV.out.symm, H0⟩
  case round =>
    clear H0
    obtain ⟨q, hgk, rfl, hin⟩ := hrel
    have HGK := Lib.hid hgk
    clear hgk HG HB HI HC HV
    cases q with
    | code c =>
      have r1 := rtOfCode (.int .i64 c)
      have a1 := rAssFaultCode
      have s1 := asAsCode (.int .i64 c)
      have u1 := asUnwCode (.int .i64 c)
      have v1 := asManyCode (.int .i64 c)
      simp only [rt] at r1 a1
      simp only [valCode]
      go_wp2_with fail
      go_ret
      obtain ⟨h1, _, h3, h4⟩ := hin.out
      exact .inr ⟨c, h1.symm, rfl, h3.var, h4⟩
    | flt c a2 =>
      have r1 := rtOfFault (.agg #[.int .i64 c, .int .i64 a2])
      have a1 := rAssFaultFault
      have hA := hin.out.2.2.1
      have l0 := hA.box.cell 0
      have l1 := hA.box.cell 1
      have l2 := hA.box.cell 2
      simp at l0 l1 l2
      have hbl := hA.box.lt
      have hx := rElemVFault ⟨b, 0, none⟩ ⟨g, 0, none⟩ wr (by rw [hA.val.cell 0]; rfl)
      have hv := rvOfFault c a2 wr
      have hs := rSetFault g wr.heap.size c a2 x (wr.alloc (.cells #[.int .i64 c, .int .i64 a2] 73)) (Row.new _ _ _) (hA.var.alloc _) HX2.out
      simp only [rt, rv] at r1 a1 hx hv hs
      clear hA
      simp only [valFlt]
      go_wp2_with fail
      go_ret
      obtain ⟨h1, _, h3, h4⟩ := hin.out
      have h5 := h3.var.alloc (.cells #[.int .i64 c, .int .i64 a2] 73)
      exact .inl ⟨c, a2, h1.symm, rfl, setRow_heap _ _ _ _ _ _ h5, only_setRow (only_of_past (h4.trans' ((Below.refl _ _).alloc (Nat.le_refl _) _)) _) _⟩
    | shf g2 p q =>
      have r1 := rtOfShf (.pointer (some ⟨g2, 0, none⟩))
      have a1 := rAssFaultShf
      have s1 := asAsShf (.pointer (some ⟨g2, 0, none⟩))
      have u1 := asUnwShf (.pointer (some ⟨g2, 0, none⟩))
      have n2 := fun n w => nuShf n w ⟨g2, 0, none⟩
      have m2 := fun n w => muShf n w ⟨g2, 0, none⟩
      simp only [rt] at r1 a1
      have HU := Lib.hid (unwShf_any g2 p q wr hin.out.2.1)
      obtain ⟨T2, x2, hv2⟩ := q.shape
      have HV2 := Lib.hid hv2
      rw [hv2] at HU
      clear hv2
      simp only [valShf]
      go_wp2_with fail
      refine HU.out.mono ?_
      rintro e w1 ⟨rfl, rfl⟩
      go_wp2_with fail
      go_roundg q.depth
      case rel => exact ⟨q, rfl, HV2.out.symm, hin.out.1, hin.out.2.1.2, hin.out.2.2⟩
      case measure => rw [HGK.out]; simp [Ch.depth]

end Go.Proofs.YtdpnfojpeafdhaaDoor
