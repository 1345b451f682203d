/- errors.As of the library, by its own text: the target is a variable of type api.Code. -/
import Derived.Test.YtdpnfojpeafdhaaDoorErr5
import Derived.Test.YtdpnfojpeafdhaaDoorErr3
namespace Go.Proofs.YtdpnfojpeafdhaaDoor
open Go.RowKit Go.Extern.Stop Go.Stop Go.Extern

structure AsC (w : World) (g b h : Nat) (x : Int) : Prop where
  var : Row w g 56 #[.int .i64 x]
  val : Row w b 93 #[.pointer (some ⟨g, 0, none⟩)]
  box : Row w h 106 #[hdl 93, .pointer (some ⟨b, 0, none⟩), .int .u64 150]

theorem AsC.past {w w' : World} {g b h : Nat} {x : Int} (k : AsC w g b h x) (hp : Past w w') : AsC w' g b h x := ⟨k.var.past hp, k.val.past hp, k.box.past hp⟩

set_option maxHeartbeats 2000000 in
theorem asCode_loop (r : Ch) (g b : Nat) (x : Int) (w : World) (hI : r.In w) (hg : Row w g 56 #[.int .i64 x]) (hb : Row w b 93 #[.pointer (some ⟨g, 0, none⟩)]) :
    Calls Tryd.prog 60 #[r.val, .iface 93 (.pointer (some ⟨g, 0, none⟩)), rv 93 ⟨b, 0, none⟩ 150, .iface 122 (rt 56)] w
      fun e w' => e = .returned (.bool true) ∧ Row w' g 56 #[.int .i64 r.cd] ∧ w.grownBy w' (some g) := by
  have c22 := cfTypeOf
  have c18 := cfValueOf
  have c26 := cfVElem
  have c27 := cfSet
  have c71 := cfAss
  have m1 := rmAssignableTo
  have n1 := rnAssignableTo
  simp only [rv, rt]
  have hlt := hg.lt
  have HG := Lib.hid hg
  have HB := Lib.hid hb
  have HI := Lib.hid hI
  clear hI hg hb
  generalize hcd : r.cd = C
  have HC := Lib.hid hcd
  obtain ⟨T, y, hv⟩ := r.shape
  have HV := Lib.hid hv
  rw [hv]
  clear hv hcd
  go_enter Tryd.func60, Tryd.ntmps60
  go_wp2_with fail
  have H0 : Hid (r.cd = C ∧ r.In (w.alloc (.cells #[hdl 93, .pointer (some ⟨b, 0, none⟩), .int .u64 150] 106)) ∧ AsC (w.alloc (.cells #[hdl 93, .pointer (some ⟨b, 0, none⟩), .int .u64 150] 106)) g b w.heap.size x ∧
      Past w (w.alloc (.cells #[hdl 93, .pointer (some ⟨b, 0, none⟩), .int .u64 150] 106))) := by
    have hp : Past w (w.alloc (.cells #[hdl 93, .pointer (some ⟨b, 0, none⟩), .int .u64 150] 106)) := (Below.refl _ _).alloc (Nat.le_refl _) _
    exact ⟨HC.out, HI.out.past hp, ⟨HG.out.past hp, HB.out.past hp, Row.new _ _ _⟩, hp⟩
  go_loopg [0] r.depth (fun k s0 wx => ∃ q : Ch, k = q.depth ∧ s0 = q.val ∧ Hid (q.cd = C ∧ q.In wx ∧ AsC wx g b w.heap.size x ∧ Past w wx))
  case atStart => exact ⟨r, rfl, HV.out.symm, H0⟩
  case round =>
    clear H0
    obtain ⟨q, hgk, rfl, hin⟩ := hrel
    have HGK := Lib.hid hgk
    clear hgk HG HB HI HC HV
    cases q with
    | code c =>
      have r1 := rtOfCode (.int .i64 c)
      have a1 := rAssCodeCode
      have hA := hin.out.2.2.1
      have l0 := hA.box.cell 0
      have l1 := hA.box.cell 1
      have l2 := hA.box.cell 2
      simp at l0 l1 l2
      have hbl := hA.box.lt
      have hx := rElemVCode ⟨b, 0, none⟩ ⟨g, 0, none⟩ wr (by rw [hA.val.cell 0]; rfl)
      have hv := rvOfCode c wr
      have hs := rSetCode ⟨g, 0, none⟩ ⟨wr.heap.size, 0, none⟩ c (.int .i64 x) (wr.alloc (.cells #[.int .i64 c] 56)) (by rw [(Row.new _ _ _).cell 0]; rfl) (by rw [(hA.var.alloc _).cell 0]; rfl) ((hA.var.alloc _).fr 0)
      simp only [rt, rv] at r1 a1 hx hv hs
      clear hA
      simp only [valCode]
      go_wp2_with fail
      go_ret
      obtain ⟨h1, _, h3, h4⟩ := hin.out
      subst h1
      refine ⟨rfl, (h3.var.alloc _).set 0 _, only_setCell (only_of_past (h4.trans' ((Below.refl _ _).alloc (Nat.le_refl _) _)) _) (.inl rfl) _⟩
    | flt c a2 =>
      have r1 := rtOfFault (.agg #[.int .i64 c, .int .i64 a2])
      have a1 := rAssCodeFault
      have s1 := asAsFault (.agg #[.int .i64 c, .int .i64 a2])
      have u1 := asUnwFault (.agg #[.int .i64 c, .int .i64 a2])
      have n2 := fun n w => nuFault n w (.int .i64 c) (.int .i64 a2)
      have m2 := fun n w => muFault n w (.int .i64 c) (.int .i64 a2)
      simp only [rt] at r1 a1
      simp only [valFlt]
      go_wp2_with fail
      refine (unwFault_any c a2 _).mono ?_
      rintro e w1 ⟨rfl, hp⟩
      have HIN : Hid ((Ch.code c).cd = C ∧ (Ch.code c).In w1 ∧ AsC w1 g b w.heap.size x ∧ Past w w1) := by
        obtain ⟨h1, _, h3, h4⟩ := hin.out
        exact ⟨h1, trivial, h3.past hp, h4.trans' hp⟩
      clear hp hin
      go_wp2_with fail
      go_roundg 0
      case rel => exact ⟨.code c, rfl, rfl, HIN⟩
      case measure => rw [HGK.out]; simp [Ch.depth]
    | shf g2 p q =>
      have r1 := rtOfShf (.pointer (some ⟨g2, 0, none⟩))
      have a1 := rAssCodeShf
      have s1 := asAsShf (.pointer (some ⟨g2, 0, none⟩))
      have u1 := asUnwShf (.pointer (some ⟨g2, 0, none⟩))
      have n2 := fun n w => nuShf n w ⟨g2, 0, none⟩
      have m2 := fun n w => muShf n w ⟨g2, 0, none⟩
      simp only [rt] at r1 a1
      have HU := Lib.hid (unwShf_any g2 p q wr hin.out.2.1)
      obtain ⟨T2, x2, hv2⟩ := q.shape
      have HV2 := Lib.hid hv2
      rw [hv2] at HU
      clear hv2
      simp only [valShf]
      go_wp2_with fail
      refine HU.out.mono ?_
      rintro e w1 ⟨rfl, rfl⟩
      go_wp2_with fail
      go_roundg q.depth
      case rel => exact ⟨q, rfl, HV2.out.symm, hin.out.1, hin.out.2.1.2, hin.out.2.2⟩
      case measure => rw [HGK.out]; simp [Ch.depth]

end Go.Proofs.YtdpnfojpeafdhaaDoor
