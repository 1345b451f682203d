/- fault.Shift; errors.Is of the library, by its own text: what is looked for is a code. -/
import Derived.Test.YthbnaoifiggdnaaGreatDoorErrM2
import Derived.Lib.IfaceEq
namespace Go.Proofs.YthbnaoifiggdnaaGreatDoor
open Go.RowKit Go.Extern.Stop Go.Stop Go.Extern
set_option linter.unusedVariables false
set_option maxRecDepth 100000

section
variable (v : Value) (w : World) (xT : TypeId)
theorem asIsCode : (Instr.typeAssert (.iface 59 v) xT 137 true).run Tryz.prog w = .ok (.tuple #[.nilIface, .bool false]) w := run_typeAssert_lacksB Tryz.underlying137 (by kernel_rfl) (by kernel_rfl) v xT w
theorem asIsFault : (Instr.typeAssert (.iface 92 v) xT 137 true).run Tryz.prog w = .ok (.tuple #[.nilIface, .bool false]) w := run_typeAssert_lacksB Tryz.underlying137 (by kernel_rfl) (by kernel_rfl) v xT w
theorem asIsShf : (Instr.typeAssert (.iface 118 v) xT 137 true).run Tryz.prog w = .ok (.tuple #[.nilIface, .bool false]) w := run_typeAssert_lacksB Tryz.underlying137 (by kernel_rfl) (by kernel_rfl) v xT w
end
theorem shift_nil (b : Int) (w : World) : Calls Tryz.prog 53 #[.nilIface, .int .i64 b] w fun e w' => e = .returned .nilIface ∧ w = w' := by
  go_enter Tryz.func53, Tryz.ntmps53
  go_wp2
  go_ret
  exact ⟨rfl, rfl⟩

theorem shift_any (b : Int) (r : Ch) (w : World) (h : r.In w) : Calls Tryz.prog 53 #[r.val, .int .i64 b] w fun e w' => ∃ g, e = .returned (Ch.shf g b r).val ∧ (Ch.shf g b r).In w' ∧ Past w w' := by
  have hp : Past w (w.alloc (.cells #[.int .i64 b, r.val] 120)) := (Below.refl _ _).alloc (Nat.le_refl _) _
  have H : Hid ((Ch.shf w.heap.size b r).In (w.alloc (.cells #[.int .i64 b, r.val] 120)) ∧ Past w (w.alloc (.cells #[.int .i64 b, r.val] 120))) :=
    ⟨⟨Row.new _ _ _, h.past hp⟩, hp⟩
  clear hp h
  obtain ⟨T, x, hv⟩ := r.shape
  rw [hv] at H ⊢
  clear hv
  go_enter Tryz.func53, Tryz.ntmps53
  go_wp2
  go_ret
  exact ⟨_, rfl, H.out⟩

theorem eqCode (a b : Int) (w : World) : (binOp .eql 30 (.iface 59 (.int .i64 a)) (.iface 59 (.int .i64 b))).run Tryz.prog w = .ok (.bool (a == b)) w :=
  Lib.run_eql_iface_int w a b Tryz.underlying30 (by kernel_rfl) Tryz.underlying59
theorem eqOther (T : TypeId) (v : Value) (b : Int) (hT : T ≠ 59) (w : World) : (binOp .eql 30 (.iface T v) (.iface 59 (.int .i64 b))).run Tryz.prog w = .ok (.bool false) w :=
  run_eql_iface_types _ _ _ _ Tryz.underlying30 hT w

set_option maxHeartbeats 2000000 in
theorem isCode_loop (r : Ch) (d : Int) (ok : Bool) (w : World) (hI : r.In w) (hok : (r.cd == d) = ok) :
    Calls Tryz.prog 52 #[r.val, .iface 59 (.int .i64 d), .bool true] w fun e w' => e = .returned (.bool ok) ∧ Past w w' := by
  have HS : Hid (Past w w) := Below.refl _ _
  have HI := Lib.hid hI
  have HO := Lib.hid hok
  obtain ⟨T, y, hv⟩ := r.shape
  have HV := Lib.hid hv
  rw [hv]
  clear hI hok hv
  go_enter Tryz.func52, Tryz.ntmps52
  go_wp2_with fail
  go_loopg [0] r.depth (fun k s0 wx => ∃ q : Ch, k = q.depth ∧ s0 = q.val ∧ Hid ((q.cd == d) = ok ∧ q.In wx ∧ Past w wx))
  case atStart => exact ⟨r, rfl, HV.out.symm, HO.out, HI.out, HS.out⟩
  case round =>
    obtain ⟨q, hgk, rfl, hin⟩ := hrel
    have HGK := Lib.hid hgk
    clear hgk HS HI HO HV
    cases q with
    | code c =>
      have r0 := eqCode c d
      have s1 := asIsCode (.int .i64 c)
      have u1 := asUnwCode (.int .i64 c)
      have v1 := asManyCode (.int .i64 c)
      obtain ⟨h1, _, h3⟩ := hin.out
      have H3 := Lib.hid h3
      have h1' : (c == d) = ok := h1
      rw [h1'] at r0
      clear h1 h3 h1' hin
      simp only [valCode]
      cases ok with
      | true =>
        go_wp2_with fail
        go_ret
        exact ⟨rfl, H3.out⟩
      | false =>
        go_wp2_with fail
        go_ret
        exact ⟨rfl, H3.out⟩
    | flt c a2 =>
      have r0 := eqOther 92 (.agg #[.int .i64 c, .int .i64 a2]) d (by decide)
      have s1 := asIsFault (.agg #[.int .i64 c, .int .i64 a2])
      have u1 := asUnwFault (.agg #[.int .i64 c, .int .i64 a2])
      have n2 := fun n w => nuFault n w (.int .i64 c) (.int .i64 a2)
      have m2 := fun n w => muFault n w (.int .i64 c) (.int .i64 a2)
      simp only [valFlt]
      go_wp2_with fail
      refine (unwFault_any c a2 _).mono ?_
      rintro e w1 ⟨rfl, hp⟩
      have HIN : Hid (((Ch.code c).cd == d) = ok ∧ (Ch.code c).In w1 ∧ Past w w1) := ⟨hin.out.1, trivial, hin.out.2.2.trans' hp⟩
      clear hp hin
      go_wp2_with fail
      go_roundg 0
      case rel => exact ⟨.code c, rfl, rfl, HIN⟩
      case measure => rw [HGK.out]; simp [Ch.depth]
    | shf g2 p q =>
      have r0 := eqOther 118 (.pointer (some ⟨g2, 0, none⟩)) d (by decide)
      have s1 := asIsShf (.pointer (some ⟨g2, 0, none⟩))
      have u1 := asUnwShf (.pointer (some ⟨g2, 0, none⟩))
      have n2 := fun n w => nuShf n w ⟨g2, 0, none⟩
      have m2 := fun n w => muShf n w ⟨g2, 0, none⟩
      have HU := Lib.hid (unwShf_any g2 p q wr hin.out.2.1)
      obtain ⟨T2, x2, hv2⟩ := q.shape
      have HV2 := Lib.hid hv2
      rw [hv2] at HU
      clear hv2
      simp only [valShf]
      go_wp2_with fail
      refine HU.out.mono ?_
      rintro e w1 ⟨rfl, rfl⟩
      go_wp2_with fail
      go_roundg q.depth
      case rel => exact ⟨q, rfl, HV2.out.symm, hin.out.1, hin.out.2.1.2, hin.out.2.2⟩
      case measure => rw [HGK.out]; simp [Ch.depth]

theorem isCode_any (r : Ch) (d : Int) (ok : Bool) (w : World) (hI : r.In w) (hok : (r.cd == d) = ok) :
    Calls Tryz.prog 35 #[r.val, .iface 59 (.int .i64 d)] w fun e w' => e = .returned (.bool ok) ∧ Past w w' := by
  have c22 := cfTypeOf
  have c72 := cfComp
  have m1 := rmComparable
  have n1 := rnComparable
  have t1 := rtOfCode (.int .i64 d)
  have k1 := rCompCode
  have HL := fun w hw => Lib.hid (isCode_loop r d ok w hw hok)
  have HI := Lib.hid hI
  simp only [rtE, hdl] at t1 k1
  have HL2 := Lib.hid HL
  clear HL hI hok
  obtain ⟨T, y, hv⟩ := r.shape
  rw [hv] at HL2 ⊢
  clear hv
  go_enter Tryz.func35, Tryz.ntmps35
  go_wp2_with fail
  refine (HL2.out _ HI.out).out.mono ?_
  rintro e w1 ⟨rfl, hp⟩
  have HP := Lib.hid hp
  clear hp
  go_wp2_with fail
  go_ret
  exact ⟨rfl, HP.out⟩

end Go.Proofs.YthbnaoifiggdnaaGreatDoor
