/- For every slice of bytes and every int the law WireNil of package pyxlaw01 returns true and leaves its arguments alone; there is no further condition. -/
import Derived.Test.YtjoncepjeijmoaaFrame
import Derived.WalkKit
import Derived.ProofKit
import Derived.OpenShut
import Derived.ShutString
import Derived.ChangeOld
import Derived.Below
namespace Go.Proofs.Ytjoncepjeijmoaa.wireNil
open Go.ChangeShapes Go.WideShapes Go.ChangeAt Go.RowKit
open Go.ChangeMaps (open_string shut_string)
set_option linter.unusedVariables false


theorem walk (a0 : Option Addr) (len0 cap0 : Nat) (z0 : List Int) (a1 : Int) (w : World) (w0 : IsRow .u8 w a0 len0 cap0 z0) (w1 : (Lit.int .i64 a1).wf = true) :
    Calls Try.prog 6 #[.slice a0 len0 cap0, .int .i64 a1] w fun e w' => e = .returned (.bool true) ∧ Below w.heap.size w w' := by
  have hs := Sl.of_row w0
  generalize z0.take len0 = xs at hs
  have hlc := hs.cap
  have hcm := hs.big
  unfold maxLen at hcm
  clear w0 w1
  by_cases hbig : 300 < len0
  · clear hs
    go_enter Try.func6, Try.ntmps6
    go_wp2_with fail
    refine (awake_any _).mono ?_
    rintro e w1 ⟨rfl, hp1⟩
    have HP := Lib.hid hp1
    clear hp1
    go_wp2_with fail
    refine (awake_any _).mono ?_
    rintro e w2 ⟨rfl, hp⟩
    replace HP := Lib.hid (HP.out.trans' hp)
    clear hp
    go_wp2_with fail
    go_ret
    exact ⟨rfl, HP.out⟩
  · have HS := Lib.hid hs
    clear hs
    go_enter Try.func6, Try.ntmps6
    go_wp2_with fail
    refine (awake_any _).mono ?_
    rintro e w1 ⟨rfl, hp1⟩
    have HP := Lib.hid hp1
    replace HS := Lib.hid (HS.out.past hp1)
    clear hp1
    go_wp2_with fail
    refine (word_nil 4 _ (by decide)).mono ?_
    rintro e w' ⟨rfl, rfl⟩
    go_wp2_with fail
    refine (take_nil _ _).mono ?_
    rintro e w' ⟨rfl, rfl⟩
    go_wp2_with fail
    refine (new_any _ _ _ _ _ HS.out (by omega)).mono ?_
    rintro e w2 ⟨g, A, c, rfl, hr, hs2, hg, hp⟩
    have HL := Lib.hid HS.out.len
    rw [HL.out] at hr hs2
    have HA : Hid (Past w w2 ∧ Rdr w2 g A len0 c 0 ∧ Sl w2 A len0 c xs ∧ Sl w2 a0 len0 cap0 xs ∧ w.heap.size ≤ g) :=
      ⟨HP.out.trans' hp, hr, hs2, HS.out.past hp, Nat.le_trans HP.out.size hg⟩
    clear hr hs2 hg hp HP HS
    go_wp2_with fail
    refine (rest_any _ g A len0 c 0 xs HA.out.2.1 HA.out.2.2.1 (by omega) (by omega)).mono ?_
    rintro e w3 ⟨R, r, rfl, hr, hs3, _, hgr⟩
    rw [List.drop_zero, HL.out] at hs3
    rw [List.drop_zero, HL.out]
    have HB : Hid (Past w w3 ∧ Rdr w3 g A len0 c len0 ∧ Sl w3 A len0 c xs ∧ Sl w3 a0 len0 cap0 xs ∧ Sl w3 R len0 r xs ∧ w.heap.size ≤ g) := by
      obtain ⟨h1, h2, h3, h4, h5⟩ := HA.out
      exact ⟨past_of_only h1 hgr h1.size h5, hr, h3.only hgr h2.nobyte, h4.only hgr h2.nobyte, hs3, h5⟩
    clear HA hr hs3 hgr
    go_wp2_with fail
    refine (word_far 1 _ g A len0 c len0 HB.out.2.1 (Nat.le_refl _) (by omega) (by decide) (by omega)).mono ?_
    rintro e w' ⟨rfl, m, rfl⟩
    replace HB : Hid (Past w (w3.drewN m) ∧ Rdr (w3.drewN m) g A len0 c len0 ∧ Sl (w3.drewN m) A len0 c xs ∧ Sl (w3.drewN m) a0 len0 cap0 xs ∧ Sl (w3.drewN m) R len0 r xs ∧ w.heap.size ≤ g) := by
      obtain ⟨h1, h2, h3, h4, h5, h6⟩ := HB.out
      exact ⟨h1.drewN m, h2.drewN m, h3.drewN m, h4.drewN m, h5.drewN m, h6⟩
    generalize w3.drewN m = w4 at HB ⊢
    go_wp2_with fail
    refine (take_ok 0 _ g A len0 c len0 xs HB.out.2.1 HB.out.2.2.1 (Nat.le_refl _) (by omega) (by omega)).mono ?_
    rintro e w5 ⟨Z, z, rfl, hr, hs5, _, hgr⟩
    rw [List.take_zero, List.length_nil, Nat.add_zero] at *
    have HC : Hid (Past w w5 ∧ Sl w5 a0 len0 cap0 xs ∧ Sl w5 R len0 r xs) := by
      obtain ⟨h1, h2, h3, h4, h5, h6⟩ := HB.out
      exact ⟨past_of_only h1 hgr h1.size h6, h4.only hgr h2.nobyte, h5.only hgr h2.nobyte⟩
    clear HB hr hs5 hgr
    go_wp2_with fail
    refine (at_nil _).mono ?_
    rintro e w' ⟨rfl, rfl⟩
    go_wp2_with fail
    refine (left_nil _).mono ?_
    rintro e w' ⟨rfl, m1, rfl⟩
    go_wp2_with fail
    refine (rest_nil _).mono ?_
    rintro e w' ⟨rfl, m2, rfl⟩
    replace HC : Hid (Past w ((w5.drewN m1).drewN m2) ∧ Sl ((w5.drewN m1).drewN m2) a0 len0 cap0 xs ∧ Sl ((w5.drewN m1).drewN m2) R len0 r xs) :=
      ⟨(HC.out.1.drewN m1).drewN m2, (HC.out.2.1.drewN m1).drewN m2, (HC.out.2.2.drewN m1).drewN m2⟩
    generalize hw6 : (w5.drewN m1).drewN m2 = w6 at HC ⊢
    clear hw6
    go_wp2_with fail
    refine (rsame_self _ _ _ _ _ _ _ HC.out.2.2 HC.out.2.1).mono ?_
    rintro e w' ⟨rfl, m3, rfl⟩
    go_wp2_with fail
    go_ret
    exact ⟨rfl, HC.out.1.drewN m3⟩

set_option maxRecDepth 100000 in
theorem lifted (os : Os) (started : os.Started) (H : Type) (enc : TypeId × Value → H) :
    ReturnsInHanded {} Try.checked os 6 .any (Rows.wireNilSpec.pre6 enc Try.prog Try.f6 Rows.wireNilRow.domain false) (Rows.wireNilSpec.post enc Try.prog Try.f6 false true false false) := by
  refine returnsInHanded_of_change (C := Try.checked) own started (by kernel_rfl) Try.func6
    (ChangeSpec.witness6 (enc := enc) (C := Try.checked) false ⟨#[], #[.slice none 0 0, .int .i64 0], []⟩ 8 (by kernel_rfl) (by kernel_rfl) (by kernel_rfl) (by kernel_rfl)) ?_
  intro W base args ds gs before hval0 hW hcnd _
  have hval : ∀ (j : Nat) t v, Try.f6.params[j]? = some t → args[j]? = some v → Value.okWide Try.prog W .any base t v := hval0
  have hW' := hW
  obtain ⟨p, q, hA0, hV, rfl, hfz, hnd⟩ := hW
  have hA : DataW.TrodAll enc Try.prog W 0 (fun _ => true) true Try.f6.params.toList args.toList ds p := hA0
  rw [Try.params6] at hA hval
  obtain ⟨v0, vs0, d0, ds0, p0, q0, hargs, rfl, rfl, h0, r0⟩ := trodAll_cons hA
  obtain ⟨v1, vs1, d1, ds1, p1, q1, rfl, rfl, rfl, h1, r1⟩ := trodAll_cons r0
  obtain ⟨rfl, rfl, rfl⟩ := trodAll_nil r1
  obtain rfl : args = #[v0, v1] := by cases args; simp_all
  obtain ⟨rfl, rfl⟩ := trodVars_none hV
  obtain ⟨a0, len0, cap0, rfl⟩ := okWide_slice Try.underlying22 (hval 0 22 v0 rfl rfl)
  have k0 := h0
  have lt0 : ∀ x ∈ p0, x.block < W.heap.size := by obtain ⟨m, hm⟩ := k0; exact DataW.trod_lt m _ _ _ hm
  obtain ⟨z0, w0⟩ : ∃ zs, IsRow .u8 W a0 len0 cap0 zs := by
    obtain ⟨fuel, hf⟩ := h0
    rcases open_ints Try.underlying22 Try.underlying5 (by kernel_rfl) hf with ⟨hcs, _⟩ | ⟨x, l, c, zs, hcs, _, hl, hm, hz, _, hcell, hwz⟩
    · simp [Value.cells] at hcs
      obtain ⟨rfl, rfl, rfl⟩ := hcs
      exact ⟨[], .inl ⟨rfl, rfl, rfl, rfl⟩⟩
    · simp [Value.cells] at hcs
      obtain ⟨rfl, rfl, rfl⟩ := hcs
      exact ⟨zs, .inr ⟨_, rfl, hl, hm, by simpa using hz, hcell, hwz⟩⟩
  obtain ⟨a1, rfl, rfl, rfl, w1⟩ := open_int Try.underlying3 (hval 1 3 v1 rfl rfl) h1
  clear hA0 hval0
  refine (walk a0 len0 cap0 z0 a1 W w0 w1).mono fun e W' ⟨he, bel⟩ => ?_
  subst he
  exact ⟨_, rfl, _, _, _, [], _, [], hW', trodAll_mk1 (shut_bool Try.underlying4 _), (trodAll_cons_mk (Below.trod laidOut (by kernel_rfl) (of_decide_eq_true (by kernel_rfl)) k0 bel lt0) (trodAll_cons_mk (shut_int Try.underlying3 w1) trodAll_mk0)), rfl, bel.frame _, fun h => by cases h⟩

theorem over : Rows.wireNilRow.holds Try.pinned (OpenSpec.ofChange Rows.wireNilSpec) :=
  OpenClaim.holds_of_wide 6 Try.f6 rfl rfl rfl rfl rfl rfl rfl ⟨rfl, rfl, rfl, rfl, rfl⟩ rfl rfl rfl rfl rfl (by kernel_rfl) Try.func6 (by kernel_rfl)
    (of_decide_eq_true (by kernel_rfl)) (by unfold Func.isWrapper; first | (rw [if_pos (by decide +kernel)]; kernel_rfl) | (rw [if_neg (by decide +kernel)]; exact ⟨rfl, rfl⟩))
    (fun os started H enc _ => lifted os started H enc)

theorem proved : Rows.WireNilSaid := over
end Go.Proofs.Ytjoncepjeijmoaa.wireNil

