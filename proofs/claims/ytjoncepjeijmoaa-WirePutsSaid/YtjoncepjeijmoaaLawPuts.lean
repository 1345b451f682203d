/- For every int and every number of 64 bits the law WirePuts of package pyxlaw01 returns true and leaves its arguments alone; there is no further condition. -/
import Derived.Test.YtjoncepjeijmoaaAwake
import Derived.WalkKit
import Derived.ProofKit
import Derived.OpenShut
import Derived.ShutString
import Derived.ChangeOld
import Derived.Below
namespace Go.Proofs.Ytjoncepjeijmoaa.wirePuts
open Go.ChangeShapes Go.WideShapes Go.ChangeAt Go.RowKit
open Go.ChangeMaps (open_string shut_string)
set_option linter.unusedVariables false      -- a walk need not use every 'w<i>' (that an integer argument fits its kind)

theorem own : ownKnob Try.prog.godebug = none := by kernel_rfl

/-- The numbers that are too large for n bytes. -/
theorem fits_iff (n : Nat) (x : Int) : ((x / 2 ^ (8 * n) != 0) = false) ↔ x / 256 ^ n = 0 := by
  rw [two_eight]
  simp

theorem mod_of_fits (n : Nat) (x : Int) (h0 : 0 ≤ x) (h : x / 256 ^ n = 0) : x % 256 ^ n = x := by
  have := Int.mul_ediv_add_emod x (256 ^ n)
  rw [h] at this
  omega

theorem walk (a0 : Int) (a1 : Int) (w0 : (Lit.int .i64 a0).wf = true) (w1 : (Lit.int .u64 a1).wf = true) (w : World) :
    Calls Try.prog 4 #[.int .i64 a0, .int .u64 a1] w fun e w' => e = .returned (.bool true) ∧ Past w w' := by
  have hb := bounds_u64 w1
  obtain ⟨h0, h1⟩ := hb
  cases hws : ws a0 with
  | false =>
    have H1 := Lib.hid (put_bad a0 a1 · hws)
    have H2 := Lib.hid (rput_bad a0 a1 · hws)
    clear hws w0 w1 h0 h1
    go_enter Try.func4, Try.ntmps4
    go_wp2_with fail
    refine (awake_any _).mono ?_
    rintro e w1 ⟨rfl, hp1⟩
    have HP1 := Lib.hid hp1
    clear hp1
    go_wp2_with fail
    refine (H1.out _).mono ?_
    rintro e w' ⟨rfl, rfl⟩
    go_wp2_with fail
    refine (H2.out _).mono ?_
    rintro e w' ⟨rfl, rfl⟩
    go_wp2_with fail
    refine (rsame_nil _).mono ?_
    rintro e w' ⟨rfl, m, rfl⟩
    go_wp2_with fail
    go_ret
    exact ⟨rfl, HP1.out.drewN m⟩
  | true =>
    obtain ⟨n, rfl⟩ : ∃ n : Nat, a0 = (n : Int) := by
      rcases ws_nat hws with h | h | h | h
      · exact ⟨1, h⟩
      · exact ⟨2, h⟩
      · exact ⟨4, h⟩
      · exact ⟨8, h⟩
    have hn8 : n ≤ 8 := by rcases ws_nat hws with h | h | h | h <;> omega
    have hr := fun W => rput_any n a1 W hws h0 (by omega)
    by_cases hfit : a1 / 256 ^ n = 0
    · have hx := (fits_iff n a1).2 hfit
      have H1 := Lib.hid (put_ok n a1 · hws hx)
      have H2 : Hid (∀ W, Calls Try.prog 18 #[.int .i64 (n : Int), .int .u64 a1] W (FreshT W (beB n a1))) := fun W => (hr W).mono (by
        intro e w' h
        unfold RPut at h
        rwa [if_pos hfit] at h)
      have HW := Lib.hid hws
      have HM : Hid (beI (beB n a1) = a1) := by
        show _ = _
        rw [beI_beB n a1 h0, mod_of_fits n a1 h0 hfit]
      clear hws w0 w1 h0 h1 hr hfit hx
      go_enter Try.func4, Try.ntmps4
      go_wp2_with fail
      refine (awake_any _).mono ?_
      rintro e w1 ⟨rfl, hp1⟩
      have HP := Lib.hid hp1
      clear hp1
      go_wp2_with fail
      refine (H1.out _).mono ?_
      rintro e w2 ⟨A, c, rfl, ho, hp⟩
      have HS := Lib.hid (Sl.of_own ho (beB_rng n a1))
      replace HP := Lib.hid (HP.out.trans' hp)
      clear ho hp
      go_wp2_with fail
      refine (H2.out _).mono ?_
      rintro e w3 ⟨B, d, rfl, ho, hp⟩
      have HT := Lib.hid (Sl.of_own ho (beB_rng n a1))
      replace HP := Lib.hid (HP.out.trans' hp)
      replace HS := Lib.hid (HS.out.past hp)
      clear ho hp
      have HL := Lib.hid (beB_len n a1)
      generalize beB n a1 = ys at HS HT HL HM ⊢
      rw [HL.out] at HS HT ⊢
      go_wp2_with fail
      refine (rsame_self _ _ _ _ _ _ _ HS.out HT.out).mono ?_
      rintro e w' ⟨rfl, m, rfl⟩
      replace HS := Lib.hid (HS.out.drewN m)
      replace HP := Lib.hid (HP.out.drewN m)
      go_wp2_with fail
      refine (new_any _ _ _ _ _ HS.out (by omega)).mono ?_
      rintro e w4 ⟨g, A2, c2, rfl, hr, hs, hg, hp⟩
      rw [HL.out] at hr hs
      have HR := Lib.hid hr
      have HS2 := Lib.hid hs
      have HG : Hid (w.heap.size ≤ g) := Nat.le_trans HP.out.size hg
      replace HP := Lib.hid (HP.out.trans' hp)
      clear hr hs hg hp
      go_wp2_with fail
      refine (word_ok n _ g A2 n c2 0 ys HR.out HS2.out (by omega) (by omega) HW.out).mono ?_
      rintro e w5 ⟨rfl, m, hw5⟩
      have HR2 : Hid (Rdr w5 g A2 n c2 n) := by
        apply Lib.hid
        subst hw5
        have h := Rdr.set1 (HR.out.drewN m) n
        simpa using h
      replace HP : Hid (Past w w5) := by
        subst hw5
        exact (HP.out.drewN m).setCell HG.out _
      have ht : (ys.drop 0).take n = ys := by rw [List.drop_zero, List.take_of_length_le (by rw [HL.out]; exact Nat.le_refl _)]
      rw [ht, HM.out]
      clear hw5 ht
      go_wp2_with fail
      refine (left_any _ g A2 n c2 n HR2.out (Nat.le_refl _) (by omega)).mono ?_
      rintro e w' ⟨rfl, m2, rfl⟩
      rw [Nat.sub_self]
      go_wp2_with fail
      go_ret
      exact ⟨rfl, HP.out.drewN m2⟩
    · have hx : (a1 / 2 ^ (8 * n) != 0) = true := by
        cases h : (a1 / 2 ^ (8 * n) != 0) with
        | true => rfl
        | false => exact absurd ((fits_iff n a1).1 h) hfit
      have H1 := Lib.hid (put_big n a1 · hws hx)
      have H2 : Hid (∀ W, Calls Try.prog 18 #[.int .i64 (n : Int), .int .u64 a1] W fun e w' => e = .returned (.tuple #[.slice none 0 0, .bool false]) ∧ Past W w') := fun W => (hr W).mono (by
        intro e w' h
        unfold RPut at h
        rwa [if_neg hfit] at h)
      clear hws w0 w1 h0 h1 hr hfit hx
      go_enter Try.func4, Try.ntmps4
      go_wp2_with fail
      refine (awake_any _).mono ?_
      rintro e w1 ⟨rfl, hp1⟩
      have HP := Lib.hid hp1
      clear hp1
      go_wp2_with fail
      refine (H1.out _).mono ?_
      rintro e w' ⟨rfl, rfl⟩
      go_wp2_with fail
      refine (H2.out _).mono ?_
      rintro e w2 ⟨rfl, hp⟩
      replace HP := Lib.hid (HP.out.trans' hp)
      clear hp
      go_wp2_with fail
      refine (rsame_nil _).mono ?_
      rintro e w' ⟨rfl, m, rfl⟩
      go_wp2_with fail
      go_ret
      exact ⟨rfl, HP.out.drewN m⟩

set_option maxRecDepth 100000 in
theorem lifted (os : Os) (started : os.Started) (H : Type) (enc : TypeId × Value → H) :
    ReturnsInHanded {} Try.checked os 4 .any (Rows.wirePutsSpec.pre6 enc Try.prog Try.f4 Rows.wirePutsRow.domain false) (Rows.wirePutsSpec.post enc Try.prog Try.f4 false true false false) := by
  refine returnsInHanded_of_change (C := Try.checked) own started (by kernel_rfl) Try.func4
    (ChangeSpec.witness6 (enc := enc) (C := Try.checked) false ⟨#[], #[.int .i64 0, .int .u64 0], []⟩ 8 (by kernel_rfl) (by kernel_rfl) (by kernel_rfl) (by kernel_rfl)) ?_
  intro W base args ds gs before hval0 hW hcnd _
  have hval : ∀ (j : Nat) t v, Try.f4.params[j]? = some t → args[j]? = some v → Value.okWide Try.prog W .any base t v := hval0
  have hW' := hW
  obtain ⟨p, q, hA0, hV, rfl, hfz, hnd⟩ := hW
  have hA : DataW.TrodAll enc Try.prog W 0 (fun _ => true) true Try.f4.params.toList args.toList ds p := hA0
  rw [Try.params4] at hA hval
  obtain ⟨v0, vs0, d0, ds0, p0, q0, hargs, rfl, rfl, h0, r0⟩ := trodAll_cons hA
  obtain ⟨v1, vs1, d1, ds1, p1, q1, rfl, rfl, rfl, h1, r1⟩ := trodAll_cons r0
  obtain ⟨rfl, rfl, rfl⟩ := trodAll_nil r1
  obtain rfl : args = #[v0, v1] := by cases args; simp_all
  obtain ⟨rfl, rfl⟩ := trodVars_none hV
  obtain ⟨a0, rfl, rfl, rfl, w0⟩ := open_int Try.underlying3 (hval 0 3 v0 rfl rfl) h0
  obtain ⟨a1, rfl, rfl, rfl, w1⟩ := open_int Try.underlying29 (hval 1 29 v1 rfl rfl) h1
  clear hA0 hval0
  simp only [List.append_nil] at hW'
  refine (walk a0 a1 w0 w1 W).mono fun e W' ⟨he, bel⟩ => ?_
  subst he
  exact ⟨_, rfl, _, _, _, [], _, [], hW', trodAll_mk1 (shut_bool Try.underlying4 _), (trodAll_cons_mk (shut_int Try.underlying3 w0) (trodAll_cons_mk (shut_int Try.underlying29 w1) trodAll_mk0)), rfl, bel.frame _, fun h => by cases h⟩

theorem over : Rows.wirePutsRow.holds Try.pinned (OpenSpec.ofChange Rows.wirePutsSpec) :=
  OpenClaim.holds_of_wide 4 Try.f4 rfl rfl rfl rfl rfl rfl rfl ⟨rfl, rfl, rfl, rfl, rfl⟩ rfl rfl rfl rfl rfl (by kernel_rfl) Try.func4 (by kernel_rfl)
    (of_decide_eq_true (by kernel_rfl)) (by unfold Func.isWrapper; first | (rw [if_pos (by decide +kernel)]; kernel_rfl) | (rw [if_neg (by decide +kernel)]; exact ⟨rfl, rfl⟩))
    (fun os started H enc _ => lifted os started H enc)

theorem proved : Rows.WirePutsSaid :=
  over
end Go.Proofs.Ytjoncepjeijmoaa.wirePuts
