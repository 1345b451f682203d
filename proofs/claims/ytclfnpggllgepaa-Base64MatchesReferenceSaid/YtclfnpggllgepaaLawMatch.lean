/- For every alphabet and every string the law Base64MatchesReference of package pyxlaw04 returns true; there is no further condition. -/
import Derived.Test.YtclfnpggllgepaaFrame
import Derived.ChangeMaps5
namespace Go.Proofs.Ytclfnpggllgepaa.base64Matches
open Go.ChangeShapes Go.WideShapes Go.ChangeAt Go.RowKit
open Go.ChangeMaps (open_string shut_string)
set_option linter.unusedVariables false

theorem walk (al : Int) (s : ByteArray) (w : World) (w0 : (Lit.int .i64 al).wf = true) (ws : s.size ≤ maxLen) :
    Calls Try.prog 3 #[.int .i64 al, .string s] w fun e w' => e = .returned (.bool true) ∧ Past w w' := by
  clear w0
  unfold maxLen at ws
  by_cases hs : 500 < s.size
  · go_enter Try.func3, Try.ntmps3
    go_wp2_with fail
    refine (awake_any _).mono ?_
    rintro e w1 ⟨rfl, hp⟩
    have HP := Lib.hid hp
    clear hp
    go_wp2_with fail
    refine (awake_any _).mono ?_
    rintro e w2 ⟨rfl, hp⟩
    replace HP := Lib.hid (HP.out.trans' hp)
    clear hp
    go_wp2_with fail
    go_ret
    exact ⟨rfl, HP.out⟩
  · have H1 := Lib.hid (fun w => pdecode_any al s w (by omega))
    have H2 := Lib.hid (fun w => rdecode_any al s w (by omega))
    cases hd : rdec al s with
    | none =>
      rw [hd] at H1 H2
      clear hd
      go_enter Try.func3, Try.ntmps3
      go_wp2_with fail
      refine (awake_any _).mono ?_
      rintro e w1 ⟨rfl, hp⟩
      have HP := Lib.hid hp
      clear hp
      go_wp2_with fail
      refine (H1.out _).mono ?_
      rintro e w2 ⟨rfl, hp⟩
      replace HP := Lib.hid (HP.out.trans' hp)
      clear hp
      go_wp2_with fail
      refine (H2.out _).mono ?_
      rintro e w3 ⟨rfl, hp⟩
      replace HP := Lib.hid (HP.out.trans' hp)
      clear hp
      go_wp2_with fail
      refine (rsame_nil _).mono ?_
      rintro e w4 ⟨rfl, m, rfl⟩
      replace HP := Lib.hid (HP.out.drewN m)
      go_wp2_with fail
      go_ret
      exact ⟨rfl, HP.out⟩
    | some xs =>
      obtain ⟨ha, he, hr⟩ := renc_of_rdec hd
      rw [hd] at H1 H2
      have hn : xs.length ≤ 500 := by
        have h1 := txt_size (renc al xs xs.length)
        rw [he, renc_len ha] at h1
        split at h1 <;> omega
      have HE := Lib.hid he
      clear hd he hr ha
      go_enter Try.func3, Try.ntmps3
      go_wp2_with fail
      refine (awake_any _).mono ?_
      rintro e w1 ⟨rfl, hp⟩
      have HP := Lib.hid hp
      clear hp
      go_wp2_with fail
      refine (H1.out _).mono ?_
      rintro e w2 ⟨A, n, c, rfl, hs1, hp⟩
      obtain rfl : n = xs.length := hs1.len.symm
      have HS1 := Lib.hid hs1
      replace HP := Lib.hid (HP.out.trans' hp)
      clear hp hs1
      go_wp2_with fail
      refine (H2.out _).mono ?_
      rintro e w3 ⟨A2, n2, c2, rfl, hs2, hp⟩
      obtain rfl : n2 = xs.length := hs2.len.symm
      have HS2 := Lib.hid hs2
      replace HS1 := Lib.hid (HS1.out.past hp)
      replace HP := Lib.hid (HP.out.trans' hp)
      clear hp hs2
      go_wp2_with fail
      refine (rsame_self _ _ _ _ _ xs _ HS1.out HS2.out).mono ?_
      rintro e w4 ⟨rfl, m, rfl⟩
      replace HS1 := Lib.hid (HS1.out.drewN m)
      replace HP := Lib.hid (HP.out.drewN m)
      go_wp2_with fail
      refine (pencode_any al _ _ _ xs _ HS1.out (by omega)).mono ?_
      rintro e w5 ⟨rfl, hp⟩
      replace HP := Lib.hid (HP.out.trans' hp)
      clear hp
      rw [HE.out]
      go_wp2_with fail
      go_ret
      exact ⟨rfl, HP.out⟩

set_option maxRecDepth 100000 in
theorem lifted (os : Os) (started : os.Started) (H : Type) (enc : TypeId × Value → H) :
    ReturnsInHanded {} Try.checked os 3 .any (Rows.base64MatchesReferenceSpec.pre6 enc Try.prog Try.f3 Rows.base64MatchesReferenceRow.domain false) (Rows.base64MatchesReferenceSpec.post enc Try.prog Try.f3 false true false false) := by
  refine returnsInHanded_of_change (C := Try.checked) own started (by kernel_rfl) Try.func3
    (ChangeSpec.witness6 (enc := enc) (C := Try.checked) false ⟨#[], #[.int .i64 0, .string ⟨#[]⟩], []⟩ 8 (by kernel_rfl) (by kernel_rfl) (by kernel_rfl) (by kernel_rfl)) ?_
  intro W base args ds gs before hval0 hW hcnd _
  have hval : ∀ (j : Nat) t v, Try.f3.params[j]? = some t → args[j]? = some v → Value.okWide Try.prog W .any base t v := hval0
  have hW' := hW
  obtain ⟨p, q, hA0, hV, rfl, hfz, hnd⟩ := hW
  have hA : DataW.TrodAll enc Try.prog W 0 (fun _ => true) true Try.f3.params.toList args.toList ds p := hA0
  rw [Try.params3] at hA hval
  obtain ⟨v0, vs0, d0, ds0, p0, q0, hargs, rfl, rfl, h0, r0⟩ := trodAll_cons hA
  obtain ⟨v1, vs1, d1, ds1, p1, q1, rfl, rfl, rfl, h1, r1⟩ := trodAll_cons r0
  obtain ⟨rfl, rfl, rfl⟩ := trodAll_nil r1
  obtain rfl : args = #[v0, v1] := by cases args; simp_all
  obtain ⟨rfl, rfl⟩ := trodVars_none hV
  obtain ⟨a0, rfl, rfl, rfl, w0⟩ := open_int Try.underlying3 (hval 0 3 v0 rfl rfl) h0
  obtain ⟨s1, rfl, rfl, rfl, ws1⟩ := open_string Try.underlying9 (hval 1 9 v1 rfl rfl) h1
  clear hA0 hval0
  refine (walk a0 s1 W w0 ws1).mono fun e W' ⟨he, bel⟩ => ?_
  subst he
  exact ⟨_, rfl, _, _, _, [], _, [], hW', trodAll_mk1 (shut_bool Try.underlying4 _), (trodAll_cons_mk (shut_int Try.underlying3 w0) (trodAll_cons_mk (shut_string Try.underlying9 ws1) trodAll_mk0)), rfl, bel.frame _, fun h => by cases h⟩

theorem over : Rows.base64MatchesReferenceRow.holds Try.pinned (OpenSpec.ofChange Rows.base64MatchesReferenceSpec) :=
  OpenClaim.holds_of_wide 3 Try.f3 rfl rfl rfl rfl rfl rfl rfl ⟨rfl, rfl, rfl, rfl, rfl⟩ rfl rfl rfl rfl rfl (by kernel_rfl) Try.func3 (by kernel_rfl)
    (of_decide_eq_true (by kernel_rfl)) (by unfold Func.isWrapper; first | (rw [if_pos (by decide +kernel)]; kernel_rfl) | (rw [if_neg (by decide +kernel)]; exact ⟨rfl, rfl⟩))
    (fun os started H enc _ => lifted os started H enc)

theorem proved : Rows.Base64MatchesReferenceSaid := over
end Go.Proofs.Ytclfnpggllgepaa.base64Matches
