/- For every index and number, Root and Reduce answer as the reference does; for every input of the statement, with no condition. -/
import Derived.Test.YtmhhkhbdjkbklaaM14G
import Derived.Test.YtmhhkhbdjkbklaaFrame14
namespace Go.Proofs.Ytmhhkhbdjkbklaa.kringRoots
open Go.RowKit Go.ChangeShapes Go.WideShapes Go.ChangeAt
set_option linter.unusedVariables false

theorem walk (H : Prog14) (i n : Int) (w : World) (hi : (Lit.int .i64 i).wf = true) (hn : (Lit.int .i64 n).wf = true) :
    Calls Try.prog 7 #[.int .i64 i, .int .i64 n] w fun e w' => e = .returned (.bool true) ∧ Past w w' := by
  have HAW := Lib.hid (fun w => awake14 H w)
  obtain ⟨n0, n1⟩ := bounds_i64 hn
  have HRE := Lib.hid (fun w => H.reduce n w (by omega) (by omega))
  obtain ⟨x, hx⟩ : ∃ x, n % 3329 = x := ⟨_, rfl⟩
  have x0 : 0 ≤ x := by omega
  have x1 : x < 3329 := by omega
  rw [hx] at HRE
  obtain ⟨t, ht⟩ : ∃ t, n.tmod 3329 = t := ⟨_, rfl⟩
  have htx : t = x ∨ t = x - 3329 := by
    rcases (show 0 ≤ n ∨ n < 0 by omega) with h | h
    · rw [Int.tmod_eq_emod_of_nonneg h] at ht
      omega
    · have := Int.tmod_eq_emod (a := n) (b := 3329)
      rw [ht] at this
      split at this <;> omega
  have hw1 : IntKind.i64.wrap t = t := by rw [IntKind.wrap_i64]; omega
  obtain ⟨d, hd⟩ : ∃ d, t - x = d := ⟨_, rfl⟩
  have hd2 : d.tmod 3329 = 0 := by
    rcases (show d = 0 ∨ d = -3329 by omega) with h | h <;> rw [h] <;> decide
  have hw2 : IntKind.i64.wrap (t - x) = d := by rw [hd, IntKind.wrap_i64]; omega
  have hx1 : ¬ (3328 : Int) < x := by omega
  have HD := Lib.hid (And.intro hx ht)
  by_cases hin : 0 ≤ i ∧ i ≤ 127
  · obtain ⟨j, rfl⟩ : ∃ j : Nat, i = (j : Int) := ⟨i.toNat, by omega⟩
    have hj : j < 128 := by omega
    have HRI := Lib.hid (fun w => H.rootIn j w hj)
    have HRR := Lib.hid (fun w => rroot_any j hj w)
    obtain ⟨z0, z1⟩ := rt_lt j
    obtain ⟨z, hz⟩ : ∃ z, rt j = z := ⟨_, rfl⟩
    rw [hz] at HRI HRR z0 z1
    have hj0 : ¬ (j : Int) < 0 := by omega
    have hj1 : ¬ (127 : Int) < (j : Int) := by omega
    clear H hin hi hn hx hz hj htx hd n0 n1
    go_enter Try.func7, Try.ntmps7
    go_wp2_with fail
    refine (HAW.out w).mono ?_
    rintro e w1 ⟨rfl, hp⟩
    have H1 := Lib.hid hp
    clear hp
    go_wp2_with fail
    refine (HRI.out w1).mono ?_
    rintro e w2 ⟨rfl, hp⟩
    have H2 := Lib.hid (H1.out.trans' hp)
    clear hp
    go_wp2_with fail
    refine (HRE.out w2).mono ?_
    rintro e w3 ⟨rfl, rfl⟩
    go_wp2_with fail
    refine (HRR.out w3).mono ?_
    rintro e w4 ⟨rfl, rfl⟩
    go_wp2_with fail
    go_ret
    exact ⟨rfl, H2.out⟩
  · have ho : i < 0 ∨ 127 < i := by omega
    have HRO := Lib.hid (fun w => H.rootOut i w ho)
    rcases ho with ho | ho
    case' inl => have ho2 : ¬ (127 : Int) < i := by omega
    case' inr => have ho2 : ¬ i < 0 := by omega
    all_goals
      clear H hin hi hn hx htx hd n0 n1
      go_enter Try.func7, Try.ntmps7
      go_wp2_with fail
      refine (HAW.out w).mono ?_
      rintro e w1 ⟨rfl, hp⟩
      have H1 := Lib.hid hp
      clear hp
      go_wp2_with fail
      refine (HRO.out w1).mono ?_
      rintro e w2 ⟨rfl, hp⟩
      have H2 := Lib.hid (H1.out.trans' hp)
      clear hp
      go_wp2_with fail
      refine (HRE.out w2).mono ?_
      rintro e w3 ⟨rfl, rfl⟩
      go_wp2_with fail
      go_ret
      exact ⟨rfl, H2.out⟩

set_option maxRecDepth 100000 in
theorem lifted (H7 : Prog14) (os : Os) (started : os.Started) (H : Type) (enc : TypeId × Value → H) :
    ReturnsInHanded {} Try.checked os 7 .any (Rows.kringRootsSpec.pre6 enc Try.prog Try.f7 Rows.kringRootsRow.domain false) (Rows.kringRootsSpec.post enc Try.prog Try.f7 false true false false) := by
  refine returnsInHanded_of_change (C := Try.checked) own started (by kernel_rfl) Try.func7
    (ChangeSpec.witness6 (enc := enc) (C := Try.checked) false ⟨#[], #[.int .i64 0, .int .i64 0], []⟩ 8 (by kernel_rfl) (by kernel_rfl) (by kernel_rfl) (by kernel_rfl)) ?_
  intro W base args ds gs before hval0 hW hcnd _
  have hval : ∀ (j : Nat) t v, Try.f7.params[j]? = some t → args[j]? = some v → Value.okWide Try.prog W .any base t v := hval0
  have hW' := hW
  obtain ⟨p, q, hA0, hV, rfl, hfz, hnd⟩ := hW
  have hA : DataW.TrodAll enc Try.prog W 0 (fun _ => true) true Try.f7.params.toList args.toList ds p := hA0
  rw [Try.params7] at hA hval
  obtain ⟨v0, vs0, d0, ds0, p0, q0, hargs, rfl, rfl, h0, r0⟩ := trodAll_cons hA
  obtain ⟨v1, vs1, d1, ds1, p1, q1, rfl, rfl, rfl, h1, r1⟩ := trodAll_cons r0
  obtain ⟨rfl, rfl, rfl⟩ := trodAll_nil r1
  obtain rfl : args = #[v0, v1] := by cases args; simp_all
  obtain ⟨rfl, rfl⟩ := trodVars_none hV
  obtain ⟨a0, rfl, rfl, rfl, w0⟩ := open_int Try.underlying3 (hval 0 3 v0 rfl rfl) h0
  obtain ⟨a1, rfl, rfl, rfl, w1⟩ := open_int Try.underlying2 (hval 1 2 v1 rfl rfl) h1
  clear hA0 hval0
  refine (walk H7 a0 a1 W w0 w1).mono fun e W' ⟨he, bel⟩ => ?_
  subst he
  exact ⟨_, rfl, _, _, _, [], _, [], hW', trodAll_mk1 (shut_bool Try.underlying4 _), (trodAll_cons_mk (shut_int Try.underlying3 w0) (trodAll_cons_mk (shut_int Try.underlying2 w1) trodAll_mk0)), rfl, bel.frame _, fun h => by cases h⟩

theorem over (H7 : Prog14) : Rows.kringRootsRow.holds Try.pinned (OpenSpec.ofChange Rows.kringRootsSpec) :=
  OpenClaim.holds_of_wide 7 Try.f7 rfl rfl rfl rfl rfl rfl rfl ⟨rfl, rfl, rfl, rfl, rfl⟩ rfl rfl rfl rfl rfl (by kernel_rfl) Try.func7 (by kernel_rfl)
    (of_decide_eq_true (by kernel_rfl)) (by unfold Func.isWrapper; first | (rw [if_pos (by decide +kernel)]; kernel_rfl) | (rw [if_neg (by decide +kernel)]; exact ⟨rfl, rfl⟩))
    (fun os started H enc _ => lifted H7 os started H enc)
theorem proved : Rows.KringRootsSaid := over prog14
#print axioms proved
end Go.Proofs.Ytmhhkhbdjkbklaa.kringRoots
