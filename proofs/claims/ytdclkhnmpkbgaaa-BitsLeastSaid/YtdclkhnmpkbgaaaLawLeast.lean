/- For every number and every width the law BitsLeast of package pyxlaw05 returns true; there is no further condition. -/
import Derived.Test.YtdclkhnmpkbgaaaFrame
namespace Go.Proofs.Ytdclkhnmpkbgaaa.bitsLeast
open Go.ChangeShapes Go.WideShapes Go.ChangeAt Go.RowKit
set_option linter.unusedVariables false

theorem none_low {d x : Int} (h : d < 1) : rpack d [x] = none := by
  unfold rpack
  rw [if_pos (.inl h)]
theorem none_high {d x : Int} (h : 32 < d) : rpack d [x] = none := by
  unfold rpack
  rw [if_pos (.inr (.inl h))]
theorem less_iff {d x : Int} (h0 : 0 ≤ x) (h1 : 1 ≤ d) : (leastN x.toNat : Int) ≤ d ↔ x < 2 ^ d.toNat := by
  have h := leastN_le d.toNat x.toNat
  have e : ((2 ^ d.toNat : Nat) : Int) = 2 ^ d.toNat := Int.natCast_pow 2 d.toNat
  omega
theorem none_wide {d x : Int} (h0 : 0 ≤ x) (h1 : 1 ≤ d) (h : ¬ (leastN x.toNat : Int) ≤ d) : rpack d [x] = none := by
  unfold rpack
  rw [if_pos (.inr (.inr ⟨0, by simp, fun hc => h ((less_iff h0 h1).2 (by simpa using hc))⟩))]
theorem some_low {d x : Int} (h0 : 0 ≤ x) (h1 : 1 ≤ d) (h2 : d ≤ 32) (h : (leastN x.toNat : Int) ≤ d) : ∃ ys, rpack d [x] = some ys := by
  refine ⟨packs d.toNat [x] (nbytes d.toNat 1), ?_⟩
  unfold rpack
  rw [if_neg]
  · rfl
  · rintro (hc | hc | ⟨i, hi, hc⟩)
    · omega
    · omega
    · obtain rfl : i = 0 := by simpa using hi
      exact hc (by simpa using (less_iff h0 h1).1 h)
theorem one_rng {x : Int} (h0 : 0 ≤ x) (h1 : x < 4294967296) : ∀ i, 0 ≤ [x].getD i 0 ∧ [x].getD i 0 < 4294967296 := rng_of (by simp; omega)
theorem one_slice (w : World) (x : Int) : SlK .u32 (w.alloc (.cells #[.int .u32 x] 35)) (some ⟨w.heap.size, 0, none⟩) 1 1 [x] := lit_slK w 35 .u32 [x] #[.int .u32 x] rfl (by simp)

set_option maxHeartbeats 1000000 in
theorem walk (x d : Int) (w : World) (wx : (Lit.int .u32 x).wf = true) (wd : (Lit.int .i64 d).wf = true) :
    Calls Try.prog 7 #[.int .u32 x, .int .i64 d] w fun e w' => e = .returned (.bool true) ∧ Past w w' := by
  have hx := bounds_u32 wx
  clear wx wd
  have h0 : 0 ≤ x := hx.1
  have h1 : x < 4294967296 := by omega
  have HA := fun w => Lib.hid (awake_any w)
  have HL1 := fun w => Lib.hid (pleast_any x w h0 h1)
  have HL2 := fun w => Lib.hid (rleast_any x.toNat w (by omega))
  rw [Int.toNat_of_nonneg h0] at HL2
  have HPK := fun w => Lib.hid (ppack_any d _ 1 1 [x] _ (one_slice w x) (one_rng h0 h1) (by decide))
  by_cases d1 : d < 1
  · rw [none_low d1] at HPK
    generalize leastN x.toNat = L at *
    go_enter Try.func7, Try.ntmps7
    go_wp2_with fail
    refine (HA _).out.mono ?_
    rintro e w1 ⟨rfl, hp⟩
    have H1 := Lib.hid hp
    clear hp
    go_wp2_with fail
    refine (HL1 _).out.mono ?_
    rintro e w' ⟨rfl, rfl⟩
    go_wp2_with fail
    refine (HL2 _).out.mono ?_
    rintro e w' ⟨rfl, rfl⟩
    go_wp2_with fail
    refine (HPK _).out.mono ?_
    rintro e w2 ⟨rfl, hp⟩
    replace H1 := Lib.hid (H1.out.trans' ((past_alloc _ _).trans' hp))
    clear hp
    go_wp2_with fail
    go_ret
    exact ⟨rfl, H1.out⟩
  · by_cases d2 : 32 < d
    · rw [none_high d2] at HPK
      generalize leastN x.toNat = L at *
      have d1' : 1 ≤ d := by omega
      clear d1
      go_enter Try.func7, Try.ntmps7
      go_wp2_with fail
      refine (HA _).out.mono ?_
      rintro e w1 ⟨rfl, hp⟩
      have H1 := Lib.hid hp
      clear hp
      go_wp2_with fail
      refine (HL1 _).out.mono ?_
      rintro e w' ⟨rfl, rfl⟩
      go_wp2_with fail
      refine (HL2 _).out.mono ?_
      rintro e w' ⟨rfl, rfl⟩
      go_wp2_with fail
      refine (HPK _).out.mono ?_
      rintro e w2 ⟨rfl, hp⟩
      replace H1 := Lib.hid (H1.out.trans' ((past_alloc _ _).trans' hp))
      clear hp
      go_wp2_with fail
      go_ret
      exact ⟨rfl, H1.out⟩
    · have d1' : 1 ≤ d := by omega
      have d2' : d ≤ 32 := by omega
      clear d1 d2
      by_cases hl : (leastN x.toNat : Int) ≤ d
      · obtain ⟨ys, hys⟩ := some_low h0 d1' d2' hl
        rw [hys] at HPK
        clear hys
        generalize leastN x.toNat = L at *
        go_enter Try.func7, Try.ntmps7
        go_wp2_with fail
        refine (HA _).out.mono ?_
        rintro e w1 ⟨rfl, hp⟩
        have H1 := Lib.hid hp
        clear hp
        go_wp2_with fail
        refine (HL1 _).out.mono ?_
        rintro e w' ⟨rfl, rfl⟩
        go_wp2_with fail
        refine (HL2 _).out.mono ?_
        rintro e w' ⟨rfl, rfl⟩
        go_wp2_with fail
        refine (HPK _).out.mono ?_
        rintro e w2 ⟨B, nb, cb, rfl, _, hp⟩
        replace H1 := Lib.hid (H1.out.trans' ((past_alloc _ _).trans' hp))
        clear hp
        go_wp2_with fail
        refine (HL2 _).out.mono ?_
        rintro e w' ⟨rfl, rfl⟩
        go_wp2_with fail
        go_ret
        exact ⟨rfl, H1.out⟩
      · rw [none_wide h0 d1' hl] at HPK
        generalize leastN x.toNat = L at *
        have hlb : decide ((L : Int) ≤ d) = false := by simpa using hl
        go_enter Try.func7, Try.ntmps7
        go_wp2_with fail
        refine (HA _).out.mono ?_
        rintro e w1 ⟨rfl, hp⟩
        have H1 := Lib.hid hp
        clear hp
        go_wp2_with fail
        refine (HL1 _).out.mono ?_
        rintro e w' ⟨rfl, rfl⟩
        go_wp2_with fail
        refine (HL2 _).out.mono ?_
        rintro e w' ⟨rfl, rfl⟩
        go_wp2_with fail
        refine (HPK _).out.mono ?_
        rintro e w2 ⟨rfl, hp⟩
        replace H1 := Lib.hid (H1.out.trans' ((past_alloc _ _).trans' hp))
        clear hp
        go_wp2_with fail
        refine (HL2 _).out.mono ?_
        rintro e w' ⟨rfl, rfl⟩
        go_wp2_with fail
        go_ret
        exact ⟨rfl, H1.out⟩

set_option maxRecDepth 100000 in
theorem lifted (os : Os) (started : os.Started) (H : Type) (enc : TypeId × Value → H) :
    ReturnsInHanded {} Try.checked os 7 .any (Rows.bitsLeastSpec.pre6 enc Try.prog Try.f7 Rows.bitsLeastRow.domain false) (Rows.bitsLeastSpec.post enc Try.prog Try.f7 false true false false) := by
  refine returnsInHanded_of_change (C := Try.checked) own started (by kernel_rfl) Try.func7
    (ChangeSpec.witness6 (enc := enc) (C := Try.checked) false ⟨#[], #[.int .u32 0, .int .i64 0], []⟩ 8 (by kernel_rfl) (by kernel_rfl) (by kernel_rfl) (by kernel_rfl)) ?_
  intro W base args ds gs before hval0 hW hcnd _
  have hval : ∀ (j : Nat) t v, Try.f7.params[j]? = some t → args[j]? = some v → Value.okWide Try.prog W .any base t v := hval0
  have hW' := hW
  obtain ⟨p, q, hA0, hV, rfl, hfz, hnd⟩ := hW
  have hA : DataW.TrodAll enc Try.prog W 0 (fun _ => true) true Try.f7.params.toList args.toList ds p := hA0
  rw [Try.params7] at hA hval
  obtain ⟨v0, vs0, d0, ds0, p0, q0, hargs, rfl, rfl, h0, r0⟩ := trodAll_cons hA
  obtain ⟨v1, vs1, d1, ds1, p1, q1, rfl, rfl, rfl, h1, r1⟩ := trodAll_cons r0
  obtain ⟨rfl, rfl, rfl⟩ := trodAll_nil r1
  obtain rfl : args = #[v0, v1] := by cases args; simp_all
  obtain ⟨rfl, rfl⟩ := trodVars_none hV
  obtain ⟨a0, rfl, rfl, rfl, w0⟩ := open_int Try.underlying35 (hval 0 35 v0 rfl rfl) h0
  obtain ⟨a1, rfl, rfl, rfl, w1⟩ := open_int Try.underlying3 (hval 1 3 v1 rfl rfl) h1
  clear hA0 hval0
  refine (walk a0 a1 W w0 w1).mono fun e W' ⟨he, bel⟩ => ?_
  subst he
  exact ⟨_, rfl, _, _, _, [], _, [], hW', trodAll_mk1 (shut_bool Try.underlying4 _), (trodAll_cons_mk (shut_int Try.underlying35 w0) (trodAll_cons_mk (shut_int Try.underlying3 w1) trodAll_mk0)), rfl, bel.frame _, fun h => by cases h⟩

theorem over : Rows.bitsLeastRow.holds Try.pinned (OpenSpec.ofChange Rows.bitsLeastSpec) :=
  OpenClaim.holds_of_wide 7 Try.f7 rfl rfl rfl rfl rfl rfl rfl ⟨rfl, rfl, rfl, rfl, rfl⟩ rfl rfl rfl rfl rfl (by kernel_rfl) Try.func7 (by kernel_rfl)
    (of_decide_eq_true (by kernel_rfl)) (by unfold Func.isWrapper; first | (rw [if_pos (by decide +kernel)]; kernel_rfl) | (rw [if_neg (by decide +kernel)]; exact ⟨rfl, rfl⟩))
    (fun os started H enc _ => lifted os started H enc)

theorem proved : Rows.BitsLeastSaid := over

end Go.Proofs.Ytdclkhnmpkbgaaa.bitsLeast
