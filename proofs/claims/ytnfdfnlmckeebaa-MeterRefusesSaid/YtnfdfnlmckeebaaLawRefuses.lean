/- For every budget and every list of numbers the law MeterRefuses of package pyxlaw03 returns true and leaves its arguments alone; there is no further condition. -/
import Derived.Test.YtnfdfnlmckeebaaFrame
namespace Go.Proofs.Ytnfdfnlmckeebaa.meterRefuses
open Go.ChangeShapes Go.WideShapes Go.ChangeAt Go.RowKit
set_option linter.unusedVariables false

/-- What is known at the head of the loop. -/
def At (w : World) (g h : Nat) (B : Int) (s : Value) (wr : World) : Prop := ∃ c : Int, s = .int .i64 c ∧ Two w wr g h B c c

set_option maxHeartbeats 1000000 in
theorem field_budget (B : Int) (w : World) : (Instr.field 27 (.agg #[.int .i64 0, .int .i64 B]) 1).run Try.prog w = .ok (.int .i64 B) w := by kernel_rfl

theorem walk' (b : Int) (A : Option Addr) (n cap : Nat) (xs : List Int) (w : World) (hl : L64 w A n cap xs) :
    Calls Try.prog 5 #[.int .i64 b, .slice A n cap] w fun e w' => e = .returned (.bool true) ∧ Past w w' := by
  have hB := clamp_rng b
  have hcap := hl.cap
  have hbig := hl.big
  unfold maxLen at hbig
  obtain ⟨hB0, hB1⟩ := hB
  have HNew : Hid (∀ w0, Calls Try.prog 8 #[.int .i64 b] w0 fun e w' => e = .returned (.agg #[.int .i64 0, .int .i64 (clamp b)]) ∧ Past w0 w') := Lib.hid (rnew_any b)
  have hm := fun (w0 : World) (h : Past w w0) => (new_any b w0).mono (R' := fun e w' => ∃ g, e = .returned (.pointer (some ⟨g, 0, none⟩)) ∧ Past w0 w' ∧ Own w w' g (clamp b) 0 ∧ g = w0.heap.size) (fun _ _ ⟨he, hw⟩ => ⟨_, he, by rw [hw]; exact (Below.refl _ _).alloc (Nat.le_refl _) _, by rw [hw]; exact Own.made h b, rfl⟩)
  generalize clamp b = B at *
  have HM := Lib.hid hm
  have HL := Lib.hid hl
  have hfd := field_budget B
  clear hm hl
  by_cases t1 : 300 < n
  all_goals
    go_enter Try.func5, Try.ntmps5
    go_wp2_with fail
    refine (HM.out _ (Below.refl _ w)).mono ?_
    rintro e w1 ⟨g, rfl, hp1, h1, hs1⟩
    have H1 := Lib.hid h1
    have HS := Lib.hid hs1
    clear hp1 h1 hs1
    go_wp2_with fail
    refine (HM.out _ H1.out.1).mono ?_
    rintro e w2 ⟨h, rfl, hp2, h2, hs2⟩
    have ht : Two w w2 g h B 0 0 := ⟨H1.out.later hp2, h2, by
      have := H1.out.2.1.lt
      omega⟩
    have HT := Lib.hid ht
    clear hp2 h2 hs2 HS ht H1
    go_wp2_with fail
    refine (awake_any _).mono ?_
    rintro e w3 ⟨rfl, hp⟩
    replace HT := Lib.hid (HT.out.later hp)
    clear hp
    go_wp2_with fail
  · refine (awake_any _).mono ?_
    rintro e w4 ⟨rfl, hp⟩
    replace HT := Lib.hid (HT.out.later hp)
    clear hp
    go_wp2_with fail
    go_ret
    exact ⟨rfl, HT.out.1.1⟩
  · go_loopw [7, 8] (fun s i wr => ∃ k : Nat, k ≤ n ∧ i = .int .i64 k ∧ Hid (At w g h B s wr)) (fun _ i _ => n - (intOf i).toNat)
    case atStart => exact ⟨0, Nat.zero_le _, rfl, Lib.hid ⟨0, rfl, HT.out⟩⟩
    case round =>
      clear HT
      obtain ⟨k, hk, rfl, hi⟩ := hrel
      obtain ⟨c, rfl, ht⟩ := hi.out
      have hc0 := ht.1.2.2.2.1
      have hcB := ht.1.2.2.2.2.1
      have HT := Lib.hid ht
      clear ht
      by_cases hlt : k < n
      · obtain ⟨p, o, rfl, hcell⟩ := (HL.out.past HT.out.1.1).cells (by omega)
        have HCE : Hid (∀ wx, Past w wx → wx.cell? ⟨p, o + k, none⟩ = some (.int .i64 (xs.getD k 0))) := Lib.hid (fun (wx : World) (hp : Past w wx) => by
          have hx := (HL.out.past hp).cells (by omega)
          obtain ⟨p', o', e, hx⟩ := hx
          injection e with e
          injection e with e1 e2
          subst e1 e2
          exact hx k hlt)
        have hck := hcell k hlt
        clear hcell
        have hrg := HL.out.rng k
        generalize xs.getD k 0 = x at *
        obtain ⟨hr0, hr1⟩ := hrg
        by_cases hx : 0 ≤ x ∧ x ≤ B - c
        · obtain ⟨hx0, hx1⟩ := hx
          have hcx : c + x ≤ B := by omega
          go_wp2_with fail
          refine (HT.out.add1_ok hx0 hx1).mono ?_
          rintro e w4 ⟨rfl, ht⟩
          replace HT := Lib.hid ht
          have hck := HCE.out _ ht.1.1
          clear ht
          go_wp2_with fail
          refine (HT.out.add2_ok hx0 hx1).mono ?_
          rintro e w5 ⟨rfl, ht⟩
          replace HT := Lib.hid ht
          have hck := HCE.out _ ht.1.1
          clear ht
          go_wp2_with fail
          go_roundw
          case rel => exact ⟨k + 1, by omega, by go_num, Lib.hid ⟨c + x, rfl, HT.out⟩⟩
          case measure => simp [intOf]; omega
        · have hno : x < 0 ∨ B - c < x := by omega
          have HNO := Lib.hid hno
          clear hno hx
          go_wp2_with fail
          refine (HT.out.1.add_no HNO.out).mono ?_
          rintro e w' ⟨rfl, rfl⟩
          go_wp2_with fail
          go_roundw
          case rel => exact ⟨k + 1, by omega, by go_num, Lib.hid ⟨c, rfl, HT.out⟩⟩
          case measure => simp [intOf]; omega
      · go_wp2_with fail
        refine (HT.out.1.count).mono ?_
        rintro e w' ⟨rfl, rfl⟩
        go_wp2_with fail
        refine (HT.out.2.1.count).mono ?_
        rintro e w' ⟨rfl, rfl⟩
        go_wp2_with fail
        refine (HT.out.1.left).mono ?_
        rintro e w' ⟨rfl, m1, rfl⟩
        replace HT := Lib.hid (HT.out.drewN m1)
        generalize wr.drewN m1 = w4 at HT ⊢
        go_wp2_with fail
        refine (HNew.out _).mono ?_
        rintro e w5 ⟨rfl, hp⟩
        replace HT := Lib.hid (HT.out.later hp)
        clear hp
        go_wp2_with fail
        refine (HT.out.2.1.left).mono ?_
        rintro e w' ⟨rfl, m1, rfl⟩
        replace HT := Lib.hid (HT.out.drewN m1)
        generalize w5.drewN m1 = w6 at HT ⊢
        go_wp2_with fail
        refine (HT.out.1.left).mono ?_
        rintro e w' ⟨rfl, m1, rfl⟩
        replace HT := Lib.hid (HT.out.drewN m1)
        generalize w6.drewN m1 = w7 at HT ⊢
        go_wp2_with fail
        go_ret
        exact ⟨rfl, HT.out.1.1⟩

theorem walk (b : Int) (A : Option Addr) (n cap : Nat) (zs : List Int) (w : World) (_ : (Lit.int .i64 b).wf = true) (hr : IsRow .i64 w A n cap zs) :
    Calls Try.prog 5 #[.int .i64 b, .slice A n cap] w fun e w' => e = .returned (.bool true) ∧ Past w w' :=
  walk' b A n cap _ w (L64.of_row hr)

set_option maxRecDepth 100000 in
theorem lifted (os : Os) (started : os.Started) (H : Type) (enc : TypeId × Value → H) :
    ReturnsInHanded {} Try.checked os 5 .any (Rows.meterRefusesSpec.pre6 enc Try.prog Try.f5 Rows.meterRefusesRow.domain false) (Rows.meterRefusesSpec.post enc Try.prog Try.f5 false true false false) := by
  refine returnsInHanded_of_change (C := Try.checked) own started (by kernel_rfl) Try.func5
    (ChangeSpec.witness6 (enc := enc) (C := Try.checked) false ⟨#[], #[.int .i64 0, .slice none 0 0], []⟩ 8 (by kernel_rfl) (by kernel_rfl) (by kernel_rfl) (by kernel_rfl)) ?_
  intro W base args ds gs before hval0 hW hcnd _
  have hval : ∀ (j : Nat) t v, Try.f5.params[j]? = some t → args[j]? = some v → Value.okWide Try.prog W .any base t v := hval0
  have hW' := hW
  obtain ⟨p, q, hA0, hV, rfl, hfz, hnd⟩ := hW
  have hA : DataW.TrodAll enc Try.prog W 0 (fun _ => true) true Try.f5.params.toList args.toList ds p := hA0
  rw [Try.params5] at hA hval
  obtain ⟨v0, vs0, d0, ds0, p0, q0, hargs, rfl, rfl, h0, r0⟩ := trodAll_cons hA
  obtain ⟨v1, vs1, d1, ds1, p1, q1, rfl, rfl, rfl, h1, r1⟩ := trodAll_cons r0
  obtain ⟨rfl, rfl, rfl⟩ := trodAll_nil r1
  obtain rfl : args = #[v0, v1] := by cases args; simp_all
  obtain ⟨rfl, rfl⟩ := trodVars_none hV
  obtain ⟨a0, rfl, rfl, rfl, w0⟩ := open_int Try.underlying2 (hval 0 2 v0 rfl rfl) h0
  obtain ⟨a1, len1, cap1, rfl⟩ := okWide_slice Try.underlying22 (hval 1 22 v1 rfl rfl)
  have k1 := h1
  have lt1 : ∀ x ∈ p1, x.block < W.heap.size := by obtain ⟨m, hm⟩ := k1; exact DataW.trod_lt m _ _ _ hm
  obtain ⟨z1, w1⟩ : ∃ zs, IsRow .i64 W a1 len1 cap1 zs := by
    obtain ⟨fuel, hf⟩ := h1
    rcases open_ints Try.underlying22 Try.underlying2 (by kernel_rfl) hf with ⟨hcs, _⟩ | ⟨x, l, c, zs, hcs, _, hl, hm, hz, _, hcell, hwz⟩
    · simp [Value.cells] at hcs
      obtain ⟨rfl, rfl, rfl⟩ := hcs
      exact ⟨[], .inl ⟨rfl, rfl, rfl, rfl⟩⟩
    · simp [Value.cells] at hcs
      obtain ⟨rfl, rfl, rfl⟩ := hcs
      exact ⟨zs, .inr ⟨_, rfl, hl, hm, by simpa using hz, hcell, hwz⟩⟩
  clear hA0 hval0
  refine (walk a0 a1 len1 cap1 z1 W w0 w1).mono fun e W' ⟨he, bel⟩ => ?_
  subst he
  exact ⟨_, rfl, _, _, _, [], _, [], hW', trodAll_mk1 (shut_bool Try.underlying4 _), (trodAll_cons_mk (shut_int Try.underlying2 w0) (trodAll_cons_mk (Below.trod laidOut (by kernel_rfl) (of_decide_eq_true (by kernel_rfl)) k1 bel lt1) trodAll_mk0)), rfl, bel.frame _, fun h => by cases h⟩

theorem over : Rows.meterRefusesRow.holds Try.pinned (OpenSpec.ofChange Rows.meterRefusesSpec) :=
  OpenClaim.holds_of_wide 5 Try.f5 rfl rfl rfl rfl rfl rfl rfl ⟨rfl, rfl, rfl, rfl, rfl⟩ rfl rfl rfl rfl rfl (by kernel_rfl) Try.func5 (by kernel_rfl)
    (of_decide_eq_true (by kernel_rfl)) (by unfold Func.isWrapper; first | (rw [if_pos (by decide +kernel)]; kernel_rfl) | (rw [if_neg (by decide +kernel)]; exact ⟨rfl, rfl⟩))
    (fun os started H enc _ => lifted os started H enc)

theorem proved : Rows.MeterRefusesSaid := over
end Go.Proofs.Ytnfdfnlmckeebaa.meterRefuses
