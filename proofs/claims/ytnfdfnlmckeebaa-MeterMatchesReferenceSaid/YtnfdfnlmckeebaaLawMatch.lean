/- For every budget and every list of numbers the law MeterMatchesReference of package pyxlaw03 returns true and leaves its arguments alone; there is no further condition. -/
import Derived.Test.YtnfdfnlmckeebaaFrame
import Derived.Deep.RegionLaw
import Derived.Deep.RegionHeld3
import Derived.IntWalk
namespace Go.Proofs.Ytnfdfnlmckeebaa.meterMatches
open Go.ChangeShapes Go.WideShapes Go.ChangeAt Go.RowKit
set_option linter.unusedVariables false

theorem ofDrewN (w : World) (m : Nat) : Past w (w.drewN m) := Past.drewN (Below.refl _ w) m
/-- The meter at g and the reference's meter at h, with one budget and one count. -/
def Both (w0 w : World) (g h : Nat) (B c : Int) : Prop := Own w0 w g B c ∧ Row w h 27 #[.int .i64 c, .int .i64 B] ∧ w0.heap.size ≤ h ∧ g ≠ h
/-- In the middle of a round: the reference's meter is ahead. -/
def Mid (w0 w : World) (g h : Nat) (B c d : Int) : Prop := Own w0 w g B c ∧ Row w h 27 #[.int .i64 d, .int .i64 B] ∧ w0.heap.size ≤ h ∧ g ≠ h
section
variable {w0 w w' : World} {g h : Nat} {B c d n : Int}
theorem Mid.later (t : Mid w0 w g h B c d) (hp : Past w w') : Mid w0 w' g h B c d := ⟨t.1.later hp, t.2.1.past hp, t.2.2⟩
theorem Mid.drewN (t : Mid w0 w g h B c d) (m : Nat) : Mid w0 (w.drewN m) g h B c d := ⟨t.1.drewN m, t.2.1, t.2.2⟩
theorem Mid.add_ok (t : Mid w0 w g h B c d) (hp : 0 ≤ n) (hn : n ≤ B - c) :
    Calls Try.prog 10 #[.pointer (some ⟨g, 0, none⟩), .int .i64 n] w fun e w' => e = .returned (.bool true) ∧ Mid w0 w' g h B (c + n) d := by
  obtain ⟨⟨h1, h2, h3, h4, h5, h6⟩, t2, t3, t4⟩ := t
  refine (_root_.Go.Proofs.Ytnfdfnlmckeebaa.add_ok h2 h4 h5 h6 hp hn).mono ?_
  rintro e w' ⟨rfl, rfl⟩
  refine ⟨rfl, ⟨h1.setCell h3 _, h2.set _, h3, by omega, by omega, h6⟩, ?_, t3, t4⟩
  unfold Row at t2 ⊢
  rw [Below.heap_setCell w _ _ h (fun e => t4 e.symm)]
  exact t2
theorem Mid.d0 (t : Mid w0 w g h B c d) : w.cell? ⟨h, 0, none⟩ = some (.int .i64 d) := t.2.1.cell 0
theorem Mid.d1 (t : Mid w0 w g h B c d) : w.cell? ⟨h, 1, none⟩ = some (.int .i64 B) := t.2.1.cell 1
theorem Mid.fr (t : Mid w0 w g h B c d) (i : Nat) : w.frozen? ⟨h, i, none⟩ = false := t.2.1.fr i
theorem Mid.store (t : Mid w0 w g h B c d) (x : Int) : Mid w0 ((w.setCell ⟨h, 0, none⟩ (.int .i64 x)).setCell ⟨h, 1, none⟩ (.int .i64 B)) g h B c x := by
  obtain ⟨t1, t2, t3, t4⟩ := t
  exact ⟨⟨(t1.1.setCell t3 _).setCell t3 _, (t1.2.1.far t4.symm _).far t4.symm _, t1.2.2⟩, (t2.set 0 _).set 1 _, t3, t4⟩
end
/-- One number, added to both. -/
theorem step_any (w : World) (g h : Nat) (B c x : Int) (h0 : 0 ≤ c) (hB : c ≤ B) (ht : B ≤ 4611686018427387904) : ∃ (d : Int) (r : Bool), 0 ≤ d ∧ d ≤ B ∧
    (∀ W, Calls Try.prog 9 #[.agg #[.int .i64 c, .int .i64 B], .int .i64 x] W fun e w' => e = .returned (.tuple #[.agg #[.int .i64 d, .int .i64 B], .bool r]) ∧ Past W w') ∧
    (∀ W, Mid w W g h B c d → Calls Try.prog 10 #[.pointer (some ⟨g, 0, none⟩), .int .i64 x] W fun e w' => e = .returned (.bool r) ∧ Mid w w' g h B d d) := by
  by_cases hn : x < 0
  · exact ⟨c, false, h0, hB, fun W => radd_neg B c x W hn, fun W hW => (hW.1.add_no (.inl hn)).mono fun e w' ⟨he, hw⟩ => ⟨he, hw ▸ hW⟩⟩
  · by_cases hb : B - c < x
    · exact ⟨c, false, h0, hB, fun W => radd_big B c x W h0 hB ht (by omega) hb, fun W hW => (hW.1.add_no (.inr hb)).mono fun e w' ⟨he, hw⟩ => ⟨he, hw ▸ hW⟩⟩
    · exact ⟨c + x, true, by omega, by omega, fun W => radd_ok B c x W h0 hB ht (by omega) (by omega), fun W hW => hW.add_ok (by omega) (by omega)⟩
theorem eq_full (B c : Int) : (B == c) = fullB B c := by unfold fullB; rw [Bool.beq_eq_decide_eq]; simp; omega

set_option maxHeartbeats 2000000 in
theorem walk' (b : Int) (A : Option Addr) (n cap : Nat) (xs : List Int) (w : World) (hl : L64 w A n cap xs) :
    Calls Try.prog 3 #[.int .i64 b, .slice A n cap] w fun e w' => e = .returned (.bool true) ∧ Past w w' := by
  have hB := clamp_rng b
  have hcap := hl.cap
  have hbig := hl.big
  unfold maxLen at hbig
  obtain ⟨hB0, hB1⟩ := hB
  have HNew : Hid (∀ w0, Calls Try.prog 8 #[.int .i64 b] w0 fun e w' => e = .returned (.agg #[.int .i64 0, .int .i64 (clamp b)]) ∧ Past w0 w') := Lib.hid (rnew_any b)
  have hm := fun (w0 : World) (h : Past w w0) => (new_any b w0).mono (R' := fun e w' => ∃ g, e = .returned (.pointer (some ⟨g, 0, none⟩)) ∧ Past w0 w' ∧ Own w w' g (clamp b) 0 ∧ g = w0.heap.size) (fun _ _ ⟨he, hw⟩ => ⟨_, he, by rw [hw]; exact (Below.refl _ _).alloc (Nat.le_refl _) _, by rw [hw]; exact Own.made h b, rfl⟩)
  generalize clamp b = B at *
  have HM := Lib.hid hm
  have HL := Lib.hid hl
  clear hm hl
  by_cases t1 : 300 < n
  all_goals
    go_enter Try.func3, Try.ntmps3
    go_wp2_with fail
    refine (HM.out _ (Below.refl _ w)).mono ?_
    rintro e w1 ⟨g, rfl, hp1, h1, hs1⟩
    have H1 := Lib.hid h1
    clear hp1 h1 hs1
    go_wp2_with fail
    refine (awake_any _).mono ?_
    rintro e w3 ⟨rfl, hp⟩
    replace H1 := Lib.hid (H1.out.later hp)
    clear hp
    go_wp2_with fail
  · refine (awake_any _).mono ?_
    rintro e w4 ⟨rfl, hp⟩
    replace H1 := Lib.hid (H1.out.later hp)
    clear hp
    go_wp2_with fail
    go_ret
    exact ⟨rfl, H1.out.1⟩
  · refine (HNew.out _).mono ?_
    rintro e w4 ⟨rfl, hp⟩
    replace H1 := Lib.hid (H1.out.later hp)
    clear hp
    go_wp2_with fail
    have HI2 : Hid (Mid w (w4.alloc (.cells #[.int .i64 0, .int .i64 B] 27)) g w4.heap.size B 0 0) := Lib.hid (by
      have := H1.out.2.1.lt
      exact ⟨H1.out.later ((Below.refl _ _).alloc (Nat.le_refl _) _), Row.new _ _ _, H1.out.1.size, by omega⟩)
    clear H1
    generalize hh : w4.heap.size = h at HI2 ⊢
    clear hh
    generalize w4.alloc (.cells #[.int .i64 0, .int .i64 B] 27) = w5 at HI2 ⊢
    go_loopw [7, 8] (fun _ i wr => ∃ k : Nat, k ≤ n ∧ i = .int .i64 k ∧ Hid (∃ c, Mid w wr g h B c c)) (fun _ i _ => n - (intOf i).toNat)
    case atStart => exact ⟨0, Nat.zero_le _, rfl, Lib.hid ⟨0, HI2.out⟩⟩
    case round =>
      clear HI2
      obtain ⟨k, hk, rfl, hi⟩ := hrel
      obtain ⟨c, ht⟩ := hi.out
      have hc0 := ht.1.2.2.2.1
      have hcB := ht.1.2.2.2.2.1
      have HT := Lib.hid ht
      clear ht
      by_cases hlt : k < n
      · obtain ⟨p, o, rfl, hcell⟩ := (HL.out.past HT.out.1.1).cells (by omega)
        have HCE : Hid (∀ wx, Past w wx → wx.cell? ⟨p, o + k, none⟩ = some (.int .i64 (xs.getD k 0))) := Lib.hid (fun (wx : World) (hp : Past w wx) => by
          have hx := (HL.out.past hp).cells (by omega)
          obtain ⟨p', o', e, hx⟩ := hx
          injection e with e
          injection e with e1 e2
          subst e1 e2
          exact hx k hlt)
        have hck := hcell k hlt
        clear hcell
        have hrg := HL.out.rng k
        generalize xs.getD k 0 = x at *
        obtain ⟨hr0, hr1⟩ := hrg
        have hk0 : (0 : Int) ≤ (k : Int) := by omega
        have hkn : (k : Int) < (n : Int) := by omega
        obtain ⟨d, r, hd0, hd1, hra, had⟩ := step_any w g h B c x hc0 hcB hB1
        have HRA := Lib.hid hra
        have HAD := Lib.hid had
        clear hra had
        have c0 := HT.out.d0
        have c1 := HT.out.d1
        have f0 := HT.out.fr 0
        have f1 := HT.out.fr 1
        go_wp2_with fail
        go_region_law (first
          | (go_simp; go_at_call 9; refine (HRA.out _).mono ?_; rintro e7 w7 ⟨rfl, hp7⟩; have HT7 := Lib.hid (HT.out.later (Past.trans' (ofDrewN wr 1) hp7)); have c0 := HT7.out.d0; have c1 := HT7.out.d1; have f0 := HT7.out.fr 0; have f1 := HT7.out.fr 1; have hck := HCE.out _ HT7.out.1.1; clear hp7))
        all_goals
          go_wp2_with fail
          have HT8 := Lib.hid (HT7.out.store d)
          clear c0 c1 f0 f1 hck
          generalize (w7.setCell ⟨h, 0, none⟩ (.int .i64 d)).setCell ⟨h, 1, none⟩ (.int .i64 B) = w8 at HT8 ⊢
          have c0 := HT8.out.d0
          have c1 := HT8.out.d1
          have hck := HCE.out _ HT8.out.1.1
          have hwr : IntKind.i64.wrap (B - d) = B - d := IntWalk.i64_in _ (by omega)
          have hef := eq_full B d
          go_region_held3 (fun w' => w'.cell? ⟨h, 0, none⟩ = some (.int .i64 d) ∧ w'.cell? ⟨h, 1, none⟩ = some (.int .i64 B) ∧ w'.cell? ⟨p, o + k, none⟩ = some (.int .i64 x))
            (first
              | exact ⟨HTB.out.d0, HTB.out.d1, HCE.out _ HTB.out.1.1⟩
              | exact ⟨HTA.out.d0, HTA.out.d1, HCE.out _ HTA.out.1.1⟩
              | exact ⟨HT9.out.d0, HT9.out.d1, HCE.out _ HT9.out.1.1⟩
              | exact ⟨c0, c1, hck⟩
              | go_keep)
            (first
              | (go_at_call 10; refine (HAD.out _ (HT8.out.drewN 1)).mono ?_; rintro e9 w9 ⟨rfl, ht9⟩; have HT9 := Lib.hid ht9; clear ht9)
              | (go_at_call 11; refine (HT9.out.1.count).mono ?_; rintro e' w' ⟨rfl, rfl⟩)
              | (go_at_call 12; refine (HT9.out.1.left).mono ?_; rintro e' w' ⟨rfl, m1, rfl⟩; have HTA := Lib.hid (HT9.out.drewN m1))
              | (go_at_call 13; refine (HTA.out.1.full).mono ?_; rintro e' w' ⟨rfl, m2, rfl⟩; have HTB := Lib.hid (HT9.out.drewN (m1 + m2))))
          go_wp2_with fail
          go_roundw
          case rel => exact ⟨k + 1, by omega, by go_num, Lib.hid ⟨d, HTB.out⟩⟩
          case measure => simp [intOf]; omega
      · go_wp2_with fail
        go_ret
        exact ⟨rfl, HT.out.1.1⟩

theorem walk (b : Int) (A : Option Addr) (n cap : Nat) (zs : List Int) (w : World) (_ : (Lit.int .i64 b).wf = true) (hr : IsRow .i64 w A n cap zs) :
    Calls Try.prog 3 #[.int .i64 b, .slice A n cap] w fun e w' => e = .returned (.bool true) ∧ Past w w' :=
  walk' b A n cap _ w (L64.of_row hr)

set_option maxRecDepth 100000 in
theorem lifted (os : Os) (started : os.Started) (H : Type) (enc : TypeId × Value → H) :
    ReturnsInHanded {} Try.checked os 3 .any (Rows.meterMatchesReferenceSpec.pre6 enc Try.prog Try.f3 Rows.meterMatchesReferenceRow.domain false) (Rows.meterMatchesReferenceSpec.post enc Try.prog Try.f3 false true false false) := by
  refine returnsInHanded_of_change (C := Try.checked) own started (by kernel_rfl) Try.func3
    (ChangeSpec.witness6 (enc := enc) (C := Try.checked) false ⟨#[], #[.int .i64 0, .slice none 0 0], []⟩ 8 (by kernel_rfl) (by kernel_rfl) (by kernel_rfl) (by kernel_rfl)) ?_
  intro W base args ds gs before hval0 hW hcnd _
  have hval : ∀ (j : Nat) t v, Try.f3.params[j]? = some t → args[j]? = some v → Value.okWide Try.prog W .any base t v := hval0
  have hW' := hW
  obtain ⟨p, q, hA0, hV, rfl, hfz, hnd⟩ := hW
  have hA : DataW.TrodAll enc Try.prog W 0 (fun _ => true) true Try.f3.params.toList args.toList ds p := hA0
  rw [Try.params3] at hA hval
  obtain ⟨v0, vs0, d0, ds0, p0, q0, hargs, rfl, rfl, h0, r0⟩ := trodAll_cons hA
  obtain ⟨v1, vs1, d1, ds1, p1, q1, rfl, rfl, rfl, h1, r1⟩ := trodAll_cons r0
  obtain ⟨rfl, rfl, rfl⟩ := trodAll_nil r1
  obtain rfl : args = #[v0, v1] := by cases args; simp_all
  obtain ⟨rfl, rfl⟩ := trodVars_none hV
  obtain ⟨a0, rfl, rfl, rfl, w0⟩ := open_int Try.underlying2 (hval 0 2 v0 rfl rfl) h0
  obtain ⟨a1, len1, cap1, rfl⟩ := okWide_slice Try.underlying22 (hval 1 22 v1 rfl rfl)
  have k1 := h1
  have lt1 : ∀ x ∈ p1, x.block < W.heap.size := by obtain ⟨m, hm⟩ := k1; exact DataW.trod_lt m _ _ _ hm
  obtain ⟨z1, w1⟩ : ∃ zs, IsRow .i64 W a1 len1 cap1 zs := by
    obtain ⟨fuel, hf⟩ := h1
    rcases open_ints Try.underlying22 Try.underlying2 (by kernel_rfl) hf with ⟨hcs, _⟩ | ⟨x, l, c, zs, hcs, _, hl, hm, hz, _, hcell, hwz⟩
    · simp [Value.cells] at hcs
      obtain ⟨rfl, rfl, rfl⟩ := hcs
      exact ⟨[], .inl ⟨rfl, rfl, rfl, rfl⟩⟩
    · simp [Value.cells] at hcs
      obtain ⟨rfl, rfl, rfl⟩ := hcs
      exact ⟨zs, .inr ⟨_, rfl, hl, hm, by simpa using hz, hcell, hwz⟩⟩
  clear hA0 hval0
  refine (walk a0 a1 len1 cap1 z1 W w0 w1).mono fun e W' ⟨he, bel⟩ => ?_
  subst he
  exact ⟨_, rfl, _, _, _, [], _, [], hW', trodAll_mk1 (shut_bool Try.underlying4 _), (trodAll_cons_mk (shut_int Try.underlying2 w0) (trodAll_cons_mk (Below.trod laidOut (by kernel_rfl) (of_decide_eq_true (by kernel_rfl)) k1 bel lt1) trodAll_mk0)), rfl, bel.frame _, fun h => by cases h⟩

theorem over : Rows.meterMatchesReferenceRow.holds Try.pinned (OpenSpec.ofChange Rows.meterMatchesReferenceSpec) :=
  OpenClaim.holds_of_wide 3 Try.f3 rfl rfl rfl rfl rfl rfl rfl ⟨rfl, rfl, rfl, rfl, rfl⟩ rfl rfl rfl rfl rfl (by kernel_rfl) Try.func3 (by kernel_rfl)
    (of_decide_eq_true (by kernel_rfl)) (by unfold Func.isWrapper; first | (rw [if_pos (by decide +kernel)]; kernel_rfl) | (rw [if_neg (by decide +kernel)]; exact ⟨rfl, rfl⟩))
    (fun os started H enc _ => lifted os started H enc)

theorem proved : Rows.MeterMatchesReferenceSaid := over
end Go.Proofs.Ytnfdfnlmckeebaa.meterMatches
