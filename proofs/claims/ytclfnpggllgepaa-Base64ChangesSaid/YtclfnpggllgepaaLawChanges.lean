/- For every alphabet, slice of bytes, place and byte the law Base64Changes of package pyxlaw04 returns true; there is no further condition. -/
import Derived.Test.YtclfnpggllgepaaFrame
namespace Go.Proofs.Ytclfnpggllgepaa.base64Changes
open Go.ChangeShapes Go.WideShapes Go.ChangeAt Go.RowKit
set_option linter.unusedVariables false

theorem enc_small (al : Int) (xs : List Int) (n : Nat) (hn : n ≤ 300) : (txt (renc al xs n)).size ≤ 1000 := by
  rw [txt_size, rlen_renc]
  unfold rlen
  repeat' split
  all_goals omega
theorem enc_some {al : Int} (h : isAl al = true) (xs : List Int) (n : Nat) (hn : 0 < n) : 0 < (txt (renc al xs n)).size := by
  rw [txt_size, rlen_renc]
  unfold rlen
  rw [if_pos h]
  split <;> omega

/-- Decode in one form, whether there are bytes or none. -/
theorem dec_one (al : Int) (t : ByteArray) (w : World) (hs : t.size ≤ 100000) :
    Calls Try.prog 9 #[.int .i64 al, .string t] w fun e w' => ∃ A n c ok zs, e = .returned (.tuple #[.slice A n c, .bool ok]) ∧ Sl w' A n c zs ∧ Past w w' ∧ (ok = true → rdec al t = some zs) := by
  refine (pdecode_any al t w hs).mono ?_
  intro e w' h
  cases hd : rdec al t with
  | none =>
    rw [hd] at h
    obtain ⟨rfl, hp⟩ := h
    exact ⟨none, 0, 0, false, [], rfl, Sl.nil _, hp, fun h => by cases h⟩
  | some zs =>
    rw [hd] at h
    obtain ⟨A, n, c, rfl, hS, hp⟩ := h
    exact ⟨A, n, c, true, zs, rfl, hS, hp, fun _ => rfl⟩

set_option maxHeartbeats 2000000 in
theorem walk (al : Int) (a1 : Option Addr) (len1 cap1 : Nat) (z1 : List Int) (p : Int) (c : Int) (w : World) (w0 : (Lit.int .i64 al).wf = true) (w1 : IsRow .u8 w a1 len1 cap1 z1) (w2 : (Lit.int .u16 p).wf = true) (w3 : (Lit.int .u8 c).wf = true) :
    Calls Try.prog 7 #[.int .i64 al, .slice a1 len1 cap1, .int .u16 p, .int .u8 c] w fun e w' => e = .returned (.bool true) ∧ Past w w' := by
  have hs1 := Sl.of_row w1
  generalize z1.take len1 = xs at hs1
  have hcp1 := hs1.cap
  have hbg1 := hs1.big
  unfold maxLen at hbg1
  have hp := bounds_u16 w2
  have hc := bounds_u8 w3
  obtain ⟨hp0, hp1⟩ := hp
  obtain ⟨hc0, hc1⟩ := hc
  have H1 := Lib.hid hs1
  clear w0 w1 w2 w3 hs1
  by_cases hok : len1 ≤ 300 ∧ 0 < len1 ∧ isAl al = true
  · obtain ⟨hl1, hl2, hal⟩ := hok
    have hsz := enc_small al xs len1 hl1
    have hs0 := enc_some hal xs len1 hl2
    have HE := Lib.hid (fun w (h : Sl w a1 len1 cap1 xs) => pencode_any al a1 len1 cap1 xs w h (by omega))
    have HR := Lib.hid (fun w (h : Sl w a1 len1 cap1 xs) => rencode_any al a1 len1 cap1 xs w h (by omega))
    have HZ : Hid (∀ t zs, rdec al t = some zs → t ≠ txt (renc al xs len1) → sameB zs xs = false) := fun t zs h hne => by
      cases hb : sameB zs xs with
      | false => rfl
      | true =>
        exfalso
        have e := sameB_true hb
        subst e
        have := (renc_of_rdec h).2.1
        rw [H1.out.len] at this
        exact hne this.symm
    generalize txt (renc al xs len1) = s at *
    have b1 : decide (300 < (len1 : Int)) = false := by simp; omega
    have b2 : ((len1 : Int) == 0) = false := by simp; omega
    obtain ⟨I, hI⟩ : ∃ I : Nat, p % (s.size : Int) = (I : Int) := ⟨(p % (s.size : Int)).toNat, (Int.toNat_of_nonneg (Int.emod_nonneg _ (by omega))).symm⟩
    have hIs : I < s.size := by
      have := Int.emod_lt_of_pos p (show (0 : Int) < (s.size : Int) by omega)
      omega
    have hIle : I ≤ s.size := by omega
    have hI1 : I + 1 ≤ s.size := by omega
    have hI0 : (0 : Int) ≤ (I : Int) + 1 := by omega
    have hI2 : (I : Int) + 1 ≤ (s.size : Int) := by omega
    have hwr : IntKind.i64.wrap ((I : Int) + 1) = (I : Int) + 1 := by rw [IntKind.wrap_i64]; omega
    have hz1 : (s.extract 0 I).size = I := by rw [ByteArray.size_extract]; omega
    have hz2 : (s.extract (I + 1) s.size).size = s.size - (I + 1) := by rw [ByteArray.size_extract]; omega
    have hz3 : (txt [c]).size = 1 := rfl
    have k1 : (9223372036854775807 < I + 1) = False := eq_false (by omega)
    have k2 : (9223372036854775807 < I + 1 + (s.size - (I + 1))) = False := eq_false (by omega)
    have k3 : (9223372036854775807 < s.size) = False := eq_false (by omega)
    have hzt : (s.extract 0 I ++ txt [c] ++ s.extract (I + 1) s.size).size ≤ 1000 := by
      rw [ByteArray.size_append, ByteArray.size_append, hz1, hz2, hz3]
      omega
    have hzs : (s ++ txt [c]).size = s.size + 1 := by rw [ByteArray.size_append, hz3]
    have hns : s ++ txt [c] ≠ s := fun h => by
      rw [h] at hzs
      omega
    have HNS := Lib.hid hns
    clear hns
    have hcw := fun w : World => conv_sl (w := (w.alloc (.cells #[.int .u8 c] 5)).drew) Try.underlying23 Try.underlying5 Try.underlying9 ((one_slice w c hc0 (by omega)).drewN 1)
    have hcv := fun w => conv_sl Try.underlying23 Try.underlying5 Try.underlying9 (one_slice w c hc0 (by omega))
    rcases al_cases hal with rfl | rfl
    all_goals
      go_enter Try.func7, Try.ntmps7
      go_wp2_with fail
      refine (awake_any _).mono ?_
      rintro e w1 ⟨rfl, hp⟩
      have HP := Lib.hid hp
      clear hp
      go_wp2_with fail
      refine (HE.out _ (H1.out.past HP.out)).mono ?_
      rintro e w2 ⟨rfl, hp⟩
      replace HP := Lib.hid (HP.out.trans' hp)
      clear hp
      go_wp2_with fail
      refine (HR.out _ (H1.out.past HP.out)).mono ?_
      rintro e w3 ⟨rfl, hp⟩
      replace HP := Lib.hid (HP.out.trans' hp)
      clear hp
      go_wp2_with fail
      go_region_law (fail)
      generalize s.extract 0 I ++ txt [c] ++ s.extract (I + 1) s.size = t at *
      have hp3 : Past w ((w3.alloc (.cells #[.int .u8 c] 5)).drew) := (HP.out.trans' (past_alloc w3 (.cells #[.int .u8 c] 5))).drewN 1
      replace HP := Lib.hid hp3
      clear hp3 k1 k2 k3 hcw hz1 hz2 hI1 hI2 hI0 hIle hwr hI hIs
      generalize (w3.alloc (.cells #[.int .u8 c] 5)).drew = w4 at *
      go_wp2_with fail
      refine (dec_one _ t w4 (by omega)).mono ?_
      rintro e w5 ⟨X, nx, cx, ok, zx, rfl, hx1, hx2, hx3⟩
      have HX := Lib.hid hx1
      replace HP := Lib.hid (HP.out.trans' hx2)
      have HXR : Hid (ok = true → t ≠ s → sameB zx xs = false) := fun h hne => HZ.out t zx (hx3 h) hne
      have hXc := hx1.cap
      clear hx1 hx2 hx3
      have hcv5 := hcv w5
      have k4 : (9223372036854775807 < s.size + 1) = False := eq_false (by omega)
      go_wp2_with fail
      have hp6 : Past w (w5.alloc (.cells #[.int .u8 c] 5)) := HP.out.trans' (past_alloc w5 (.cells #[.int .u8 c] 5))
      replace HX := Lib.hid (HX.out.past (past_alloc w5 (.cells #[.int .u8 c] 5)))
      replace HP := Lib.hid hp6
      clear hp6 hcv hcv5 k4
      generalize w5.alloc (.cells #[.int .u8 c] 5) = w6 at *
      refine (dec_one _ (s ++ txt [c]) w6 (by omega)).mono ?_
      rintro e w7 ⟨Y, ny, cy, more, zy, rfl, hy1, hy2, hy3⟩
      have HY := Lib.hid hy1
      replace HP := Lib.hid (HP.out.trans' hy2)
      replace HX := Lib.hid (HX.out.past hy2)
      have HYR : Hid (more = true → sameB zy xs = false) := fun h => HZ.out _ zy (hy3 h) HNS.out
      have hYc := hy1.cap
      clear hy1 hy2 hy3
      clear hYc hXc hsz hs0 hl1 hl2 hcp1 hbg1 hp0 hp1 hc0 hc1
      by_cases hts : t = s
      · have hq : (t.toList == s.toList) = true := by rw [hts]; simp
        clear hts HXR
        cases more with
        | false =>
          go_wp2_with fail
          go_ret
          exact ⟨rfl, HP.out⟩
        | true =>
          have hcall := rsame_any Y a1 ny len1 cy cap1 zy xs w7 HY.out (H1.out.past HP.out)
          rw [HYR.out (by first | rfl | trivial)] at hcall
          have HC := Lib.hid hcall
          clear hcall
          go_wp2_with fail
          refine HC.out.mono ?_
          rintro e w8 ⟨rfl, m, rfl⟩
          replace HP := Lib.hid (HP.out.drewN m)
          go_wp2_with fail
          go_ret
          exact ⟨rfl, HP.out⟩
      · have hq : (t.toList == s.toList) = false := by
          simp only [beq_eq_false_iff_ne]
          exact fun h => hts (toList_inj h)
        cases ok with
        | false =>
          clear hts HXR
          cases more with
          | false =>
            go_wp2_with fail
            go_ret
            exact ⟨rfl, HP.out⟩
          | true =>
            have hcall := rsame_any Y a1 ny len1 cy cap1 zy xs w7 HY.out (H1.out.past HP.out)
            rw [HYR.out (by first | rfl | trivial)] at hcall
            have HC := Lib.hid hcall
            clear hcall
            go_wp2_with fail
            refine HC.out.mono ?_
            rintro e w8 ⟨rfl, m, rfl⟩
            replace HP := Lib.hid (HP.out.drewN m)
            go_wp2_with fail
            go_ret
            exact ⟨rfl, HP.out⟩
        | true =>
          have hcallx := rsame_any X a1 nx len1 cx cap1 zx xs w7 HX.out (H1.out.past HP.out)
          rw [HXR.out rfl hts] at hcallx
          have HCX := Lib.hid hcallx
          clear hcallx hts HXR
          cases more with
          | false =>
            go_wp2_with fail
            refine HCX.out.mono ?_
            rintro e w8 ⟨rfl, m, rfl⟩
            replace HP := Lib.hid (HP.out.drewN m)
            go_wp2_with fail
            go_ret
            exact ⟨rfl, HP.out⟩
          | true =>
            go_wp2_with fail
            refine HCX.out.mono ?_
            rintro e w8 ⟨rfl, m1, rfl⟩
            replace HP := Lib.hid (HP.out.drewN m1)
            have hcall := rsame_any Y a1 ny len1 cy cap1 zy xs (w7.drewN m1) (HY.out.drewN m1) (H1.out.past HP.out)
            rw [HYR.out (by first | rfl | trivial)] at hcall
            have HC := Lib.hid hcall
            clear hcall
            go_wp2_with fail
            refine HC.out.mono ?_
            rintro e w8 ⟨rfl, m, rfl⟩
            replace HP := Lib.hid (HP.out.drewN m)
            go_wp2_with fail
            go_ret
            exact ⟨rfl, by have h := HP.out; rwa [World.drewN_drewN] at h⟩
  · have fin : ∀ n1 n2 : Bool, (al != 1) = n1 → (al != 2) = n2 → (decide (300 < (len1 : Int)) = true ∨ ((len1 : Int) == 0) = true ∨ (n1 = true ∧ n2 = true)) →
        Calls Try.prog 7 #[.int .i64 al, .slice a1 len1 cap1, .int .u16 p, .int .u8 c] w fun e w' => e = .returned (.bool true) ∧ Past w w' := by
      intro n1 n2 h1 h2 h3
      clear hok
      cases hb1 : decide (300 < (len1 : Int)) <;> cases hb2 : ((len1 : Int) == 0) <;> cases n1 <;> cases n2
      all_goals first
        | (exfalso; rw [hb1, hb2] at h3; revert h3; decide)
        | (clear h3
           go_enter Try.func7, Try.ntmps7
           go_wp2_with fail
           refine (awake_any _).mono ?_
           rintro e w1 ⟨rfl, hp⟩
           have HP := Lib.hid hp
           clear hp
           go_wp2_with fail
           all_goals
             refine (awake_any _).mono ?_
             rintro e w2 ⟨rfl, hp⟩
             replace HP := Lib.hid (HP.out.trans' hp)
             clear hp
             go_wp2_with fail
             go_ret
             exact ⟨rfl, HP.out⟩)
    refine fin _ _ rfl rfl ?_
    by_cases h1 : 300 < len1
    · left
      simp
      omega
    · right
      by_cases h2 : len1 = 0
      · left
        rw [h2]
        rfl
      · right
        have h3 : isAl al = false := by
          cases h : isAl al with
          | false => rfl
          | true => exact absurd ⟨by omega, by omega, h⟩ hok
        obtain ⟨k1, k2⟩ := al_no h3
        exact ⟨by simpa using k1, by simpa using k2⟩

set_option maxRecDepth 100000 in
theorem lifted (os : Os) (started : os.Started) (H : Type) (enc : TypeId × Value → H) :
    ReturnsInHanded {} Try.checked os 7 .any (Rows.base64ChangesSpec.pre6 enc Try.prog Try.f7 Rows.base64ChangesRow.domain false) (Rows.base64ChangesSpec.post enc Try.prog Try.f7 false true false false) := by
  refine returnsInHanded_of_change (C := Try.checked) own started (by kernel_rfl) Try.func7
    (ChangeSpec.witness6 (enc := enc) (C := Try.checked) false ⟨#[], #[.int .i64 0, .slice none 0 0, .int .u16 0, .int .u8 0], []⟩ 8 (by kernel_rfl) (by kernel_rfl) (by kernel_rfl) (by kernel_rfl)) ?_
  intro W base args ds gs before hval0 hW hcnd _
  have hval : ∀ (j : Nat) t v, Try.f7.params[j]? = some t → args[j]? = some v → Value.okWide Try.prog W .any base t v := hval0
  have hW' := hW
  obtain ⟨p, q, hA0, hV, rfl, hfz, hnd⟩ := hW
  have hA : DataW.TrodAll enc Try.prog W 0 (fun _ => true) true Try.f7.params.toList args.toList ds p := hA0
  rw [Try.params7] at hA hval
  obtain ⟨v0, vs0, d0, ds0, p0, q0, hargs, rfl, rfl, h0, r0⟩ := trodAll_cons hA
  obtain ⟨v1, vs1, d1, ds1, p1, q1, rfl, rfl, rfl, h1, r1⟩ := trodAll_cons r0
  obtain ⟨v2, vs2, d2, ds2, p2, q2, rfl, rfl, rfl, h2, r2⟩ := trodAll_cons r1
  obtain ⟨v3, vs3, d3, ds3, p3, q3, rfl, rfl, rfl, h3, r3⟩ := trodAll_cons r2
  obtain ⟨rfl, rfl, rfl⟩ := trodAll_nil r3
  obtain rfl : args = #[v0, v1, v2, v3] := by cases args; simp_all
  obtain ⟨rfl, rfl⟩ := trodVars_none hV
  obtain ⟨a0, rfl, rfl, rfl, w0⟩ := open_int Try.underlying3 (hval 0 3 v0 rfl rfl) h0
  obtain ⟨a1, len1, cap1, rfl⟩ := okWide_slice Try.underlying23 (hval 1 23 v1 rfl rfl)
  have k1 := h1
  have lt1 : ∀ x ∈ p1, x.block < W.heap.size := by obtain ⟨m, hm⟩ := k1; exact DataW.trod_lt m _ _ _ hm
  obtain ⟨z1, w1⟩ : ∃ zs, IsRow .u8 W a1 len1 cap1 zs := by
    obtain ⟨fuel, hf⟩ := h1
    rcases open_ints Try.underlying23 Try.underlying5 (by kernel_rfl) hf with ⟨hcs, _⟩ | ⟨x, l, c, zs, hcs, _, hl, hm, hz, _, hcell, hwz⟩
    · simp [Value.cells] at hcs
      obtain ⟨rfl, rfl, rfl⟩ := hcs
      exact ⟨[], .inl ⟨rfl, rfl, rfl, rfl⟩⟩
    · simp [Value.cells] at hcs
      obtain ⟨rfl, rfl, rfl⟩ := hcs
      exact ⟨zs, .inr ⟨_, rfl, hl, hm, by simpa using hz, hcell, hwz⟩⟩
  obtain ⟨a2, rfl, rfl, rfl, w2⟩ := open_int Try.underlying41 (hval 2 41 v2 rfl rfl) h2
  obtain ⟨a3, rfl, rfl, rfl, w3⟩ := open_int Try.underlying5 (hval 3 5 v3 rfl rfl) h3
  clear hA0 hval0
  refine (walk a0 a1 len1 cap1 z1 a2 a3 W w0 w1 w2 w3).mono fun e W' ⟨he, bel⟩ => ?_
  subst he
  exact ⟨_, rfl, _, _, _, [], _, [], hW', trodAll_mk1 (shut_bool Try.underlying4 _), (trodAll_cons_mk (shut_int Try.underlying3 w0) (trodAll_cons_mk (Below.trod laidOut (by kernel_rfl) (of_decide_eq_true (by kernel_rfl)) k1 bel lt1) (trodAll_cons_mk (shut_int Try.underlying41 w2) (trodAll_cons_mk (shut_int Try.underlying5 w3) trodAll_mk0)))), rfl, bel.frame _, fun h => by cases h⟩

theorem over : Rows.base64ChangesRow.holds Try.pinned (OpenSpec.ofChange Rows.base64ChangesSpec) :=
  OpenClaim.holds_of_wide 7 Try.f7 rfl rfl rfl rfl rfl rfl rfl ⟨rfl, rfl, rfl, rfl, rfl⟩ rfl rfl rfl rfl rfl (by kernel_rfl) Try.func7 (by kernel_rfl)
    (of_decide_eq_true (by kernel_rfl)) (by unfold Func.isWrapper; first | (rw [if_pos (by decide +kernel)]; kernel_rfl) | (rw [if_neg (by decide +kernel)]; exact ⟨rfl, rfl⟩))
    (fun os started H enc _ => lifted os started H enc)

theorem proved : Rows.Base64ChangesSaid := over
end Go.Proofs.Ytclfnpggllgepaa.base64Changes
