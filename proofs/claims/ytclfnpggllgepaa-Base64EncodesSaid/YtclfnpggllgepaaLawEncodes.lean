/- For every alphabet and every slice of bytes the law Base64Encodes of package pyxlaw04 returns true; there is no further condition. -/
import Derived.Test.YtclfnpggllgepaaFrame
namespace Go.Proofs.Ytclfnpggllgepaa.base64Encodes
open Go.ChangeShapes Go.WideShapes Go.ChangeAt Go.RowKit
set_option linter.unusedVariables false

theorem walk (al : Int) (a1 : Option Addr) (len1 cap1 : Nat) (z1 : List Int) (w : World) (w0 : (Lit.int .i64 al).wf = true) (w1 : IsRow .u8 w a1 len1 cap1 z1) :
    Calls Try.prog 4 #[.int .i64 al, .slice a1 len1 cap1] w fun e w' => e = .returned (.bool true) ∧ Past w w' := by
  have hs := Sl.of_row w1
  generalize z1.take len1 = xs at hs
  have hcp := hs.cap
  have hbg := hs.big
  unfold maxLen at hbg
  have HS := Lib.hid hs
  clear w0 w1 hs
  by_cases hl : 500 < len1
  · go_enter Try.func4, Try.ntmps4
    go_wp2_with fail
    refine (awake_any _).mono ?_
    rintro e w1 ⟨rfl, hp⟩
    have HP := Lib.hid hp
    clear hp
    go_wp2_with fail
    refine (awake_any _).mono ?_
    rintro e w2 ⟨rfl, hp⟩
    replace HP := Lib.hid (HP.out.trans' hp)
    clear hp
    go_wp2_with fail
    go_ret
    exact ⟨rfl, HP.out⟩
  · have H1 := Lib.hid (fun w (hS : Sl w a1 len1 cap1 xs) => pencode_any al a1 len1 cap1 xs w hS (by omega))
    have H2 := Lib.hid (fun w (hS : Sl w a1 len1 cap1 xs) => rencode_any al a1 len1 cap1 xs w hS (by omega))
    have H3 := Lib.hid (fun w => length_any al len1 (by omega) w)
    have hz : (txt (renc al xs len1)).size = rlen al len1 := by rw [txt_size, rlen_renc]
    have hzb : rlen al len1 ≤ 100000 := by
      unfold rlen
      repeat' split
      all_goals omega
    have H4 := Lib.hid (fun w => pdecode_any al (txt (renc al xs len1)) w (by omega))
    cases hal : isAl al with
    | false =>
      obtain ⟨h1, h2⟩ := al_no hal
      have n1 : (al != 1) = true := by simpa using h1
      have n2 : (al != 2) = true := by simpa using h2
      have hd : rdec al (txt (renc al xs len1)) = none := by
        cases hd : rdec al (txt (renc al xs len1)) with
        | none => rfl
        | some ys =>
          have := (renc_of_rdec hd).1
          rw [hal] at this
          cases this
      rw [hd] at H4
      clear hd hal h1 h2
      generalize txt (renc al xs len1) = s at *
      generalize rlen al len1 = n at *
      go_enter Try.func4, Try.ntmps4
      go_wp2_with fail
      refine (awake_any _).mono ?_
      rintro e w1 ⟨rfl, hp⟩
      have HP := Lib.hid hp
      clear hp
      go_wp2_with fail
      refine (H1.out _ (HS.out.past HP.out)).mono ?_
      rintro e w2 ⟨rfl, hp⟩
      replace HP := Lib.hid (HP.out.trans' hp)
      clear hp
      go_wp2_with fail
      refine (H2.out _ (HS.out.past HP.out)).mono ?_
      rintro e w3 ⟨rfl, hp⟩
      replace HP := Lib.hid (HP.out.trans' hp)
      clear hp
      go_wp2_with fail
      refine (H3.out _).mono ?_
      rintro e w' ⟨rfl, rfl⟩
      go_wp2_with fail
      refine (H4.out _).mono ?_
      rintro e w4 ⟨rfl, hp⟩
      replace HP := Lib.hid (HP.out.trans' hp)
      clear hp
      go_wp2_with fail
      go_ret
      exact ⟨rfl, HP.out⟩
    | true =>
      have hd : rdec al (txt (renc al xs len1)) = some xs := by
        have := rdec_renc hal xs HS.out.rng
        rwa [HS.out.len] at this
      rw [hd] at H4
      clear hd
      generalize txt (renc al xs len1) = s at *
      generalize rlen al len1 = n at *
      rcases al_cases hal with rfl | rfl
      all_goals
        go_enter Try.func4, Try.ntmps4
        go_wp2_with fail
        refine (awake_any _).mono ?_
        rintro e w1 ⟨rfl, hp⟩
        have HP := Lib.hid hp
        clear hp
        go_wp2_with fail
        refine (H1.out _ (HS.out.past HP.out)).mono ?_
        rintro e w2 ⟨rfl, hp⟩
        replace HP := Lib.hid (HP.out.trans' hp)
        clear hp
        go_wp2_with fail
        refine (H2.out _ (HS.out.past HP.out)).mono ?_
        rintro e w3 ⟨rfl, hp⟩
        replace HP := Lib.hid (HP.out.trans' hp)
        clear hp
        go_wp2_with fail
        refine (H3.out _).mono ?_
        rintro e w' ⟨rfl, rfl⟩
        go_wp2_with fail
        refine (H4.out _).mono ?_
        rintro e w4 ⟨B, m, d, rfl, hs, hp⟩
        obtain rfl : m = len1 := by rw [← hs.len, HS.out.len]
        have HB := Lib.hid hs
        replace HP := Lib.hid (HP.out.trans' hp)
        clear hp hs
        go_wp2_with fail
        refine (rsame_self _ _ _ _ _ xs _ HB.out (HS.out.past HP.out)).mono ?_
        rintro e w5 ⟨rfl, q, rfl⟩
        replace HP := Lib.hid (HP.out.drewN q)
        go_wp2_with fail
        go_ret
        exact ⟨rfl, HP.out⟩

set_option maxRecDepth 100000 in
theorem lifted (os : Os) (started : os.Started) (H : Type) (enc : TypeId × Value → H) :
    ReturnsInHanded {} Try.checked os 4 .any (Rows.base64EncodesSpec.pre6 enc Try.prog Try.f4 Rows.base64EncodesRow.domain false) (Rows.base64EncodesSpec.post enc Try.prog Try.f4 false true false false) := by
  refine returnsInHanded_of_change (C := Try.checked) own started (by kernel_rfl) Try.func4
    (ChangeSpec.witness6 (enc := enc) (C := Try.checked) false ⟨#[], #[.int .i64 0, .slice none 0 0], []⟩ 8 (by kernel_rfl) (by kernel_rfl) (by kernel_rfl) (by kernel_rfl)) ?_
  intro W base args ds gs before hval0 hW hcnd _
  have hval : ∀ (j : Nat) t v, Try.f4.params[j]? = some t → args[j]? = some v → Value.okWide Try.prog W .any base t v := hval0
  have hW' := hW
  obtain ⟨p, q, hA0, hV, rfl, hfz, hnd⟩ := hW
  have hA : DataW.TrodAll enc Try.prog W 0 (fun _ => true) true Try.f4.params.toList args.toList ds p := hA0
  rw [Try.params4] at hA hval
  obtain ⟨v0, vs0, d0, ds0, p0, q0, hargs, rfl, rfl, h0, r0⟩ := trodAll_cons hA
  obtain ⟨v1, vs1, d1, ds1, p1, q1, rfl, rfl, rfl, h1, r1⟩ := trodAll_cons r0
  obtain ⟨rfl, rfl, rfl⟩ := trodAll_nil r1
  obtain rfl : args = #[v0, v1] := by cases args; simp_all
  obtain ⟨rfl, rfl⟩ := trodVars_none hV
  obtain ⟨a0, rfl, rfl, rfl, w0⟩ := open_int Try.underlying3 (hval 0 3 v0 rfl rfl) h0
  obtain ⟨a1, len1, cap1, rfl⟩ := okWide_slice Try.underlying23 (hval 1 23 v1 rfl rfl)
  have k1 := h1
  have lt1 : ∀ x ∈ p1, x.block < W.heap.size := by obtain ⟨m, hm⟩ := k1; exact DataW.trod_lt m _ _ _ hm
  obtain ⟨z1, w1⟩ : ∃ zs, IsRow .u8 W a1 len1 cap1 zs := by
    obtain ⟨fuel, hf⟩ := h1
    rcases open_ints Try.underlying23 Try.underlying5 (by kernel_rfl) hf with ⟨hcs, _⟩ | ⟨x, l, c, zs, hcs, _, hl, hm, hz, _, hcell, hwz⟩
    · simp [Value.cells] at hcs
      obtain ⟨rfl, rfl, rfl⟩ := hcs
      exact ⟨[], .inl ⟨rfl, rfl, rfl, rfl⟩⟩
    · simp [Value.cells] at hcs
      obtain ⟨rfl, rfl, rfl⟩ := hcs
      exact ⟨zs, .inr ⟨_, rfl, hl, hm, by simpa using hz, hcell, hwz⟩⟩
  clear hA0 hval0
  refine (walk a0 a1 len1 cap1 z1 W w0 w1).mono fun e W' ⟨he, bel⟩ => ?_
  subst he
  exact ⟨_, rfl, _, _, _, [], _, [], hW', trodAll_mk1 (shut_bool Try.underlying4 _), (trodAll_cons_mk (shut_int Try.underlying3 w0) (trodAll_cons_mk (Below.trod laidOut (by kernel_rfl) (of_decide_eq_true (by kernel_rfl)) k1 bel lt1) trodAll_mk0)), rfl, bel.frame _, fun h => by cases h⟩

theorem over : Rows.base64EncodesRow.holds Try.pinned (OpenSpec.ofChange Rows.base64EncodesSpec) :=
  OpenClaim.holds_of_wide 4 Try.f4 rfl rfl rfl rfl rfl rfl rfl ⟨rfl, rfl, rfl, rfl, rfl⟩ rfl rfl rfl rfl rfl (by kernel_rfl) Try.func4 (by kernel_rfl)
    (of_decide_eq_true (by kernel_rfl)) (by unfold Func.isWrapper; first | (rw [if_pos (by decide +kernel)]; kernel_rfl) | (rw [if_neg (by decide +kernel)]; exact ⟨rfl, rfl⟩))
    (fun os started H enc _ => lifted os started H enc)

theorem proved : Rows.Base64EncodesSaid := over
end Go.Proofs.Ytclfnpggllgepaa.base64Encodes
