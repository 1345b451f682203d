/- For every alphabet and every two slices of bytes the law Base64Joins of package pyxlaw04 returns true; there is no further condition. -/
import Derived.Test.YtclfnpggllgepaaFrame
namespace Go.Proofs.Ytclfnpggllgepaa.base64Joins
open Go.ChangeShapes Go.WideShapes Go.ChangeAt Go.RowKit
set_option linter.unusedVariables false

theorem txt_append (a b : List Int) : txt (a ++ b) = txt a ++ txt b := by
  apply ByteArray.ext
  rw [ByteArray.data_append]
  simp [txt, Lib.bytesOf]

theorem walk (al : Int) (a1 : Option Addr) (len1 cap1 : Nat) (z1 : List Int) (a2 : Option Addr) (len2 cap2 : Nat) (z2 : List Int) (w : World) (w0 : (Lit.int .i64 al).wf = true) (w1 : IsRow .u8 w a1 len1 cap1 z1) (w2 : IsRow .u8 w a2 len2 cap2 z2) :
    Calls Try.prog 6 #[.int .i64 al, .slice a1 len1 cap1, .slice a2 len2 cap2] w fun e w' => e = .returned (.bool true) ∧ Past w w' := by
  have hs1 := Sl.of_row w1
  have hs2 := Sl.of_row w2
  generalize z1.take len1 = xs at hs1
  generalize z2.take len2 = ys at hs2
  have hcp1 := hs1.cap
  have hcp2 := hs2.cap
  have hbg1 := hs1.big
  have hbg2 := hs2.big
  unfold maxLen at hbg1 hbg2
  have H1 := Lib.hid hs1
  have H2 := Lib.hid hs2
  clear w0 w1 w2 hs1 hs2
  by_cases hok : len1 ≤ 300 ∧ len2 ≤ 300 ∧ len1 % 3 = 0
  · obtain ⟨hl1, hl2, hl3⟩ := hok
    have b1 : decide (300 < (len1 : Int)) = false := by simp; omega
    have b2 : decide (300 < (len2 : Int)) = false := by simp; omega
    have b3 : ((len1 : Int) % 3 != 0) = false := by simp; omega
    obtain ⟨k, hk⟩ : ∃ k, len1 = 3 * k := ⟨len1 / 3, by omega⟩
    have hj : renc al (xs ++ ys) (xs ++ ys).length = renc al xs len1 ++ renc al ys len2 := by
      have := renc_join al xs ys k (by rw [H1.out.len]; exact hk)
      rw [this, H1.out.len, H2.out.len]
    have HJ := Lib.hid hj
    clear hj
    have hz1 : (txt (renc al xs len1)).size ≤ 1000 := by
      rw [txt_size, rlen_renc]
      unfold rlen
      repeat' split
      all_goals omega
    have hz2 : (txt (renc al ys len2)).size ≤ 1000 := by
      rw [txt_size, rlen_renc]
      unfold rlen
      repeat' split
      all_goals omega
    clear hk
    go_enter Try.func6, Try.ntmps6
    go_wp2_with fail
    refine (awake_any _).mono ?_
    rintro e w1 ⟨rfl, hp⟩
    have HP := Lib.hid hp
    clear hp
    go_wp2_with fail
    have hr := Row.new w1 23 #[.slice a1 len1 cap1, .slice a2 len2 cap2]
    replace HP := Lib.hid (HP.out.trans' (past_alloc w1 (.cells #[.slice a1 len1 cap1, .slice a2 len2 cap2] 23)))
    generalize w1.alloc (.cells #[.slice a1 len1 cap1, .slice a2 len2 cap2] 23) = w2 at *
    have hS : Sls w2 (some ⟨w1.heap.size, 0, none⟩) 2 2 (fun i => if i = 0 then a1 else a2) (fun i => if i = 0 then cap1 else cap2) (fun i => if i = 0 then xs else ys) := by
      refine ⟨Nat.le_refl _, by unfold maxLen; omega, (fun e => by cases e), fun _ => ⟨w1.heap.size, 0, rfl, fun i hi => ?_⟩⟩
      have hi2 : i = 0 ∨ i = 1 := by omega
      rcases hi2 with rfl | rfl
      · simp only [if_true]
        rw [H1.out.len]
        exact ⟨hr.cell 0, H1.out.past HP.out⟩
      · simp only [Nat.one_ne_zero, if_false]
        rw [H2.out.len]
        exact ⟨hr.cell 1, H2.out.past HP.out⟩
    have hc : cat (fun i => if i = 0 then xs else ys) 2 = xs ++ ys := by simp [cat, List.range, List.range.loop]
    have hJ := rjoin_any _ 2 2 _ _ _ w2 hS (by omega) (by rw [hc, List.length_append, H1.out.len, H2.out.len]; omega)
    rw [hc] at hJ
    have HJJ := Lib.hid hJ
    clear hr hS hc hJ
    refine HJJ.out.mono ?_
    rintro e w3 ⟨A, d, rfl, ho, hp⟩
    have HS := Lib.hid (Sl.of_own ho (fun x hx => by
      rcases List.mem_append.1 hx with h | h
      · exact H1.out.rng x h
      · exact H2.out.rng x h))
    replace HP := Lib.hid (HP.out.trans' hp)
    have hlen : (xs ++ ys).length ≤ 600 := by rw [List.length_append, H1.out.len, H2.out.len]; omega
    clear ho hp HJJ
    generalize (xs ++ ys).length = N at *
    go_wp2_with fail
    refine (pencode_any al _ _ _ _ _ HS.out (by omega)).mono ?_
    rintro e w4 ⟨rfl, hp⟩
    replace HP := Lib.hid (HP.out.trans' hp)
    clear hp HS
    go_wp2_with fail
    refine (pencode_any al _ _ _ xs _ (H1.out.past HP.out) (by omega)).mono ?_
    rintro e w5 ⟨rfl, hp⟩
    replace HP := Lib.hid (HP.out.trans' hp)
    clear hp
    go_wp2_with fail
    refine (pencode_any al _ _ _ ys _ (H2.out.past HP.out) (by omega)).mono ?_
    rintro e w6 ⟨rfl, hp⟩
    replace HP := Lib.hid (HP.out.trans' hp)
    clear hp
    go_wp2_with fail
    go_ret
    have he : ((txt (renc al (xs ++ ys) N)).toList == (txt (renc al xs len1) ++ txt (renc al ys len2)).toList) = true := by
      rw [HJ.out, txt_append]
      simp
    exact ⟨by rw [← he]; rfl, HP.out⟩
  · have hb : (decide (300 < (len1 : Int)) || decide (300 < (len2 : Int)) || (len1 : Int) % 3 != 0) = true := by
      simp
      omega
    go_enter Try.func6, Try.ntmps6
    go_wp2_with fail
    refine (awake_any _).mono ?_
    rintro e w1 ⟨rfl, hp⟩
    have HP := Lib.hid hp
    clear hp
    go_wp2_with fail
    all_goals
      refine (awake_any _).mono ?_
      rintro e w2 ⟨rfl, hp⟩
      replace HP := Lib.hid (HP.out.trans' hp)
      clear hp
      go_wp2_with fail
      go_ret
      exact ⟨rfl, HP.out⟩

set_option maxRecDepth 100000 in
theorem lifted (os : Os) (started : os.Started) (H : Type) (enc : TypeId × Value → H) :
    ReturnsInHanded {} Try.checked os 6 .any (Rows.base64JoinsSpec.pre6 enc Try.prog Try.f6 Rows.base64JoinsRow.domain false) (Rows.base64JoinsSpec.post enc Try.prog Try.f6 false true false false) := by
  refine returnsInHanded_of_change (C := Try.checked) own started (by kernel_rfl) Try.func6
    (ChangeSpec.witness6 (enc := enc) (C := Try.checked) false ⟨#[], #[.int .i64 0, .slice none 0 0, .slice none 0 0], []⟩ 8 (by kernel_rfl) (by kernel_rfl) (by kernel_rfl) (by kernel_rfl)) ?_
  intro W base args ds gs before hval0 hW hcnd _
  have hval : ∀ (j : Nat) t v, Try.f6.params[j]? = some t → args[j]? = some v → Value.okWide Try.prog W .any base t v := hval0
  have hW' := hW
  obtain ⟨p, q, hA0, hV, rfl, hfz, hnd⟩ := hW
  have hA : DataW.TrodAll enc Try.prog W 0 (fun _ => true) true Try.f6.params.toList args.toList ds p := hA0
  rw [Try.params6] at hA hval
  obtain ⟨v0, vs0, d0, ds0, p0, q0, hargs, rfl, rfl, h0, r0⟩ := trodAll_cons hA
  obtain ⟨v1, vs1, d1, ds1, p1, q1, rfl, rfl, rfl, h1, r1⟩ := trodAll_cons r0
  obtain ⟨v2, vs2, d2, ds2, p2, q2, rfl, rfl, rfl, h2, r2⟩ := trodAll_cons r1
  obtain ⟨rfl, rfl, rfl⟩ := trodAll_nil r2
  obtain rfl : args = #[v0, v1, v2] := by cases args; simp_all
  obtain ⟨rfl, rfl⟩ := trodVars_none hV
  obtain ⟨a0, rfl, rfl, rfl, w0⟩ := open_int Try.underlying3 (hval 0 3 v0 rfl rfl) h0
  obtain ⟨a1, len1, cap1, rfl⟩ := okWide_slice Try.underlying23 (hval 1 23 v1 rfl rfl)
  have k1 := h1
  have lt1 : ∀ x ∈ p1, x.block < W.heap.size := by obtain ⟨m, hm⟩ := k1; exact DataW.trod_lt m _ _ _ hm
  obtain ⟨z1, w1⟩ : ∃ zs, IsRow .u8 W a1 len1 cap1 zs := by
    obtain ⟨fuel, hf⟩ := h1
    rcases open_ints Try.underlying23 Try.underlying5 (by kernel_rfl) hf with ⟨hcs, _⟩ | ⟨x, l, c, zs, hcs, _, hl, hm, hz, _, hcell, hwz⟩
    · simp [Value.cells] at hcs
      obtain ⟨rfl, rfl, rfl⟩ := hcs
      exact ⟨[], .inl ⟨rfl, rfl, rfl, rfl⟩⟩
    · simp [Value.cells] at hcs
      obtain ⟨rfl, rfl, rfl⟩ := hcs
      exact ⟨zs, .inr ⟨_, rfl, hl, hm, by simpa using hz, hcell, hwz⟩⟩
  obtain ⟨a2, len2, cap2, rfl⟩ := okWide_slice Try.underlying23 (hval 2 23 v2 rfl rfl)
  have k2 := h2
  have lt2 : ∀ x ∈ p2, x.block < W.heap.size := by obtain ⟨m, hm⟩ := k2; exact DataW.trod_lt m _ _ _ hm
  obtain ⟨z2, w2⟩ : ∃ zs, IsRow .u8 W a2 len2 cap2 zs := by
    obtain ⟨fuel, hf⟩ := h2
    rcases open_ints Try.underlying23 Try.underlying5 (by kernel_rfl) hf with ⟨hcs, _⟩ | ⟨x, l, c, zs, hcs, _, hl, hm, hz, _, hcell, hwz⟩
    · simp [Value.cells] at hcs
      obtain ⟨rfl, rfl, rfl⟩ := hcs
      exact ⟨[], .inl ⟨rfl, rfl, rfl, rfl⟩⟩
    · simp [Value.cells] at hcs
      obtain ⟨rfl, rfl, rfl⟩ := hcs
      exact ⟨zs, .inr ⟨_, rfl, hl, hm, by simpa using hz, hcell, hwz⟩⟩
  clear hA0 hval0
  refine (walk a0 a1 len1 cap1 z1 a2 len2 cap2 z2 W w0 w1 w2).mono fun e W' ⟨he, bel⟩ => ?_
  subst he
  exact ⟨_, rfl, _, _, _, [], _, [], hW', trodAll_mk1 (shut_bool Try.underlying4 _), (trodAll_cons_mk (shut_int Try.underlying3 w0) (trodAll_cons_mk (Below.trod laidOut (by kernel_rfl) (of_decide_eq_true (by kernel_rfl)) k1 bel lt1) (trodAll_cons_mk (Below.trod laidOut (by kernel_rfl) (of_decide_eq_true (by kernel_rfl)) k2 bel lt2) trodAll_mk0))), rfl, bel.frame _, fun h => by cases h⟩

theorem over : Rows.base64JoinsRow.holds Try.pinned (OpenSpec.ofChange Rows.base64JoinsSpec) :=
  OpenClaim.holds_of_wide 6 Try.f6 rfl rfl rfl rfl rfl rfl rfl ⟨rfl, rfl, rfl, rfl, rfl⟩ rfl rfl rfl rfl rfl (by kernel_rfl) Try.func6 (by kernel_rfl)
    (of_decide_eq_true (by kernel_rfl)) (by unfold Func.isWrapper; first | (rw [if_pos (by decide +kernel)]; kernel_rfl) | (rw [if_neg (by decide +kernel)]; exact ⟨rfl, rfl⟩))
    (fun os started H enc _ => lifted os started H enc)

theorem proved : Rows.Base64JoinsSaid := over
end Go.Proofs.Ytclfnpggllgepaa.base64Joins
