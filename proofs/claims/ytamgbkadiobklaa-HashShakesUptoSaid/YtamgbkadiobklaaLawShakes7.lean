/- For every number n and every list of parts of bulk at most the bound of the second form the law HashShakes of package pyxlaw07 returns true. -/
import Derived.Test.YtamgbkadiobklaaFrame7
import Derived.Test.YtamgbkadiobklaaImp7
namespace Go.Proofs.Ytamgbkadiobklaa.hashShakes
open Go.ChangeShapes Go.WideShapes Go.ChangeAt Go.RowKit
set_option linter.unusedVariables false

set_option maxHeartbeats 2000000 in
theorem walk (H : Prog7) (N : Int) (P : Option Addr) (n c : Nat) (V : Nat → Option Addr) (C : Nat → Nat) (X : Nat → List Int) (w : World) (hN : (Lit.int .i64 N).wf = true) (h : Sls w P n c V C X) (hl : (cat X n).length ≤ 140737488355328) :
    Calls Try.prog 4 #[.int .i64 N, .slice P n c] w fun e w' => e = .returned (.bool true) ∧ Past w w' := by
  have HA := Lib.hid (awake_any H)
  by_cases hno : 20 < n ∨ 1000 < (cat X n).length
  · have HF := Lib.hid (few_no P n c V C X w h hl hno)
    clear h hl hno hN
    go_enter Try.func4, Try.ntmps4
    go_wp2_with fail
    refine HF.out.mono ?_
    rintro e w1 ⟨v, rfl, hp⟩
    have H1 := Lib.hid hp
    clear hp HF
    go_wp2_with fail
    refine (HA.out _).mono ?_
    rintro e w2 ⟨rfl, hp⟩
    have H2 := Lib.hid (H1.out.trans' hp)
    clear hp H1
    go_wp2_with fail
    refine (HA.out _).mono ?_
    rintro e w3 ⟨rfl, hp⟩
    have H3 := Lib.hid (H2.out.trans' hp)
    clear hp H2
    go_wp2_with fail
    go_ret
    exact ⟨rfl, H3.out⟩
  · have hn : n ≤ 20 := by omega
    have hm : (cat X n).length ≤ 1000 := by omega
    have HF := Lib.hid (few_yes P n c V C X w h hn hm)
    have HS := Lib.hid h
    have HM := Lib.hid hm
    by_cases hbig : 1000 < N
    · clear h hl hno hN hn hm
      generalize cat X n = xs at *
      go_enter Try.func4, Try.ntmps4
      go_wp2_with fail
      refine HF.out.mono ?_
      rintro e w1 ⟨B, d, rfl, hs, hp⟩
      have H1 := Lib.hid hp
      clear hp hs HF
      generalize xs.length = m at *
      go_wp2_with fail
      refine (HA.out _).mono ?_
      rintro e w2 ⟨rfl, hp⟩
      have H2 := Lib.hid (H1.out.trans' hp)
      clear hp H1
      go_wp2_with fail
      refine (HA.out _).mono ?_
      rintro e w3 ⟨rfl, hp⟩
      have H3 := Lib.hid (H2.out.trans' hp)
      clear hp H2
      go_wp2_with fail
      go_ret
      exact ⟨rfl, H3.out⟩
    · have hN2 : N ≤ 1000 := by omega
      have h2 := fun w1 (hp : Past w w1) => H.shake128 N P n c V C X w1 (HS.out.past hp) (by omega) hm hN2
      have h3 := fun w1 (hp : Past w w1) => H.shake256 N P n c V C X w1 (HS.out.past hp) (by omega) hm hN2
      have HN2 := Lib.hid hN2
      have H128 := Lib.hid h2
      have H256 := Lib.hid h3
      clear h hl hno h2 h3 hn hm hN
      generalize cat X n = xs at *
      go_enter Try.func4, Try.ntmps4
      go_wp2_with fail
      refine HF.out.mono ?_
      rintro e w1 ⟨B, d, rfl, hs, hp⟩
      have H1 : Hid (Past w w1 ∧ Sl w1 B xs.length d xs) := Lib.hid ⟨hp, hs⟩
      clear hp hs HF
      generalize hm : xs.length = m at *
      clear hm
      go_wp2_with fail
      refine (HA.out _).mono ?_
      rintro e w2 ⟨rfl, hp⟩
      have H2 : Hid (Past w w2 ∧ Sl w2 B m d xs) := Lib.hid ⟨H1.out.1.trans' hp, H1.out.2.past hp⟩
      clear hp H1 HA
      have HX1 : Hid (∀ wx, Past w2 wx → Calls Try.prog 16 #[.int .i64 N, .slice B m d] wx (Outs (bl (rout (rstate xs 168 31) 168) N.toNat) N.toNat wx)) :=
        Lib.hid fun wx hp => rshake128_any N B m d xs wx (H2.out.2.past hp) (by have := HM.out; omega) (by have := HN2.out; omega)
      have HX2 : Hid (∀ wx, Past w2 wx → Calls Try.prog 18 #[.int .i64 N, .slice B m d] wx (Outs (bl (rout (rstate xs 136 31) 136) N.toNat) N.toNat wx)) :=
        Lib.hid fun wx hp => rshake256_any N B m d xs wx (H2.out.2.past hp) (by have := HM.out; omega) (by have := HN2.out; omega)
      generalize bl (rout (rstate xs 168 31) 168) N.toNat = y1 at *
      generalize bl (rout (rstate xs 136 31) 136) N.toNat = y2 at *
      generalize N.toNat = K at *
      have H0 := Lib.hid H2.out.1
      clear H2
      go_wp2_with fail
      refine (H128.out _ H0.out).mono ?_
      rintro e w3 ⟨A3, d3, rfl, hs, hp⟩
      have H3 : Hid (Past w2 w3 ∧ Sl w3 A3 K d3 y1) := Lib.hid ⟨hp, hs⟩
      clear hs hp H128
      go_wp2_with fail
      refine (HX1.out _ H3.out.1).mono ?_
      rintro e w4 ⟨A4, d4, rfl, hs, hp⟩
      have H4 : Hid (Past w2 w4 ∧ Sl w4 A3 K d3 y1 ∧ Sl w4 A4 K d4 y1) := Lib.hid ⟨H3.out.1.trans' hp, H3.out.2.past hp, hs⟩
      clear hs hp HX1 H3
      go_wp2_with fail
      refine (rsame_self _ _ _ _ _ _ _ H4.out.2.1 H4.out.2.2).mono ?_
      rintro e w' ⟨rfl, m5, rfl⟩
      have H5 : Hid (Past w2 (w4.drewN m5)) := Lib.hid (H4.out.1.drewN m5)
      clear H4
      generalize w4.drewN m5 = w5 at *
      go_wp2_with fail
      refine (H256.out _ (H0.out.trans' H5.out)).mono ?_
      rintro e w6 ⟨A6, d6, rfl, hs, hp⟩
      have H6 : Hid (Past w2 w6 ∧ Sl w6 A6 K d6 y2) := Lib.hid ⟨H5.out.trans' hp, hs⟩
      clear hs hp H256 H5
      go_wp2_with fail
      refine (HX2.out _ H6.out.1).mono ?_
      rintro e w7 ⟨A7, d7, rfl, hs, hp⟩
      have H7 : Hid (Past w2 w7 ∧ Sl w7 A6 K d6 y2 ∧ Sl w7 A7 K d7 y2) := Lib.hid ⟨H6.out.1.trans' hp, H6.out.2.past hp, hs⟩
      clear hs hp HX2 H6
      go_wp2_with fail
      refine (rsame_self _ _ _ _ _ _ _ H7.out.2.1 H7.out.2.2).mono ?_
      rintro e w' ⟨rfl, m8, rfl⟩
      have H8 := Lib.hid (H0.out.trans' (H7.out.1.drewN m8))
      clear H7
      generalize w7.drewN m8 = w8 at *
      go_wp2_with fail
      go_ret
      exact ⟨rfl, H8.out⟩

set_option maxRecDepth 100000 in
theorem lifted (H7 : Prog7) (os : Os) (started : os.Started) (H : Type) (enc : TypeId × Value → H) (F : Stop.Interp) :
    ReturnsInHanded {} Try.checked os 4 .any ((Rows.OpenSpec.upto Rows.hashShakesSpec).pre6 enc Try.prog Try.f4 Rows.hashShakesUptoRow.domain false) (((Rows.OpenSpec.upto Rows.hashShakesSpec).at F).post enc Try.prog Try.f4 false true false false) := by
  refine returnsInHanded_of_cond (C := Try.checked) (s := Rows.OpenSpec.upto Rows.hashShakesSpec) (k := Rows.uptoSmall) rfl own started (by kernel_rfl) Try.func4
    (OpenSpec.witness (enc := enc) (C := Try.checked) (s := Rows.OpenSpec.upto Rows.hashShakesSpec) (k := Rows.uptoSmall) rfl false ⟨#[], #[.int .i64 0, .slice none 0 0], []⟩ 8 (by kernel_rfl) (by kernel_rfl) (by kernel_rfl)
      (x := ([.lit (.int .i64 0), .nil], [], [])) (by kernel_rfl) rfl (by kernel_rfl)) ?_
  intro W base args ds gs before hval0 hW _ hbulk0 _
  have hval : ∀ (j : Nat) t v, Try.f4.params[j]? = some t → args[j]? = some v → Value.okWide Try.prog W .any base t v := hval0
  have hW' := hW
  obtain ⟨p, q, hA0, hV, rfl, hfz, hnd⟩ := hW
  have hA : DataW.TrodAll enc Try.prog W 0 (fun _ => true) true Try.f4.params.toList args.toList ds p := hA0
  rw [Try.params4] at hA hval
  obtain ⟨v0, vs0, d0, ds0, p0, q0, hargs, rfl, rfl, h0, r0⟩ := trodAll_cons hA
  obtain ⟨v1, vs1, d1, ds1, p1, q1, rfl, rfl, rfl, h1, r1⟩ := trodAll_cons r0
  obtain ⟨rfl, rfl, rfl⟩ := trodAll_nil r1
  obtain rfl : args = #[v0, v1] := by cases args; simp_all
  obtain ⟨rfl, rfl⟩ := trodVars_none hV
  have hbulk := bulk_small hbulk0
  simp only [List.append_nil, Rows.uptoBulkAll] at hbulk
  obtain ⟨a0, rfl, rfl, rfl, w0⟩ := open_int Try.underlying3 (hval 0 3 v0 rfl rfl) h0
  obtain ⟨a1, len1, cap1, rfl⟩ := okWide_slice Try.underlying22 (hval 1 22 v1 rfl rfl)
  have k1 := h1
  have lt1 : ∀ x ∈ p1, x.block < W.heap.size := by obtain ⟨m, hm⟩ := k1; exact DataW.trod_lt m _ _ _ hm
  obtain ⟨V1, C1, X1, w1, hl1⟩ := rows_of h1
  clear hA0 hval0
  refine (walk H7 a0 a1 len1 cap1 V1 C1 X1 W w0 w1 (by omega)).mono fun e W' ⟨he, bel⟩ => ?_
  subst he
  exact ⟨_, rfl, _, _, _, [], _, [], hW', trodAll_mk1 (shut_bool Try.underlying4 _), (trodAll_cons_mk (shut_int Try.underlying3 w0) (trodAll_cons_mk (Below.trod laidOut (by kernel_rfl) (of_decide_eq_true (by kernel_rfl)) k1 bel lt1) trodAll_mk0)), rfl, bel.frame _, fun h => by cases h⟩

theorem over (H7 : Prog7) : Rows.hashShakesUptoRow.holds Try.pinned (Rows.OpenSpec.upto Rows.hashShakesSpec) :=
  OpenClaim.holds_of_cond 4 Try.f4 rfl rfl rfl rfl rfl rfl rfl ⟨rfl, rfl, rfl, rfl, rfl⟩ rfl rfl rfl rfl rfl (by kernel_rfl) Try.func4 (by kernel_rfl)
    (of_decide_eq_true (by kernel_rfl)) (by unfold Func.isWrapper; first | (rw [if_pos (by decide +kernel)]; kernel_rfl) | (rw [if_neg (by decide +kernel)]; exact ⟨rfl, rfl⟩))
    (fun os started H enc _ F => lifted H7 os started H enc F)

theorem proved : Rows.HashShakesUptoSaid := over prog7

end Go.Proofs.Ytamgbkadiobklaa.hashShakes
