/- For every two numbers and all bytes the law BitsUnpacks of package pyxlaw05 returns true and leaves its arguments alone; there is no further condition. -/
import Derived.Test.YtdclkhnmpkbgaaaFrame
namespace Go.Proofs.Ytdclkhnmpkbgaaa.bitsUnpacks
open Go.ChangeShapes Go.WideShapes Go.ChangeAt Go.RowKit
set_option linter.unusedVariables false

theorem facts {d n : Int} {xs ls : List Int} (hr : ∀ x ∈ xs, 0 ≤ x ∧ x < 256) (hl : xs.length ≤ 500) (h : runpack d n xs = some ls) :
    rpack d ls = some xs ∧ ls.length ≤ 10000 ∧ ∀ i, 0 ≤ ls.getD i 0 ∧ ls.getD i 0 < 4294967296 := by
  have hn : ¬ (d < 1 ∨ 32 < d ∨ n < 0 ∨ 1048576 < n ∨ (xs.length : Int) ≠ sizeI d n) := fun hc => by
    unfold runpack at h
    rw [if_pos (by
      rcases hc with h | h | h | h | h
      · exact .inl h
      · exact .inr (.inl h)
      · exact .inr (.inr (.inl h))
      · exact .inr (.inr (.inr (.inl h)))
      · exact .inr (.inr (.inr (.inr (.inl h)))))] at h
    cases h
  obtain ⟨D, rfl⟩ : ∃ D : Nat, d = (D : Int) := ⟨d.toNat, by omega⟩
  obtain ⟨N, rfl⟩ : ∃ N : Nat, n = (N : Int) := ⟨n.toNat, by omega⟩
  have hD1 : 1 ≤ D := by omega
  have hD2 : D ≤ 32 := by omega
  have hs : (xs.length : Int) = sizeI D N := Classical.byContradiction fun hc => hn (.inr (.inr (.inr (.inr hc))))
  rw [sizeI_nat hD1 hD2 N (by omega)] at hs
  obtain ⟨h1, h2, _, h3⟩ := rpack_unpack hD1 hD2 hr h
  refine ⟨h1, ?_, fun i => ?_⟩
  · have h4 : nbytes D N ≤ 500 := by omega
    unfold nbytes at h4
    have h5 := Nat.mul_le_mul_right N hD1
    omega
  · have h4 := h3 i
    have h5 := pow_le D 32 hD2
    have e : (2 : Int) ^ 32 = 4294967296 := by decide
    omega

set_option maxHeartbeats 1000000 in
theorem walk' (d k : Int) (A : Option Addr) (n c : Nat) (xs : List Int) (w : World) (hS : Sl w A n c xs) :
    Calls Try.prog 4 #[.int .i64 d, .int .i64 k, .slice A n c] w fun e w' => e = .returned (.bool true) ∧ Past w w' := by
  have hcap := hS.cap
  have hbig := hS.big
  unfold maxLen at hbig
  have HA := fun w => Lib.hid (awake_any w)
  by_cases t1 : 500 < n
  · clear hS
    go_enter Try.func4, Try.ntmps4
    go_wp2_with fail
    refine (HA _).out.mono ?_
    rintro e w1 ⟨rfl, hp1⟩
    have H1 := Lib.hid hp1
    clear hp1
    go_wp2_with fail
    refine (HA _).out.mono ?_
    rintro e w2 ⟨rfl, hp⟩
    replace H1 := Lib.hid (H1.out.trans' hp)
    clear hp
    go_wp2_with fail
    go_ret
    exact ⟨rfl, H1.out⟩
  · have HS := Lib.hid hS
    have hn : n ≤ 10000 := by omega
    have hz1 := fun w => Lib.hid (psize_any d k w)
    have hz2 := fun w => Lib.hid (rsize_any d k w)
    have HF := Lib.hid (fun ls h => facts (d := d) (n := k) (ls := ls) hS.rng (by rw [hS.len]; omega) h)
    clear hS
    cases ho : runpack d k xs with
    | none =>
      have HO := Lib.hid ho
      clear ho HF
      generalize sizeI d k = z at *
      go_enter Try.func4, Try.ntmps4
      go_wp2_with fail
      refine (HA _).out.mono ?_
      rintro e w1 ⟨rfl, hp1⟩
      have H1 := Lib.hid hp1
      clear hp1
      go_wp2_with fail
      have HP := punpack_any d k A n c xs w1 (HS.out.past H1.out) hn
      rw [HO.out] at HP
      replace HP := Lib.hid HP
      refine HP.out.mono ?_
      rintro e w2 ⟨rfl, hp⟩
      replace H1 := Lib.hid (H1.out.trans' hp)
      clear hp HP
      go_wp2_with fail
      have HP := runpack_any d k A n c xs w2 (HS.out.past H1.out) hn
      rw [HO.out] at HP
      replace HP := Lib.hid HP
      refine HP.out.mono ?_
      rintro e w3 ⟨rfl, hp⟩
      replace H1 := Lib.hid (H1.out.trans' hp)
      clear hp HP
      go_wp2_with fail
      refine (rsame5_self none none 0 0 0 [] _ (SlK.nil .u32 _) (SlK.nil .u32 _)).mono ?_
      rintro e w4 ⟨rfl, m, hw⟩
      replace H1 : Hid (Past w w4) := by rw [hw]; exact H1.out.drewN m
      clear hw
      go_wp2_with fail
      refine (hz1 _).out.mono ?_
      rintro e w' ⟨rfl, rfl⟩
      go_wp2_with fail
      refine (hz2 _).out.mono ?_
      rintro e w' ⟨rfl, rfl⟩
      go_wp2_with fail
      go_ret
      exact ⟨rfl, H1.out⟩
    | some ls =>
      have HO := Lib.hid ho
      have HF2 := Lib.hid (HF.out ls ho)
      clear ho HF
      generalize sizeI d k = z at *
      go_enter Try.func4, Try.ntmps4
      go_wp2_with fail
      refine (HA _).out.mono ?_
      rintro e w1 ⟨rfl, hp1⟩
      have H1 := Lib.hid hp1
      clear hp1
      go_wp2_with fail
      have HP := punpack_any d k A n c xs w1 (HS.out.past H1.out) hn
      rw [HO.out] at HP
      replace HP := Lib.hid HP
      refine HP.out.mono ?_
      rintro e w2 ⟨B, nb, cb, rfl, hb, hp⟩
      have hnb := hb.len
      replace H1 := Lib.hid (And.intro hb (H1.out.trans' hp))
      clear hp HP hb
      go_wp2_with fail
      have HP := runpack_any d k A n c xs w2 (HS.out.past H1.out.2) hn
      rw [HO.out] at HP
      replace HP := Lib.hid HP
      refine HP.out.mono ?_
      rintro e w3 ⟨B2, nb2, cb2, rfl, hb, hp⟩
      obtain rfl : nb = nb2 := hnb.symm.trans hb.len
      replace H1 := Lib.hid (And.intro hb (And.intro (H1.out.1.past hp) (H1.out.2.trans' hp)))
      clear hp HP hb
      go_wp2_with fail
      refine (rsame5_self B B2 nb cb cb2 ls _ H1.out.2.1 H1.out.1).mono ?_
      rintro e w4 ⟨rfl, m, hw⟩
      replace H1 : Hid (SlK .u32 w4 B nb cb ls ∧ Past w w4) := by
        rw [hw]
        exact ⟨H1.out.2.1.drewN m, H1.out.2.2.drewN m⟩
      clear hw
      go_wp2_with fail
      refine (hz1 _).out.mono ?_
      rintro e w' ⟨rfl, rfl⟩
      go_wp2_with fail
      refine (hz2 _).out.mono ?_
      rintro e w' ⟨rfl, rfl⟩
      go_wp2_with fail
      have HP := ppack_any d B nb cb ls _ H1.out.1 HF2.out.2.2 (by rw [← hnb]; exact HF2.out.2.1)
      rw [HF2.out.1] at HP
      replace HP := Lib.hid HP
      refine HP.out.mono ?_
      rintro e w5 ⟨B3, nb3, cb3, rfl, hb, hp⟩
      obtain rfl : n = nb3 := HS.out.len.symm.trans hb.len
      replace H1 := Lib.hid (And.intro hb (H1.out.2.trans' hp))
      clear hp HP hb
      go_wp2_with fail
      refine (rsame_self B3 A n cb3 c xs _ H1.out.1 (HS.out.past H1.out.2)).mono ?_
      rintro e w6 ⟨rfl, m, hw⟩
      replace H1 : Hid (Past w w6) := by rw [hw]; exact H1.out.2.drewN m
      clear hw
      go_wp2_with fail
      go_ret
      exact ⟨rfl, H1.out⟩

theorem walk (d k : Int) (A : Option Addr) (len cap : Nat) (zs : List Int) (w : World) (wd : (Lit.int .i64 d).wf = true) (wk : (Lit.int .i64 k).wf = true) (h : IsRow .u8 w A len cap zs) :
    Calls Try.prog 4 #[.int .i64 d, .int .i64 k, .slice A len cap] w fun e w' => e = .returned (.bool true) ∧ Past w w' :=
  walk' d k A len cap _ w (Sl.of_row h)

set_option maxRecDepth 100000 in
theorem lifted (os : Os) (started : os.Started) (H : Type) (enc : TypeId × Value → H) :
    ReturnsInHanded {} Try.checked os 4 .any (Rows.bitsUnpacksSpec.pre6 enc Try.prog Try.f4 Rows.bitsUnpacksRow.domain false) (Rows.bitsUnpacksSpec.post enc Try.prog Try.f4 false true false false) := by
  refine returnsInHanded_of_change (C := Try.checked) own started (by kernel_rfl) Try.func4
    (ChangeSpec.witness6 (enc := enc) (C := Try.checked) false ⟨#[], #[.int .i64 0, .int .i64 0, .slice none 0 0], []⟩ 8 (by kernel_rfl) (by kernel_rfl) (by kernel_rfl) (by kernel_rfl)) ?_
  intro W base args ds gs before hval0 hW hcnd _
  have hval : ∀ (j : Nat) t v, Try.f4.params[j]? = some t → args[j]? = some v → Value.okWide Try.prog W .any base t v := hval0
  have hW' := hW
  obtain ⟨p, q, hA0, hV, rfl, hfz, hnd⟩ := hW
  have hA : DataW.TrodAll enc Try.prog W 0 (fun _ => true) true Try.f4.params.toList args.toList ds p := hA0
  rw [Try.params4] at hA hval
  obtain ⟨v0, vs0, d0, ds0, p0, q0, hargs, rfl, rfl, h0, r0⟩ := trodAll_cons hA
  obtain ⟨v1, vs1, d1, ds1, p1, q1, rfl, rfl, rfl, h1, r1⟩ := trodAll_cons r0
  obtain ⟨v2, vs2, d2, ds2, p2, q2, rfl, rfl, rfl, h2, r2⟩ := trodAll_cons r1
  obtain ⟨rfl, rfl, rfl⟩ := trodAll_nil r2
  obtain rfl : args = #[v0, v1, v2] := by cases args; simp_all
  obtain ⟨rfl, rfl⟩ := trodVars_none hV
  obtain ⟨a0, rfl, rfl, rfl, w0⟩ := open_int Try.underlying3 (hval 0 3 v0 rfl rfl) h0
  obtain ⟨a1, rfl, rfl, rfl, w1⟩ := open_int Try.underlying3 (hval 1 3 v1 rfl rfl) h1
  obtain ⟨a2, len2, cap2, rfl⟩ := okWide_slice Try.underlying24 (hval 2 24 v2 rfl rfl)
  have k2 := h2
  have lt2 : ∀ x ∈ p2, x.block < W.heap.size := by obtain ⟨m, hm⟩ := k2; exact DataW.trod_lt m _ _ _ hm
  obtain ⟨z2, w2⟩ : ∃ zs, IsRow .u8 W a2 len2 cap2 zs := by
    obtain ⟨fuel, hf⟩ := h2
    rcases open_ints Try.underlying24 Try.underlying5 (by kernel_rfl) hf with ⟨hcs, _⟩ | ⟨x, l, c, zs, hcs, _, hl, hm, hz, _, hcell, hwz⟩
    · simp [Value.cells] at hcs
      obtain ⟨rfl, rfl, rfl⟩ := hcs
      exact ⟨[], .inl ⟨rfl, rfl, rfl, rfl⟩⟩
    · simp [Value.cells] at hcs
      obtain ⟨rfl, rfl, rfl⟩ := hcs
      exact ⟨zs, .inr ⟨_, rfl, hl, hm, by simpa using hz, hcell, hwz⟩⟩
  clear hA0 hval0
  refine (walk a0 a1 a2 len2 cap2 z2 W w0 w1 w2).mono fun e W' ⟨he, bel⟩ => ?_
  subst he
  exact ⟨_, rfl, _, _, _, [], _, [], hW', trodAll_mk1 (shut_bool Try.underlying4 _), (trodAll_cons_mk (shut_int Try.underlying3 w0) (trodAll_cons_mk (shut_int Try.underlying3 w1) (trodAll_cons_mk (Below.trod laidOut (by kernel_rfl) (of_decide_eq_true (by kernel_rfl)) k2 bel lt2) trodAll_mk0))), rfl, bel.frame _, fun h => by cases h⟩

theorem over : Rows.bitsUnpacksRow.holds Try.pinned (OpenSpec.ofChange Rows.bitsUnpacksSpec) :=
  OpenClaim.holds_of_wide 4 Try.f4 rfl rfl rfl rfl rfl rfl rfl ⟨rfl, rfl, rfl, rfl, rfl⟩ rfl rfl rfl rfl rfl (by kernel_rfl) Try.func4 (by kernel_rfl)
    (of_decide_eq_true (by kernel_rfl)) (by unfold Func.isWrapper; first | (rw [if_pos (by decide +kernel)]; kernel_rfl) | (rw [if_neg (by decide +kernel)]; exact ⟨rfl, rfl⟩))
    (fun os started H enc _ => lifted os started H enc)

theorem proved : Rows.BitsUnpacksSaid := over

end Go.Proofs.Ytdclkhnmpkbgaaa.bitsUnpacks
