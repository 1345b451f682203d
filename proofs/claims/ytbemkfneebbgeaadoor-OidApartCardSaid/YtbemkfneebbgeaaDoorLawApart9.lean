/- For every two lists of numbers the law OidApart of package pyxlaw09 returns true and leaves its arguments alone. -/
import Derived.Test.YtbemkfneebbgeaaDoorFrame9
import Derived.Test.YtbemkfneebbgeaaDoorO9L
namespace Go.Proofs.YtbemkfneebbgeaaDoor.oidApart
open Go.RowKit Go.ChangeShapes Go.WideShapes Go.ChangeAt Go.ChangeMaps
set_option linter.unusedVariables false

theorem str_beq (a b : ByteArray) : (a.toList == b.toList) = decide (a = b) := by
  rw [Bool.eq_iff_iff, beq_iff_eq, decide_eq_true_iff, ByteArray.toList_eq, ByteArray.toList_eq]
  constructor
  · intro h
    cases a
    cases b
    simp only at h
    rw [Array.toList_inj.1 h]
  · rintro rfl
    rfl
theorem texts_apart {a b : List Int} (ha : okL a = true) (hb : okL b = true) (hra : Rng a) (hrb : Rng b) : ((textS a).toList == (textS b).toList) = sameB a b := by
  rw [str_beq]
  exact decide_eq_decide.2 ⟨textS_inj ha hb hra hrb, fun h => by rw [h]⟩
theorem conts_apart {a b : List Int} (ha : okL a = true) (hb : okL b = true) (hra : Rng a) (hrb : Rng b) : sameB (contL a) (contL b) = sameB a b :=
  decide_eq_decide.2 ⟨contL_inj ha hb hra hrb, fun h => by rw [h]⟩

set_option maxHeartbeats 4000000 in
set_option maxRecDepth 100000 in
theorem walk' (H : Prog9) (A : Option Addr) (n c : Nat) (a : List Int) (B : Option Addr) (m d : Nat) (b : List Int) (w : World) (h : SlK .u32 w A n c a) (hr : Rng a) (h2 : SlK .u32 w B m d b) (hr2 : Rng b) (hG : Glob w) :
    Calls Tryd.prog 7 #[.slice A n c, .slice B m d] w fun e w' => e = .returned (.bool true) ∧ Past w w' := by
  have HG := Lib.hid hG
  have HA := Lib.hid (fun w1 (hp : Past w w1) => awake9 H w1 (HG.out.past hp))
  clear hG
  have HS := Lib.hid (And.intro h h2)
  by_cases hbig : 100 < n
  · have hbi : (100 : Int) < (n : Int) := by omega
    clear h hr h2 hr2 H hbig
    go_enter Tryd.func7, Tryd.ntmps7
    go_wp2_with fail
    refine (HA.out _ (by first | exact Below.refl _ _ | exact H1.out | exact H1.out.1 | exact H2.out | exact H2.out.1 | exact H3.out | exact H3.out.1 | exact H4.out.1 | exact H5.out.1 | exact H6.out.1 | exact H7.out.1)).mono ?_
    rintro e w1 ⟨rfl, hp⟩
    have H1 := Lib.hid hp
    clear hp
    go_wp2_with fail
    refine (HA.out _ (by first | exact Below.refl _ _ | exact H1.out | exact H1.out.1 | exact H2.out | exact H2.out.1 | exact H3.out | exact H3.out.1 | exact H4.out.1 | exact H5.out.1 | exact H6.out.1 | exact H7.out.1)).mono ?_
    rintro e w2 ⟨rfl, hp⟩
    have H2 := Lib.hid (H1.out.trans' hp)
    clear hp H1
    go_wp2_with fail
    go_ret
    exact ⟨rfl, H2.out⟩
  have hbi : ¬ (100 : Int) < (n : Int) := by omega
  by_cases hbig2 : 100 < m
  · have hbi2 : (100 : Int) < (m : Int) := by omega
    clear h hr h2 hr2 H hbig
    go_enter Tryd.func7, Tryd.ntmps7
    go_wp2_with fail
    refine (HA.out _ (by first | exact Below.refl _ _ | exact H1.out | exact H1.out.1 | exact H2.out | exact H2.out.1 | exact H3.out | exact H3.out.1 | exact H4.out.1 | exact H5.out.1 | exact H6.out.1 | exact H7.out.1)).mono ?_
    rintro e w1 ⟨rfl, hp⟩
    have H1 := Lib.hid hp
    clear hp
    go_wp2_with fail
    refine (HA.out _ (by first | exact Below.refl _ _ | exact H1.out | exact H1.out.1 | exact H2.out | exact H2.out.1 | exact H3.out | exact H3.out.1 | exact H4.out.1 | exact H5.out.1 | exact H6.out.1 | exact H7.out.1)).mono ?_
    rintro e w2 ⟨rfl, hp⟩
    have H2 := Lib.hid (H1.out.trans' hp)
    clear hp H1
    go_wp2_with fail
    go_ret
    exact ⟨rfl, H2.out⟩
  have hbi2 : ¬ (100 : Int) < (m : Int) := by omega
  have HV1 := Lib.hid (fun w1 (h : SlK .u32 w1 A n c a) => rvalid_any A n c a w1 h hr)
  have HV2 := Lib.hid (fun w1 (h : SlK .u32 w1 B m d b) => rvalid_any B m d b w1 h hr2)
  cases hoa : okL a with
  | false =>
    rw [hoa] at HV1
    clear h hr h2 hr2 H hbig hbig2 hoa
    go_enter Tryd.func7, Tryd.ntmps7
    go_wp2_with fail
    refine (HA.out _ (by first | exact Below.refl _ _ | exact H1.out | exact H1.out.1 | exact H2.out | exact H2.out.1 | exact H3.out | exact H3.out.1 | exact H4.out.1 | exact H5.out.1 | exact H6.out.1 | exact H7.out.1)).mono ?_
    rintro e w1 ⟨rfl, hp⟩
    have H1 : Hid (Past w w1 ∧ SlK .u32 w1 A n c a ∧ SlK .u32 w1 B m d b) := Lib.hid ⟨hp, HS.out.1.past hp, HS.out.2.past hp⟩
    clear hp
    go_wp2_with fail
    refine (HV1.out _ H1.out.2.1).mono ?_
    rintro e w2 ⟨rfl, rfl⟩
    go_wp2_with fail
    refine (HA.out _ (by first | exact Below.refl _ _ | exact H1.out | exact H1.out.1 | exact H2.out | exact H2.out.1 | exact H3.out | exact H3.out.1 | exact H4.out.1 | exact H5.out.1 | exact H6.out.1 | exact H7.out.1)).mono ?_
    rintro e w2 ⟨rfl, hp⟩
    have H2 := Lib.hid (H1.out.1.trans' hp)
    clear hp H1
    go_wp2_with fail
    go_ret
    exact ⟨rfl, H2.out⟩
  | true =>
    cases hob : okL b with
    | false =>
      rw [hoa] at HV1
      rw [hob] at HV2
      clear h hr h2 hr2 H hbig hbig2 hoa hob
      go_enter Tryd.func7, Tryd.ntmps7
      go_wp2_with fail
      refine (HA.out _ (by first | exact Below.refl _ _ | exact H1.out | exact H1.out.1 | exact H2.out | exact H2.out.1 | exact H3.out | exact H3.out.1 | exact H4.out.1 | exact H5.out.1 | exact H6.out.1 | exact H7.out.1)).mono ?_
      rintro e w1 ⟨rfl, hp⟩
      have H1 : Hid (Past w w1 ∧ SlK .u32 w1 A n c a ∧ SlK .u32 w1 B m d b) := Lib.hid ⟨hp, HS.out.1.past hp, HS.out.2.past hp⟩
      clear hp
      go_wp2_with fail
      refine (HV1.out _ H1.out.2.1).mono ?_
      rintro e w2 ⟨rfl, rfl⟩
      go_wp2_with fail
      refine (HV2.out _ H1.out.2.2).mono ?_
      rintro e w2 ⟨rfl, rfl⟩
      go_wp2_with fail
      refine (HA.out _ (by first | exact Below.refl _ _ | exact H1.out | exact H1.out.1 | exact H2.out | exact H2.out.1 | exact H3.out | exact H3.out.1 | exact H4.out.1 | exact H5.out.1 | exact H6.out.1 | exact H7.out.1)).mono ?_
      rintro e w2 ⟨rfl, hp⟩
      have H2 := Lib.hid (H1.out.1.trans' hp)
      clear hp H1
      go_wp2_with fail
      go_ret
      exact ⟨rfl, H2.out⟩
    | true =>
      have HT1 := Lib.hid (fun w1 (h : SlK .u32 w1 A n c a) (hp : Past w w1) => H.text A n c a w1 (HG.out.past hp) h hr (by omega))
      have HT2 := Lib.hid (fun w1 (h : SlK .u32 w1 B m d b) (hp : Past w w1) => H.text B m d b w1 (HG.out.past hp) h hr2 (by omega))
      have HC1 := Lib.hid (fun w1 (h : SlK .u32 w1 A n c a) => H.content A n c a w1 h hr (by omega))
      have HC2 := Lib.hid (fun w1 (h : SlK .u32 w1 B m d b) => H.content B m d b w1 h hr2 (by omega))
      have hta := texts_apart hoa hob hr hr2
      have hca := conts_apart hoa hob hr hr2
      have HCA := Lib.hid hca
      rw [hoa] at HV1
      rw [hob] at HV2
      clear h hr h2 hr2 H hbig hbig2 hoa hob hca
      generalize hrr : sameB a b = r at *
      have HRR := Lib.hid hrr
      clear hrr
      generalize textS a = S at *
      generalize textS b = V at *
      go_enter Tryd.func7, Tryd.ntmps7
      go_wp2_with fail
      refine (HA.out _ (by first | exact Below.refl _ _ | exact H1.out | exact H1.out.1 | exact H2.out | exact H2.out.1 | exact H3.out | exact H3.out.1 | exact H4.out.1 | exact H5.out.1 | exact H6.out.1 | exact H7.out.1)).mono ?_
      rintro e w1 ⟨rfl, hp⟩
      have H1 : Hid (Past w w1 ∧ SlK .u32 w1 A n c a ∧ SlK .u32 w1 B m d b) := Lib.hid ⟨hp, HS.out.1.past hp, HS.out.2.past hp⟩
      clear hp
      go_wp2_with fail
      refine (HV1.out _ H1.out.2.1).mono ?_
      rintro e w2 ⟨rfl, rfl⟩
      go_wp2_with fail
      refine (HV2.out _ H1.out.2.2).mono ?_
      rintro e w2 ⟨rfl, rfl⟩
      go_wp2_with fail
      refine (equal_any _ _ _ _ _ _ _ _ _ H1.out.2.1 H1.out.2.2).mono ?_
      rintro e w2 ⟨rfl, m2, hw2⟩
      rw [HRR.out]
      have hp2 : Past w1 w2 := by rw [hw2]; exact Past.ofDrewN w1 m2
      have H2 : Hid (Past w w2 ∧ SlK .u32 w2 A n c a ∧ SlK .u32 w2 B m d b) := Lib.hid ⟨H1.out.1.trans' hp2, H1.out.2.1.past hp2, H1.out.2.2.past hp2⟩
      clear hp2 hw2 H1
      go_wp2_with fail
      refine (HT1.out _ H2.out.2.1 (by first | exact Below.refl _ _ | exact H1.out | exact H1.out.1 | exact H2.out | exact H2.out.1 | exact H3.out | exact H3.out.1 | exact H4.out.1 | exact H5.out.1 | exact H6.out.1 | exact H7.out.1)).mono ?_
      rintro e w3 ⟨rfl, hp⟩
      have H3 : Hid (Past w w3 ∧ SlK .u32 w3 A n c a ∧ SlK .u32 w3 B m d b) := Lib.hid ⟨H2.out.1.trans' hp, H2.out.2.1.past hp, H2.out.2.2.past hp⟩
      clear hp H2
      go_wp2_with fail
      refine (HT2.out _ H3.out.2.2 (by first | exact Below.refl _ _ | exact H1.out | exact H1.out.1 | exact H2.out | exact H2.out.1 | exact H3.out | exact H3.out.1 | exact H4.out.1 | exact H5.out.1 | exact H6.out.1 | exact H7.out.1)).mono ?_
      rintro e w4 ⟨rfl, hp⟩
      have H4 : Hid (Past w w4 ∧ SlK .u32 w4 A n c a ∧ SlK .u32 w4 B m d b) := Lib.hid ⟨H3.out.1.trans' hp, H3.out.2.1.past hp, H3.out.2.2.past hp⟩
      clear hp H3
      have hrr : (r == r) = true := by cases r <;> rfl
      go_wp2_with fail
      refine (HC1.out _ H4.out.2.1).mono ?_
      rintro e w5 ⟨E, f, rfl, hs, hp⟩
      have H5 : Hid (Past w w5 ∧ SlK .u32 w5 B m d b ∧ Sl w5 E (contL a).length f (contL a)) := Lib.hid ⟨H4.out.1.trans' hp, H4.out.2.2.past hp, hs⟩
      clear hp H4 hs
      generalize (contL a).length = la at *
      go_wp2_with fail
      refine (HC2.out _ H5.out.2.1).mono ?_
      rintro e w6 ⟨F, f6, rfl, hs, hp⟩
      have H6 : Hid (Past w w6 ∧ Sl w6 E la f (contL a) ∧ Sl w6 F (contL b).length f6 (contL b)) := Lib.hid ⟨H5.out.1.trans' hp, H5.out.2.2.past hp, hs⟩
      clear hp H5 hs
      generalize (contL b).length = lb at *
      go_wp2_with fail
      refine (rsame_any _ _ _ _ _ _ _ _ _ H6.out.2.1 H6.out.2.2).mono ?_
      rintro e w7 ⟨rfl, m7, hw7⟩
      rw [HCA.out]
      have H7 : Hid (Past w w7) := by rw [hw7]; exact Lib.hid (H6.out.1.trans' (Past.ofDrewN w6 m7))
      clear hw7 H6
      go_wp2_with fail
      go_ret
      exact ⟨rfl, H7.out⟩

theorem walk (H9 : Prog9) (A : Option Addr) (len cap : Nat) (zs : List Int) (A1 : Option Addr) (len1 cap1 : Nat) (zs1 : List Int) (w : World) (h : IsRow .u32 w A len cap zs) (h1 : IsRow .u32 w A1 len1 cap1 zs1) (hG : Glob w) :
    Calls Tryd.prog 7 #[.slice A len cap, .slice A1 len1 cap1] w fun e w' => e = .returned (.bool true) ∧ Past w w' :=
  walk' H9 A len cap _ A1 len1 cap1 _ w (SlK.of_row h).1 (SlK.of_row h).2 (SlK.of_row h1).1 (SlK.of_row h1).2 hG

def args0 : Array Value := #[.slice none 0 0, .slice none 0 0]
theorem laid_met (os : Os) : laidMetH Tryd.prog Rows.oidApartRow.laid ((laidWorld os).forCall (fun _ _ => 0) ⟨#[], args0, []⟩).memory :=
  laid_world os args0
theorem witness_row (os : Os) {H : Type} (enc : TypeId × Value → H) :
    (OpenSpec.ofChange Rows.oidApartSpec).preRow enc Tryd.prog Tryd.f7 Rows.oidApartRow.domain false Rows.oidApartRow.laid ((laidWorld os).forCall (fun _ _ => 0) ⟨#[], args0, []⟩).memory args0 := by
  have hw : (DataW.whole enc Tryd.prog ((laidWorld os).forCall (fun _ _ => 0) ⟨#[], args0, []⟩).memory Tryd.f7.params.toList (OpenSpec.ofChange Rows.oidApartSpec).vars false args0.toList 8).map (fun x => (x.1, x.2.1)) =
      some ([.nil, .nil], []) := by kernel_rfl
  obtain ⟨⟨x1, x2, x3⟩, hx, hx1⟩ := Option.map_eq_some_iff.1 hw
  simp only [Prod.mk.injEq] at hx1
  obtain ⟨rfl, rfl⟩ := hx1
  exact OpenSpec.preRow_of_cond 8 hx (by kernel_rfl) (fun k hk => by cases hk) (by kernel_rfl) (laid_met os)

set_option maxRecDepth 100000 in
set_option maxHeartbeats 2000000 in
theorem lifted (H8 : Prog9) (os : Os) (started : os.Started) (H : Type) (enc : TypeId × Value → H) (F : Stop.Interp) :
    ReturnsInHanded {} Tryd.checked os 7 .any ((OpenSpec.ofChange Rows.oidApartSpec).preRow enc Tryd.prog Tryd.f7 Rows.oidApartRow.domain false Rows.oidApartRow.laid) (((OpenSpec.ofChange Rows.oidApartSpec).at F).post enc Tryd.prog Tryd.f7 false true false false) := by
  refine returnsInHanded_of_row (C := Tryd.checked) (s := OpenSpec.ofChange Rows.oidApartSpec) own started (by kernel_rfl) Tryd.func7
    (witness_row_atRef (enc := enc) (C := Tryd.checked) false (laidWorld os) args0 rfl (by kernel_rfl) (by kernel_rfl) (by kernel_rfl) (witness_row os enc)) ?_
  intro W base args ds gs before hval0 hW _ hcnd _ hL hsh _
  have hval : ∀ (j : Nat) t v, Tryd.f7.params[j]? = some t → args[j]? = some v → Value.okWide Tryd.prog W .any base t v := hval0
  have hW' := hW
  obtain ⟨p, q, hA0, hV, rfl, hfz, hnd⟩ := hW
  have hA : DataW.TrodAll enc Tryd.prog W 0 (fun _ => true) true Tryd.f7.params.toList args.toList ds p := hA0
  rw [Tryd.params7] at hA hval
  obtain ⟨v0, vs0, d0, ds0, p0, q0, hargs, rfl, rfl, h0, r0⟩ := trodAll_cons hA
  obtain ⟨v1, vs1, d1, ds1, p1, q1, rfl, rfl, rfl, h1, r1⟩ := trodAll_cons r0
  obtain ⟨rfl, rfl, rfl⟩ := trodAll_nil r1
  obtain rfl : args = #[v0, v1] := by cases args; simp_all
  obtain ⟨rfl, rfl⟩ := trodVars_none hV
  have k0 := h0
  have lt0 : ∀ x ∈ p0, x.block < W.heap.size := by obtain ⟨m, hm⟩ := k0; exact DataW.trod_lt m _ _ _ hm
  obtain ⟨a0, len0, cap0, rfl⟩ := okWide_slice Tryd.underlying22 (hval 0 22 v0 rfl rfl)
  obtain ⟨z0, w0⟩ : ∃ zs, IsRow .u32 W a0 len0 cap0 zs := by
    obtain ⟨fuel, hf⟩ := h0
    rcases open_ints Tryd.underlying22 Tryd.underlying33 (by kernel_rfl) hf with ⟨hcs, _⟩ | ⟨x, l, c, zs, hcs, _, hl, hm, hz, _, hcell, hwz⟩
    · simp [Value.cells] at hcs
      obtain ⟨rfl, rfl, rfl⟩ := hcs
      exact ⟨[], .inl ⟨rfl, rfl, rfl, rfl⟩⟩
    · simp [Value.cells] at hcs
      obtain ⟨rfl, rfl, rfl⟩ := hcs
      exact ⟨zs, .inr ⟨_, rfl, hl, hm, by simpa using hz, hcell, hwz⟩⟩
  have k1 := h1
  have lt1 : ∀ x ∈ p1, x.block < W.heap.size := by obtain ⟨m, hm⟩ := k1; exact DataW.trod_lt m _ _ _ hm
  obtain ⟨a1, len1, cap1, rfl⟩ := okWide_slice Tryd.underlying22 (hval 1 22 v1 rfl rfl)
  obtain ⟨z1, w1⟩ : ∃ zs, IsRow .u32 W a1 len1 cap1 zs := by
    obtain ⟨fuel, hf⟩ := h1
    rcases open_ints Tryd.underlying22 Tryd.underlying33 (by kernel_rfl) hf with ⟨hcs, _⟩ | ⟨x, l, c, zs, hcs, _, hl, hm, hz, _, hcell, hwz⟩
    · simp [Value.cells] at hcs
      obtain ⟨rfl, rfl, rfl⟩ := hcs
      exact ⟨[], .inl ⟨rfl, rfl, rfl, rfl⟩⟩
    · simp [Value.cells] at hcs
      obtain ⟨rfl, rfl, rfl⟩ := hcs
      exact ⟨zs, .inr ⟨_, rfl, hl, hm, by simpa using hz, hcell, hwz⟩⟩
  have hG := glob_of_row hL hsh
  clear hA0 hval0
  refine (walk H8 a0 len0 cap0 z0 a1 len1 cap1 z1 W w0 w1 hG).mono fun e W' ⟨he, bel⟩ => ?_
  subst he
  exact ⟨_, rfl, _, _, _, [], _, [], hW', trodAll_mk1 (shut_bool Tryd.underlying4 _), (trodAll_cons_mk (Below.trod laidOut (by kernel_rfl) (of_decide_eq_true (by kernel_rfl)) k0 bel lt0) (trodAll_cons_mk (Below.trod laidOut (by kernel_rfl) (of_decide_eq_true (by kernel_rfl)) k1 bel lt1) trodAll_mk0)), rfl, bel.frame _, fun h => by cases h⟩

theorem row_holds (H8 : Prog9) : Rows.OidApartSaid :=
  OpenClaim.holds_of_cond 7 Tryd.f7 rfl rfl rfl rfl rfl rfl rfl ⟨rfl, rfl, rfl, rfl, rfl⟩ rfl rfl rfl rfl rfl (by kernel_rfl) Tryd.func7 (by kernel_rfl)
    (of_decide_eq_true (by kernel_rfl)) (by unfold Func.isWrapper; first | (rw [if_pos (by decide +kernel)]; kernel_rfl) | (rw [if_neg (by decide +kernel)]; exact ⟨rfl, rfl⟩))
    (fun os started H enc _ F0 => by rw [OpenClaim.pre_eq_preRow]; exact lifted H8 os started H enc F0)

theorem card (H8 : Prog9) : Rows.OidApartCardSaid :=
  Claim7.holds_tied_plain_at .later [] [.data, .data, .data, .data, .sentinel, .sentinel, .pinned] true Rows.oidApartCard.stood.harness true
    (row_holds H8) (fun _ h => by cases h) (by kernel_rfl) (fun _ h => by cases h) oidApart_row_tie rfl ⟨rfl, rfl⟩ (by kernel_rfl) rfl
    (fun f fn hf hfn => by
      obtain rfl : f = 7 := Option.some.inj ((show Tryd.prog.funcNamed "pyx/pyxlaw09.OidApart" = some 7 by kernel_rfl).symm.trans hf) |>.symm
      obtain rfl : fn = Tryd.f7 := (Option.some.inj (Tryd.func7.symm.trans hfn)).symm
      exact ⟨by kernel_rfl, fun j t ht => by
        rw [Tryd.params7] at ht
        obtain rfl : t = 22 := by
          rcases j with _ | _ | j
          · simpa using ht.symm
          · simpa using ht.symm
          · simp at ht
        exact (show Tryd.prog.wantsStandIn 22 = false by kernel_rfl)⟩)
    (by kernel_rfl)

theorem proved : Rows.OidApartCardSaid := card prog9


end Go.Proofs.YtbemkfneebbgeaaDoor.oidApart
