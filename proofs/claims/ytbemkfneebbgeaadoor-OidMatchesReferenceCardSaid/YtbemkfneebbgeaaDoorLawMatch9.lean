/- For every list of numbers the law OidMatchesReference of package pyxlaw09 returns true and leaves its argument alone. -/
import Derived.Test.YtbemkfneebbgeaaDoorFrame9
import Derived.Test.YtbemkfneebbgeaaDoorO9L
namespace Go.Proofs.YtbemkfneebbgeaaDoor.oidMatchesReference
open Go.RowKit Go.ChangeShapes Go.WideShapes Go.ChangeAt Go.ChangeMaps
set_option linter.unusedVariables false

set_option maxHeartbeats 4000000 in
set_option maxRecDepth 100000 in
theorem walk' (H : Prog9) (A : Option Addr) (n c : Nat) (l : List Int) (w : World) (h : SlK .u32 w A n c l) (hr : Rng l) (hG : Glob w) :
    Calls Tryd.prog 3 #[.slice A n c] w fun e w' => e = .returned (.bool true) ∧ Past w w' := by
  have HG := Lib.hid hG
  have HA := Lib.hid (fun w1 (hp : Past w w1) => awake9 H w1 (HG.out.past hp))
  clear hG
  by_cases hbig : 100 < n
  · have hbi : (100 : Int) < (n : Int) := by omega
    clear h hr H hbig
    go_enter Tryd.func3, Tryd.ntmps3
    go_wp2_with fail
    refine (HA.out _ (by first | exact Below.refl _ _ | exact H1.out | exact H1.out.1 | exact H2.out | exact H2.out.1 | exact H3.out | exact H3.out.1 | exact H4.out.1 | exact H5.out.1 | exact H6.out.1 | exact H7.out.1)).mono ?_
    rintro e w1 ⟨rfl, hp⟩
    have H1 := Lib.hid hp
    clear hp
    go_wp2_with fail
    refine (HA.out _ (by first | exact Below.refl _ _ | exact H1.out | exact H1.out.1 | exact H2.out | exact H2.out.1 | exact H3.out | exact H3.out.1 | exact H4.out.1 | exact H5.out.1 | exact H6.out.1 | exact H7.out.1)).mono ?_
    rintro e w2 ⟨rfl, hp⟩
    have H2 := Lib.hid (H1.out.trans' hp)
    clear hp H1
    go_wp2_with fail
    go_ret
    exact ⟨rfl, H2.out⟩
  have hbi : ¬ (100 : Int) < (n : Int) := by omega
  have HS := Lib.hid h
  have HTx := Lib.hid (fun w1 (h : SlK .u32 w1 A n c l) (hp : Past w w1) => H.text A n c l w1 (HG.out.past hp) h hr (by omega))
  have HCo := Lib.hid (fun w1 (h : SlK .u32 w1 A n c l) => H.content A n c l w1 h hr (by omega))
  have HVa := Lib.hid (fun w1 (h : SlK .u32 w1 A n c l) => H.valid A n c l w1 h hr (by omega))
  have HRV := Lib.hid (fun w1 (h : SlK .u32 w1 A n c l) => rvalid_any A n c l w1 h hr)
  have HRT := Lib.hid (fun w1 (h : SlK .u32 w1 A n c l) => rtext_any A n c l w1 h hr)
  have HRC := Lib.hid (fun w1 (h : SlK .u32 w1 A n c l) => rcontent_any A n c l w1 h hr)
  have HPa := Lib.hid (fun w1 (hp : Past w w1) => H.parse (textS l) w1 (HG.out.past hp) (by have := textS_size hr; omega))
  have HRe := Lib.hid (fun w1 B d (h : Sl w1 B (contL l).length d (contL l)) => H.read B _ d (contL l) w1 h (by have := contL_size hr; omega))
  have hn2 := h.len
  cases hok : okL l with
  | false =>
    rw [textS_no hok] at HTx HRT HPa
    rw [contL_no hok] at HCo HRC HRe
    rw [show parseL (ints ⟨#[]⟩) = none from parse_nil] at HPa
    rw [read_nil] at HRe
    rw [hok] at HVa HRV
    clear h hr H hbig hok hn2
    go_enter Tryd.func3, Tryd.ntmps3
    go_wp2_with fail
    refine (HA.out _ (by first | exact Below.refl _ _ | exact H1.out | exact H1.out.1 | exact H2.out | exact H2.out.1 | exact H3.out | exact H3.out.1 | exact H4.out.1 | exact H5.out.1 | exact H6.out.1 | exact H7.out.1)).mono ?_
    rintro e w1 ⟨rfl, hp⟩
    have H1 : Hid (Past w w1 ∧ SlK .u32 w1 A n c l) := Lib.hid ⟨hp, HS.out.past hp⟩
    clear hp
    go_wp2_with fail
    refine (HTx.out _ H1.out.2 (by first | exact Below.refl _ _ | exact H1.out | exact H1.out.1 | exact H2.out | exact H2.out.1 | exact H3.out | exact H3.out.1 | exact H4.out.1 | exact H5.out.1 | exact H6.out.1 | exact H7.out.1)).mono ?_
    rintro e w2 ⟨rfl, hp⟩
    have H2 : Hid (Past w w2 ∧ SlK .u32 w2 A n c l) := Lib.hid ⟨H1.out.1.trans' hp, H1.out.2.past hp⟩
    clear hp H1
    go_wp2_with fail
    refine (HCo.out _ H2.out.2).mono ?_
    rintro e w3 ⟨B, d, rfl, hs, hp⟩
    have H3 : Hid (Past w w3 ∧ SlK .u32 w3 A n c l ∧ Sl w3 B 0 d []) := Lib.hid ⟨H2.out.1.trans' hp, H2.out.2.past hp, hs⟩
    rw [show ([] : List Int).length = 0 from rfl]
    clear hp H2 hs
    go_wp2_with fail
    refine (HVa.out _ H3.out.2.1).mono ?_
    rintro e w4 ⟨rfl, hp⟩
    have H4 : Hid (Past w w4 ∧ SlK .u32 w4 A n c l ∧ Sl w4 B 0 d []) := Lib.hid ⟨H3.out.1.trans' hp, H3.out.2.1.past hp, H3.out.2.2.past hp⟩
    clear hp H3
    go_wp2_with fail
    refine (HRV.out _ H4.out.2.1).mono ?_
    rintro e w5 ⟨rfl, rfl⟩
    go_wp2_with fail
    refine (HRT.out _ H4.out.2.1).mono ?_
    rintro e w5 ⟨rfl, hp⟩
    have H5 : Hid (Past w w5 ∧ SlK .u32 w5 A n c l ∧ Sl w5 B 0 d []) := Lib.hid ⟨H4.out.1.trans' hp, H4.out.2.1.past hp, H4.out.2.2.past hp⟩
    clear hp H4
    go_wp2_with fail
    refine (HRC.out _ H5.out.2.1).mono ?_
    rintro e w6 ⟨D, f, rfl, hs, hp⟩
    have H6 : Hid (Past w w6 ∧ SlK .u32 w6 A n c l ∧ Sl w6 B 0 d [] ∧ Sl w6 D 0 f []) := Lib.hid ⟨H5.out.1.trans' hp, H5.out.2.1.past hp, H5.out.2.2.past hp, hs⟩
    rw [show ([] : List Int).length = 0 from rfl]
    clear hp H5 hs
    go_wp2_with fail
    refine (rsame_any _ _ _ _ _ _ _ _ _ H6.out.2.2.1 H6.out.2.2.2).mono ?_
    rintro e w7 ⟨rfl, m7, hw7⟩
    rw [sameB_refl]
    have hp7 : Past w6 w7 := by rw [hw7]; exact Past.ofDrewN w6 m7
    have H7 : Hid (Past w w7 ∧ SlK .u32 w7 A n c l ∧ Sl w7 B 0 d []) := Lib.hid ⟨H6.out.1.trans' hp7, H6.out.2.1.past hp7, H6.out.2.2.1.past hp7⟩
    clear hp7 hw7 H6
    go_wp2_with fail
    refine (HPa.out _ (by first | exact Below.refl _ _ | exact H1.out | exact H1.out.1 | exact H2.out | exact H2.out.1 | exact H3.out | exact H3.out.1 | exact H4.out.1 | exact H5.out.1 | exact H6.out.1 | exact H7.out.1)).mono ?_
    rintro e w8 ⟨E, f8, rfl, _, hp⟩
    have H8 : Hid (Past w w8 ∧ SlK .u32 w8 A n c l ∧ Sl w8 B 0 d []) := Lib.hid ⟨H7.out.1.trans' hp, H7.out.2.1.past hp, H7.out.2.2.past hp⟩
    clear hp H7
    go_wp2_with fail
    refine (HRe.out _ _ _ H8.out.2.2).mono ?_
    rintro e w9 ⟨G, f9, rfl, _, hp⟩
    have H9 : Hid (Past w w9 ∧ SlK .u32 w9 A n c l) := Lib.hid ⟨H8.out.1.trans' hp, H8.out.2.1.past hp⟩
    clear hp H8
    go_wp2_with fail
    refine (HRV.out _ H9.out.2).mono ?_
    rintro e wa ⟨rfl, rfl⟩
    go_wp2_with fail
    go_ret
    exact ⟨rfl, H9.out.1⟩
  | true =>
    rw [text_parse hok hr] at HPa
    rw [content_read hok hr] at HRe
    rw [hok] at HVa HRV
    have hcs := contL_size hr
    have hts := beq_str (textS l)
    have hns := bne_str (textS l)
    clear h hr H hbig hok
    generalize textS l = T at *
    generalize hcl : (contL l).length = cl at *
    have HCL := Lib.hid hcl
    clear hcl
    go_enter Tryd.func3, Tryd.ntmps3
    go_wp2_with fail
    refine (HA.out _ (by first | exact Below.refl _ _ | exact H1.out | exact H1.out.1 | exact H2.out | exact H2.out.1 | exact H3.out | exact H3.out.1 | exact H4.out.1 | exact H5.out.1 | exact H6.out.1 | exact H7.out.1)).mono ?_
    rintro e w1 ⟨rfl, hp⟩
    have H1 : Hid (Past w w1 ∧ SlK .u32 w1 A n c l) := Lib.hid ⟨hp, HS.out.past hp⟩
    clear hp
    go_wp2_with fail
    refine (HTx.out _ H1.out.2 (by first | exact Below.refl _ _ | exact H1.out | exact H1.out.1 | exact H2.out | exact H2.out.1 | exact H3.out | exact H3.out.1 | exact H4.out.1 | exact H5.out.1 | exact H6.out.1 | exact H7.out.1)).mono ?_
    rintro e w2 ⟨rfl, hp⟩
    have H2 : Hid (Past w w2 ∧ SlK .u32 w2 A n c l) := Lib.hid ⟨H1.out.1.trans' hp, H1.out.2.past hp⟩
    clear hp H1
    go_wp2_with fail
    refine (HCo.out _ H2.out.2).mono ?_
    rintro e w3 ⟨B, d, rfl, hs, hp⟩
    rw [HCL.out] at hs ⊢
    have H3 : Hid (Past w w3 ∧ SlK .u32 w3 A n c l ∧ Sl w3 B cl d (contL l)) := Lib.hid ⟨H2.out.1.trans' hp, H2.out.2.past hp, hs⟩
    clear hp H2 hs
    go_wp2_with fail
    refine (HVa.out _ H3.out.2.1).mono ?_
    rintro e w4 ⟨rfl, hp⟩
    have H4 : Hid (Past w w4 ∧ SlK .u32 w4 A n c l ∧ Sl w4 B cl d (contL l)) := Lib.hid ⟨H3.out.1.trans' hp, H3.out.2.1.past hp, H3.out.2.2.past hp⟩
    clear hp H3
    go_wp2_with fail
    refine (HRV.out _ H4.out.2.1).mono ?_
    rintro e w5 ⟨rfl, rfl⟩
    go_wp2_with fail
    refine (HRT.out _ H4.out.2.1).mono ?_
    rintro e w5 ⟨rfl, hp⟩
    have H5 : Hid (Past w w5 ∧ SlK .u32 w5 A n c l ∧ Sl w5 B cl d (contL l)) := Lib.hid ⟨H4.out.1.trans' hp, H4.out.2.1.past hp, H4.out.2.2.past hp⟩
    clear hp H4
    go_wp2_with fail
    refine (HRC.out _ H5.out.2.1).mono ?_
    rintro e w6 ⟨D, f, rfl, hs, hp⟩
    have H6 : Hid (Past w w6 ∧ SlK .u32 w6 A n c l ∧ Sl w6 B cl d (contL l) ∧ Sl w6 D cl f (contL l)) := Lib.hid ⟨H5.out.1.trans' hp, H5.out.2.1.past hp, H5.out.2.2.past hp, hs⟩
    clear hp H5 hs
    go_wp2_with fail
    refine (rsame_any _ _ _ _ _ _ _ _ _ H6.out.2.2.1 H6.out.2.2.2).mono ?_
    rintro e w7 ⟨rfl, m7, hw7⟩
    rw [sameB_refl]
    have hp7 : Past w6 w7 := by rw [hw7]; exact Past.ofDrewN w6 m7
    have H7 : Hid (Past w w7 ∧ SlK .u32 w7 A n c l ∧ Sl w7 B cl d (contL l)) := Lib.hid ⟨H6.out.1.trans' hp7, H6.out.2.1.past hp7, H6.out.2.2.1.past hp7⟩
    clear hp7 hw7 H6
    go_wp2_with fail
    refine (HPa.out _ (by first | exact Below.refl _ _ | exact H1.out | exact H1.out.1 | exact H2.out | exact H2.out.1 | exact H3.out | exact H3.out.1 | exact H4.out.1 | exact H5.out.1 | exact H6.out.1 | exact H7.out.1)).mono ?_
    rintro e w8 ⟨E, f8, rfl, he, hp⟩
    rw [hn2] at he ⊢
    have H8 : Hid (Past w w8 ∧ SlK .u32 w8 A n c l ∧ Sl w8 B cl d (contL l) ∧ SlK .u32 w8 E n f8 l) := Lib.hid ⟨H7.out.1.trans' hp, H7.out.2.1.past hp, H7.out.2.2.past hp, he⟩
    clear hp H7 he
    go_wp2_with fail
    refine (HRe.out _ _ _ H8.out.2.2.1).mono ?_
    rintro e w9 ⟨G, f9, rfl, he, hp⟩
    rw [hn2] at he ⊢
    have H9 : Hid (Past w w9 ∧ SlK .u32 w9 A n c l ∧ SlK .u32 w9 E n f8 l ∧ SlK .u32 w9 G n f9 l) := Lib.hid ⟨H8.out.1.trans' hp, H8.out.2.1.past hp, H8.out.2.2.2.past hp, he⟩
    clear hp H8 he
    go_wp2_with fail
    refine (HRV.out _ H9.out.2.1).mono ?_
    rintro e wa ⟨rfl, rfl⟩
    go_wp2_with fail
    refine (equal_any _ _ _ _ _ _ _ _ _ H9.out.2.2.1 H9.out.2.1).mono ?_
    rintro e wa ⟨rfl, ma, hwa⟩
    rw [sameB_refl]
    have hpa : Past w9 wa := by rw [hwa]; exact Past.ofDrewN w9 ma
    have Ha : Hid (Past w wa ∧ SlK .u32 wa A n c l ∧ SlK .u32 wa G n f9 l) := Lib.hid ⟨H9.out.1.trans' hpa, H9.out.2.1.past hpa, H9.out.2.2.2.past hpa⟩
    clear hpa hwa H9
    go_wp2_with fail
    refine (equal_any _ _ _ _ _ _ _ _ _ Ha.out.2.2 Ha.out.2.1).mono ?_
    rintro e wb ⟨rfl, mb, hwb⟩
    rw [sameB_refl]
    have Hb : Hid (Past w wb) := by rw [hwb]; exact Lib.hid (Ha.out.1.trans' (Past.ofDrewN wa mb))
    clear hwb Ha
    go_wp2_with fail
    go_ret
    exact ⟨rfl, Hb.out⟩

theorem walk (H9 : Prog9) (A : Option Addr) (len cap : Nat) (zs : List Int) (w : World) (h : IsRow .u32 w A len cap zs) (hG : Glob w) :
    Calls Tryd.prog 3 #[.slice A len cap] w fun e w' => e = .returned (.bool true) ∧ Past w w' :=
  walk' H9 A len cap _ w (SlK.of_row h).1 (SlK.of_row h).2 hG

def args0 : Array Value := #[.slice none 0 0]
theorem laid_met (os : Os) : laidMetH Tryd.prog Rows.oidMatchesReferenceRow.laid ((laidWorld os).forCall (fun _ _ => 0) ⟨#[], args0, []⟩).memory :=
  laid_world os args0
theorem witness_row (os : Os) {H : Type} (enc : TypeId × Value → H) :
    (OpenSpec.ofChange Rows.oidMatchesReferenceSpec).preRow enc Tryd.prog Tryd.f3 Rows.oidMatchesReferenceRow.domain false Rows.oidMatchesReferenceRow.laid ((laidWorld os).forCall (fun _ _ => 0) ⟨#[], args0, []⟩).memory args0 := by
  have hw : (DataW.whole enc Tryd.prog ((laidWorld os).forCall (fun _ _ => 0) ⟨#[], args0, []⟩).memory Tryd.f3.params.toList (OpenSpec.ofChange Rows.oidMatchesReferenceSpec).vars false args0.toList 8).map (fun x => (x.1, x.2.1)) =
      some ([.nil], []) := by kernel_rfl
  obtain ⟨⟨x1, x2, x3⟩, hx, hx1⟩ := Option.map_eq_some_iff.1 hw
  simp only [Prod.mk.injEq] at hx1
  obtain ⟨rfl, rfl⟩ := hx1
  exact OpenSpec.preRow_of_cond 8 hx (by kernel_rfl) (fun k hk => by cases hk) (by kernel_rfl) (laid_met os)

set_option maxRecDepth 100000 in
set_option maxHeartbeats 2000000 in
theorem lifted (H8 : Prog9) (os : Os) (started : os.Started) (H : Type) (enc : TypeId × Value → H) (F : Stop.Interp) :
    ReturnsInHanded {} Tryd.checked os 3 .any ((OpenSpec.ofChange Rows.oidMatchesReferenceSpec).preRow enc Tryd.prog Tryd.f3 Rows.oidMatchesReferenceRow.domain false Rows.oidMatchesReferenceRow.laid) (((OpenSpec.ofChange Rows.oidMatchesReferenceSpec).at F).post enc Tryd.prog Tryd.f3 false true false false) := by
  refine returnsInHanded_of_row (C := Tryd.checked) (s := OpenSpec.ofChange Rows.oidMatchesReferenceSpec) own started (by kernel_rfl) Tryd.func3
    (witness_row_atRef (enc := enc) (C := Tryd.checked) false (laidWorld os) args0 rfl (by kernel_rfl) (by kernel_rfl) (by kernel_rfl) (witness_row os enc)) ?_
  intro W base args ds gs before hval0 hW _ hcnd _ hL hsh _
  have hval : ∀ (j : Nat) t v, Tryd.f3.params[j]? = some t → args[j]? = some v → Value.okWide Tryd.prog W .any base t v := hval0
  have hW' := hW
  obtain ⟨p, q, hA0, hV, rfl, hfz, hnd⟩ := hW
  have hA : DataW.TrodAll enc Tryd.prog W 0 (fun _ => true) true Tryd.f3.params.toList args.toList ds p := hA0
  rw [Tryd.params3] at hA hval
  obtain ⟨v0, vs0, d0, ds0, p0, q0, hargs, rfl, rfl, h0, r0⟩ := trodAll_cons hA
  obtain ⟨rfl, rfl, rfl⟩ := trodAll_nil r0
  obtain rfl : args = #[v0] := by cases args; simp_all
  obtain ⟨rfl, rfl⟩ := trodVars_none hV
  have k0 := h0
  have lt0 : ∀ x ∈ p0, x.block < W.heap.size := by obtain ⟨m, hm⟩ := k0; exact DataW.trod_lt m _ _ _ hm
  obtain ⟨a0, len0, cap0, rfl⟩ := okWide_slice Tryd.underlying22 (hval 0 22 v0 rfl rfl)
  obtain ⟨z0, w0⟩ : ∃ zs, IsRow .u32 W a0 len0 cap0 zs := by
    obtain ⟨fuel, hf⟩ := h0
    rcases open_ints Tryd.underlying22 Tryd.underlying33 (by kernel_rfl) hf with ⟨hcs, _⟩ | ⟨x, l, c, zs, hcs, _, hl, hm, hz, _, hcell, hwz⟩
    · simp [Value.cells] at hcs
      obtain ⟨rfl, rfl, rfl⟩ := hcs
      exact ⟨[], .inl ⟨rfl, rfl, rfl, rfl⟩⟩
    · simp [Value.cells] at hcs
      obtain ⟨rfl, rfl, rfl⟩ := hcs
      exact ⟨zs, .inr ⟨_, rfl, hl, hm, by simpa using hz, hcell, hwz⟩⟩
  have hG := glob_of_row hL hsh
  clear hA0 hval0
  refine (walk H8 a0 len0 cap0 z0 W w0 hG).mono fun e W' ⟨he, bel⟩ => ?_
  subst he
  exact ⟨_, rfl, _, _, _, [], _, [], hW', trodAll_mk1 (shut_bool Tryd.underlying4 _), (trodAll_cons_mk (Below.trod laidOut (by kernel_rfl) (of_decide_eq_true (by kernel_rfl)) k0 bel lt0) trodAll_mk0), rfl, bel.frame _, fun h => by cases h⟩

theorem row_holds (H8 : Prog9) : Rows.OidMatchesReferenceSaid :=
  OpenClaim.holds_of_cond 3 Tryd.f3 rfl rfl rfl rfl rfl rfl rfl ⟨rfl, rfl, rfl, rfl, rfl⟩ rfl rfl rfl rfl rfl (by kernel_rfl) Tryd.func3 (by kernel_rfl)
    (of_decide_eq_true (by kernel_rfl)) (by unfold Func.isWrapper; first | (rw [if_pos (by decide +kernel)]; kernel_rfl) | (rw [if_neg (by decide +kernel)]; exact ⟨rfl, rfl⟩))
    (fun os started H enc _ F0 => by rw [OpenClaim.pre_eq_preRow]; exact lifted H8 os started H enc F0)

theorem card (H8 : Prog9) : Rows.OidMatchesReferenceCardSaid :=
  Claim7.holds_tied_plain_at .later [] [.data, .data, .data, .data, .sentinel, .sentinel, .pinned] true Rows.oidMatchesReferenceCard.stood.harness true
    (row_holds H8) (fun _ h => by cases h) (by kernel_rfl) (fun _ h => by cases h) oidMatchesReference_row_tie rfl ⟨rfl, rfl⟩ (by kernel_rfl) rfl
    (fun f fn hf hfn => by
      obtain rfl : f = 3 := Option.some.inj ((show Tryd.prog.funcNamed "pyx/pyxlaw09.OidMatchesReference" = some 3 by kernel_rfl).symm.trans hf) |>.symm
      obtain rfl : fn = Tryd.f3 := (Option.some.inj (Tryd.func3.symm.trans hfn)).symm
      exact ⟨by kernel_rfl, fun j t ht => by
        rw [Tryd.params3] at ht
        obtain rfl : t = 22 := by
          rcases j with _ | j
          · simpa using ht.symm
          · simp at ht
        exact (show Tryd.prog.wantsStandIn 22 = false by kernel_rfl)⟩)
    (by kernel_rfl)

theorem proved : Rows.OidMatchesReferenceCardSaid := card prog9


end Go.Proofs.YtbemkfneebbgeaaDoor.oidMatchesReference
