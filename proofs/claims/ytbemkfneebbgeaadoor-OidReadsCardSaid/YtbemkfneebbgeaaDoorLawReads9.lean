/- For every string of bytes the law OidReads of package pyxlaw09 returns true and leaves its argument alone. -/
import Derived.Test.YtbemkfneebbgeaaDoorFrame9
import Derived.Test.YtbemkfneebbgeaaDoorO9L
namespace Go.Proofs.YtbemkfneebbgeaaDoor.oidReads
open Go.RowKit Go.ChangeShapes Go.WideShapes Go.ChangeAt Go.ChangeMaps
set_option linter.unusedVariables false

set_option maxHeartbeats 4000000 in
set_option maxRecDepth 100000 in
theorem walk' (H : Prog9) (A : Option Addr) (n c : Nat) (xs : List Int) (w : World) (h : Sl w A n c xs) (hG : Glob w) :
    Calls Tryd.prog 5 #[.slice A n c] w fun e w' => e = .returned (.bool true) ∧ Past w w' := by
  have HG := Lib.hid hG
  have HA := Lib.hid (fun w1 (hp : Past w w1) => awake9 H w1 (HG.out.past hp))
  clear hG
  by_cases hbig : 300 < n
  · have hbi : (300 : Int) < (n : Int) := by omega
    clear H hbig h
    go_enter Tryd.func5, Tryd.ntmps5
    go_wp2_with fail
    refine (HA.out _ (by first | exact Below.refl _ _ | exact H1.out | exact H1.out.1 | exact H2.out | exact H2.out.1 | exact H3.out | exact H3.out.1 | exact H4.out.1 | exact H5.out.1 | exact H6.out.1 | exact H7.out.1)).mono ?_
    rintro e w1 ⟨rfl, hp⟩
    have H1 := Lib.hid hp
    clear hp
    go_wp2_with fail
    refine (HA.out _ (by first | exact Below.refl _ _ | exact H1.out | exact H1.out.1 | exact H2.out | exact H2.out.1 | exact H3.out | exact H3.out.1 | exact H4.out.1 | exact H5.out.1 | exact H6.out.1 | exact H7.out.1)).mono ?_
    rintro e w2 ⟨rfl, hp⟩
    have H2 := Lib.hid (H1.out.trans' hp)
    clear hp H1
    go_wp2_with fail
    go_ret
    exact ⟨rfl, H2.out⟩
  have hbi : ¬ (300 : Int) < (n : Int) := by omega
  have HS := Lib.hid h
  have HPa := Lib.hid (fun w1 (h : Sl w1 A n c xs) => H.read A n c xs w1 h (by omega))
  have HRP := Lib.hid (fun w1 (h : Sl w1 A n c xs) => rread_any A n c xs (by omega) w1 h)
  cases hq : readL xs with
  | none =>
    rw [hq] at HPa HRP
    clear H hbig hq h
    go_enter Tryd.func5, Tryd.ntmps5
    go_wp2_with fail
    refine (HA.out _ (by first | exact Below.refl _ _ | exact H1.out | exact H1.out.1 | exact H2.out | exact H2.out.1 | exact H3.out | exact H3.out.1 | exact H4.out.1 | exact H5.out.1 | exact H6.out.1 | exact H7.out.1)).mono ?_
    rintro e w1 ⟨rfl, hp⟩
    have H1 : Hid (Past w w1 ∧ Sl w1 A n c xs) := Lib.hid ⟨hp, HS.out.past hp⟩
    clear hp
    go_wp2_with fail
    refine (HPa.out _ H1.out.2).mono ?_
    rintro e w2 ⟨B, d, rfl, hs, hp⟩
    have H2 : Hid (Past w w2 ∧ Sl w2 A n c xs ∧ SlK .u32 w2 B 0 d []) := Lib.hid ⟨H1.out.1.trans' hp, H1.out.2.past hp, hs⟩
    clear hp H1 hs
    go_wp2_with fail
    refine (HRP.out _ H2.out.2.1).mono ?_
    rintro e w3 ⟨rfl, hp⟩
    have H3 : Hid (Past w w3 ∧ SlK .u32 w3 B 0 d []) := Lib.hid ⟨H2.out.1.trans' hp, H2.out.2.2.past hp⟩
    clear hp H2
    go_wp2_with fail
    refine (equal_any _ _ _ _ _ _ _ _ _ H3.out.2 (SlK.nil .u32 w3)).mono ?_
    rintro e w4 ⟨rfl, m4, hw4⟩
    rw [sameB_refl]
    have H4 : Hid (Past w w4) := by rw [hw4]; exact Lib.hid (H3.out.1.trans' (Past.ofDrewN w3 m4))
    clear hw4 H3
    go_wp2_with fail
    go_ret
    exact ⟨rfl, H4.out⟩
  | some l =>
    rw [hq] at HPa HRP
    obtain ⟨ht, hk⟩ := read_content hq
    have hl := okL_len hk
    have HCo := Lib.hid (fun w1 B d (h : SlK .u32 w1 B l.length d l) (hr : Rng l) => H.content B l.length d l w1 h hr (by omega))
    rw [ht] at HCo
    have HLN := Lib.hid h.len
    clear H hbig hq ht hk h
    go_enter Tryd.func5, Tryd.ntmps5
    go_wp2_with fail
    refine (HA.out _ (by first | exact Below.refl _ _ | exact H1.out | exact H1.out.1 | exact H2.out | exact H2.out.1 | exact H3.out | exact H3.out.1 | exact H4.out.1 | exact H5.out.1 | exact H6.out.1 | exact H7.out.1)).mono ?_
    rintro e w1 ⟨rfl, hp⟩
    have H1 : Hid (Past w w1 ∧ Sl w1 A n c xs) := Lib.hid ⟨hp, HS.out.past hp⟩
    clear hp
    go_wp2_with fail
    refine (HPa.out _ H1.out.2).mono ?_
    rintro e w2 ⟨B, d, rfl, hs, hp⟩
    have H2 : Hid (Past w w2 ∧ Sl w2 A n c xs ∧ SlK .u32 w2 B l.length d l) := Lib.hid ⟨H1.out.1.trans' hp, H1.out.2.past hp, hs⟩
    clear hp H1 hs
    generalize hll : l.length = k at *
    clear hll
    go_wp2_with fail
    refine (HRP.out _ H2.out.2.1).mono ?_
    rintro e w3 ⟨E, m, f, rfl, hs, hrg, hp⟩
    have HRG : Hid (Rng l) := Lib.hid hrg
    have H3 : Hid (Past w w3 ∧ Sl w3 A n c xs ∧ SlK .u32 w3 B k d l ∧ SlK .u32 w3 E m f l) := Lib.hid ⟨H2.out.1.trans' hp, H2.out.2.1.past hp, H2.out.2.2.past hp, hs⟩
    clear hp H2 hs hrg
    go_wp2_with fail
    refine (equal_any _ _ _ _ _ _ _ _ _ H3.out.2.2.1 H3.out.2.2.2).mono ?_
    rintro e w4 ⟨rfl, m4, hw4⟩
    rw [sameB_refl]
    have hp4 : Past w3 w4 := by rw [hw4]; exact Past.ofDrewN w3 m4
    have H4 : Hid (Past w w4 ∧ Sl w4 A n c xs ∧ SlK .u32 w4 B k d l) := Lib.hid ⟨H3.out.1.trans' hp4, H3.out.2.1.past hp4, H3.out.2.2.1.past hp4⟩
    clear hw4 hp4 H3
    go_wp2_with fail
    refine (HCo.out _ _ _ H4.out.2.2 HRG.out).mono ?_
    rintro e w5 ⟨G, f5, rfl, hs, hp⟩
    rw [HLN.out] at hs ⊢
    have H5 : Hid (Past w w5 ∧ Sl w5 A n c xs ∧ Sl w5 G n f5 xs) := Lib.hid ⟨H4.out.1.trans' hp, H4.out.2.1.past hp, hs⟩
    clear hp H4 hs
    go_wp2_with fail
    refine (rsame_any _ _ _ _ _ _ _ _ _ H5.out.2.2 H5.out.2.1).mono ?_
    rintro e w6 ⟨rfl, m6, hw6⟩
    rw [sameB_refl]
    have H6 : Hid (Past w w6) := by rw [hw6]; exact Lib.hid (H5.out.1.trans' (Past.ofDrewN w5 m6))
    clear hw6 H5
    go_wp2_with fail
    go_ret
    exact ⟨rfl, H6.out⟩

theorem walk (H9 : Prog9) (A : Option Addr) (len cap : Nat) (zs : List Int) (w : World) (h : IsRow .u8 w A len cap zs) (hG : Glob w) :
    Calls Tryd.prog 5 #[.slice A len cap] w fun e w' => e = .returned (.bool true) ∧ Past w w' :=
  walk' H9 A len cap _ w (Sl.of_row h) hG

def args0 : Array Value := #[.slice none 0 0]
theorem laid_met (os : Os) : laidMetH Tryd.prog Rows.oidReadsRow.laid ((laidWorld os).forCall (fun _ _ => 0) ⟨#[], args0, []⟩).memory :=
  laid_world os args0
theorem witness_row (os : Os) {H : Type} (enc : TypeId × Value → H) :
    (OpenSpec.ofChange Rows.oidReadsSpec).preRow enc Tryd.prog Tryd.f5 Rows.oidReadsRow.domain false Rows.oidReadsRow.laid ((laidWorld os).forCall (fun _ _ => 0) ⟨#[], args0, []⟩).memory args0 := by
  have hw : (DataW.whole enc Tryd.prog ((laidWorld os).forCall (fun _ _ => 0) ⟨#[], args0, []⟩).memory Tryd.f5.params.toList (OpenSpec.ofChange Rows.oidReadsSpec).vars false args0.toList 8).map (fun x => (x.1, x.2.1)) =
      some ([.nil], []) := by kernel_rfl
  obtain ⟨⟨x1, x2, x3⟩, hx, hx1⟩ := Option.map_eq_some_iff.1 hw
  simp only [Prod.mk.injEq] at hx1
  obtain ⟨rfl, rfl⟩ := hx1
  exact OpenSpec.preRow_of_cond 8 hx (by kernel_rfl) (fun k hk => by cases hk) (by kernel_rfl) (laid_met os)

set_option maxRecDepth 100000 in
set_option maxHeartbeats 2000000 in
theorem lifted (H8 : Prog9) (os : Os) (started : os.Started) (H : Type) (enc : TypeId × Value → H) (F : Stop.Interp) :
    ReturnsInHanded {} Tryd.checked os 5 .any ((OpenSpec.ofChange Rows.oidReadsSpec).preRow enc Tryd.prog Tryd.f5 Rows.oidReadsRow.domain false Rows.oidReadsRow.laid) (((OpenSpec.ofChange Rows.oidReadsSpec).at F).post enc Tryd.prog Tryd.f5 false true false false) := by
  refine returnsInHanded_of_row (C := Tryd.checked) (s := OpenSpec.ofChange Rows.oidReadsSpec) own started (by kernel_rfl) Tryd.func5
    (witness_row_atRef (enc := enc) (C := Tryd.checked) false (laidWorld os) args0 rfl (by kernel_rfl) (by kernel_rfl) (by kernel_rfl) (witness_row os enc)) ?_
  intro W base args ds gs before hval0 hW _ hcnd _ hL hsh _
  have hval : ∀ (j : Nat) t v, Tryd.f5.params[j]? = some t → args[j]? = some v → Value.okWide Tryd.prog W .any base t v := hval0
  have hW' := hW
  obtain ⟨p, q, hA0, hV, rfl, hfz, hnd⟩ := hW
  have hA : DataW.TrodAll enc Tryd.prog W 0 (fun _ => true) true Tryd.f5.params.toList args.toList ds p := hA0
  rw [Tryd.params5] at hA hval
  obtain ⟨v0, vs0, d0, ds0, p0, q0, hargs, rfl, rfl, h0, r0⟩ := trodAll_cons hA
  obtain ⟨rfl, rfl, rfl⟩ := trodAll_nil r0
  obtain rfl : args = #[v0] := by cases args; simp_all
  obtain ⟨rfl, rfl⟩ := trodVars_none hV
  have k0 := h0
  have lt0 : ∀ x ∈ p0, x.block < W.heap.size := by obtain ⟨m, hm⟩ := k0; exact DataW.trod_lt m _ _ _ hm
  obtain ⟨a0, len0, cap0, rfl⟩ := okWide_slice Tryd.underlying25 (hval 0 25 v0 rfl rfl)
  obtain ⟨z0, w0⟩ : ∃ zs, IsRow .u8 W a0 len0 cap0 zs := by
    obtain ⟨fuel, hf⟩ := h0
    rcases open_ints Tryd.underlying25 Tryd.underlying5 (by kernel_rfl) hf with ⟨hcs, _⟩ | ⟨x, l, c, zs, hcs, _, hl, hm, hz, _, hcell, hwz⟩
    · simp [Value.cells] at hcs
      obtain ⟨rfl, rfl, rfl⟩ := hcs
      exact ⟨[], .inl ⟨rfl, rfl, rfl, rfl⟩⟩
    · simp [Value.cells] at hcs
      obtain ⟨rfl, rfl, rfl⟩ := hcs
      exact ⟨zs, .inr ⟨_, rfl, hl, hm, by simpa using hz, hcell, hwz⟩⟩
  have hG := glob_of_row hL hsh
  clear hA0 hval0
  refine (walk H8 a0 len0 cap0 z0 W w0 hG).mono fun e W' ⟨he, bel⟩ => ?_
  subst he
  exact ⟨_, rfl, _, _, _, [], _, [], hW', trodAll_mk1 (shut_bool Tryd.underlying4 _), (trodAll_cons_mk (Below.trod laidOut (by kernel_rfl) (of_decide_eq_true (by kernel_rfl)) k0 bel lt0) trodAll_mk0), rfl, bel.frame _, fun h => by cases h⟩

theorem row_holds (H8 : Prog9) : Rows.OidReadsSaid :=
  OpenClaim.holds_of_cond 5 Tryd.f5 rfl rfl rfl rfl rfl rfl rfl ⟨rfl, rfl, rfl, rfl, rfl⟩ rfl rfl rfl rfl rfl (by kernel_rfl) Tryd.func5 (by kernel_rfl)
    (of_decide_eq_true (by kernel_rfl)) (by unfold Func.isWrapper; first | (rw [if_pos (by decide +kernel)]; kernel_rfl) | (rw [if_neg (by decide +kernel)]; exact ⟨rfl, rfl⟩))
    (fun os started H enc _ F0 => by rw [OpenClaim.pre_eq_preRow]; exact lifted H8 os started H enc F0)

theorem card (H8 : Prog9) : Rows.OidReadsCardSaid :=
  Claim7.holds_tied_plain_at .later [] [.data, .data, .data, .data, .sentinel, .sentinel, .pinned] true Rows.oidReadsCard.stood.harness true
    (row_holds H8) (fun _ h => by cases h) (by kernel_rfl) (fun _ h => by cases h) oidReads_row_tie rfl ⟨rfl, rfl⟩ (by kernel_rfl) rfl
    (fun f fn hf hfn => by
      obtain rfl : f = 5 := Option.some.inj ((show Tryd.prog.funcNamed "pyx/pyxlaw09.OidReads" = some 5 by kernel_rfl).symm.trans hf) |>.symm
      obtain rfl : fn = Tryd.f5 := (Option.some.inj (Tryd.func5.symm.trans hfn)).symm
      exact ⟨by kernel_rfl, fun j t ht => by
        rw [Tryd.params5] at ht
        obtain rfl : t = 25 := by
          rcases j with _ | j
          · simpa using ht.symm
          · simp at ht
        exact (show Tryd.prog.wantsStandIn 25 = false by kernel_rfl)⟩)
    (by kernel_rfl)

theorem proved : Rows.OidReadsCardSaid := card prog9


end Go.Proofs.YtbemkfneebbgeaaDoor.oidReads
