/- For every two lists of numbers the law OidBelow of package pyxlaw09 returns true and leaves its arguments alone. -/
import Derived.Test.YtbemkfneebbgeaaDoorFrame9
import Derived.Test.YtbemkfneebbgeaaDoorO9L
import Derived.Deep.Cut
namespace Go.Proofs.YtbemkfneebbgeaaDoor.oidBelow
open Go.RowKit Go.ChangeShapes Go.WideShapes Go.ChangeAt Go.ChangeMaps
set_option linter.unusedVariables false

theorem str_beq (a b : ByteArray) : (a.toList == b.toList) = decide (a = b) := by
  rw [Bool.eq_iff_iff, beq_iff_eq, decide_eq_true_iff, ByteArray.toList_eq, ByteArray.toList_eq]
  constructor
  · intro h
    cases a
    cases b
    simp only at h
    rw [Array.toList_inj.1 h]
  · rintro rfl
    rfl
theorem text_nil {l : List Int} (h : okL l = true) : textS l ≠ ⟨#[]⟩ := by
  intro h0
  have h1 := textS_jn h
  rw [h0] at h1
  have h2 := (okL_true h).1
  have h4 := congrArg List.length h1
  match l, h2 with
  | x :: y :: l, _ =>
    have h5 : jn (x :: y :: l) = decL x.toNat ++ 46 :: (decL y.toNat ++ 46 :: jn l) := rfl
    rw [h5] at h4
    have h6 : (ints ⟨#[]⟩ ++ [46]).length = 1 := by decide
    rw [h6] at h4
    simp only [List.length_append, List.length_cons] at h4
    have := decL_pos x.toNat
    omega
theorem size_pos {S : ByteArray} (h : S ≠ ⟨#[]⟩) : 0 < S.size := by
  rcases Nat.eq_zero_or_pos S.size with h0 | h0
  · refine absurd ?_ h
    have : S.data = #[] := Array.size_eq_zero_iff.1 h0
    cases S
    simp at this
    rw [this]
  · exact h0
theorem te {S : ByteArray} (h : S ≠ ⟨#[]⟩) : S.toList.isEmpty = false := by
  have h1 := size_pos h
  rw [ByteArray.toList_eq]
  cases hq : S.data.toList.isEmpty with
  | false => rfl
  | true =>
    have h2 : S.data.toList.length = 0 := by rw [List.isEmpty_iff.1 hq]; rfl
    have h3 : S.size = S.data.toList.length := by rw [Array.length_toList]; rfl
    omega
/-- What the comparison of texts finds. -/
theorem below_cmp {a b : List Int} (ha : okL a = true) (hb : okL b = true) (hra : Rng a) (hrb : Rng b) :
    belowB a b = (decide ((textS b ++ ⟨#[46]⟩ : ByteArray).size < (textS a).size) && (((textS a).extract 0 (textS b ++ ⟨#[46]⟩ : ByteArray).size).toList == (textS b ++ ⟨#[46]⟩ : ByteArray).toList)) := by
  have hs : (textS b ++ ⟨#[46]⟩ : ByteArray).size = (textS b).size + 1 := by rw [ByteArray.size_append]; rfl
  rw [below_text ha hb hra hrb, hs, str_beq, Bool.eq_iff_iff, Bool.and_eq_true, decide_eq_true_iff, decide_eq_true_iff, decide_eq_true_iff]
  refine and_congr_right fun h => ?_
  have e1 : ints ((textS a).extract 0 ((textS b).size + 1)) = (ints (textS a)).take ((textS b).size + 1) := by rw [ints_extract, List.drop_zero]
  have e2 : ints (textS b ++ ⟨#[46]⟩) = ints (textS b) ++ [46] := by rw [ints_app]; rfl
  rw [← e1, ← e2]
  exact ⟨fun h => ints_inj h, fun h => by rw [h]⟩

set_option maxHeartbeats 4000000 in
set_option maxRecDepth 100000 in
theorem walk' (H : Prog9) (A : Option Addr) (n c : Nat) (a : List Int) (B : Option Addr) (m d : Nat) (b : List Int) (w : World) (h : SlK .u32 w A n c a) (hr : Rng a) (h2 : SlK .u32 w B m d b) (hr2 : Rng b) (hG : Glob w) :
    Calls Tryd.prog 6 #[.slice A n c, .slice B m d] w fun e w' => e = .returned (.bool true) ∧ Past w w' := by
  have HG := Lib.hid hG
  have HA := Lib.hid (fun w1 (hp : Past w w1) => awake9 H w1 (HG.out.past hp))
  clear hG
  by_cases hbig : 100 < n
  · have hbi : (100 : Int) < (n : Int) := by omega
    clear h hr h2 hr2 H hbig
    go_enter Tryd.func6, Tryd.ntmps6
    go_wp2_with fail
    refine (HA.out _ (by first | exact Below.refl _ _ | exact H1.out | exact H1.out.1 | exact H2.out | exact H2.out.1 | exact H3.out | exact H3.out.1 | exact H4.out.1 | exact H5.out.1 | exact H6.out.1 | exact H7.out.1)).mono ?_
    rintro e w1 ⟨rfl, hp⟩
    have H1 := Lib.hid hp
    clear hp
    go_wp2_with fail
    refine (HA.out _ (by first | exact Below.refl _ _ | exact H1.out | exact H1.out.1 | exact H2.out | exact H2.out.1 | exact H3.out | exact H3.out.1 | exact H4.out.1 | exact H5.out.1 | exact H6.out.1 | exact H7.out.1)).mono ?_
    rintro e w2 ⟨rfl, hp⟩
    have H2 := Lib.hid (H1.out.trans' hp)
    clear hp H1
    go_wp2_with fail
    go_ret
    exact ⟨rfl, H2.out⟩
  have hbi : ¬ (100 : Int) < (n : Int) := by omega
  by_cases hbig2 : 100 < m
  · have hbi2 : (100 : Int) < (m : Int) := by omega
    clear h hr h2 hr2 H hbig
    go_enter Tryd.func6, Tryd.ntmps6
    go_wp2_with fail
    refine (HA.out _ (by first | exact Below.refl _ _ | exact H1.out | exact H1.out.1 | exact H2.out | exact H2.out.1 | exact H3.out | exact H3.out.1 | exact H4.out.1 | exact H5.out.1 | exact H6.out.1 | exact H7.out.1)).mono ?_
    rintro e w1 ⟨rfl, hp⟩
    have H1 := Lib.hid hp
    clear hp
    go_wp2_with fail
    refine (HA.out _ (by first | exact Below.refl _ _ | exact H1.out | exact H1.out.1 | exact H2.out | exact H2.out.1 | exact H3.out | exact H3.out.1 | exact H4.out.1 | exact H5.out.1 | exact H6.out.1 | exact H7.out.1)).mono ?_
    rintro e w2 ⟨rfl, hp⟩
    have H2 := Lib.hid (H1.out.trans' hp)
    clear hp H1
    go_wp2_with fail
    go_ret
    exact ⟨rfl, H2.out⟩
  have hbi2 : ¬ (100 : Int) < (m : Int) := by omega
  have HS := Lib.hid (And.intro h h2)
  have HT1 := Lib.hid (fun w1 (h : SlK .u32 w1 A n c a) => rtext_any A n c a w1 h hr)
  have HT2 := Lib.hid (fun w1 (h : SlK .u32 w1 B m d b) => rtext_any B m d b w1 h hr2)
  have HBe := Lib.hid (fun w1 (h : SlK .u32 w1 A n c a) (h2 : SlK .u32 w1 B m d b) => H.below A n c a B m d b w1 h h2 hr hr2 (by omega) (by omega))
  have hz1 := textS_size hr
  have hz2 := textS_size hr2
  cases hoa : okL a with
  | false =>
    rw [textS_no hoa] at HT1
    rw [below_no_a hoa] at HBe
    have hzz : (textS b).size + (⟨#[46]⟩ : ByteArray).size ≤ 9223372036854775807 := by
      have : (⟨#[46]⟩ : ByteArray).size = 1 := rfl
      omega
    clear h hr h2 hr2 H hbig hbig2 hoa hz1 hz2
    generalize textS b = U at *
    go_enter Tryd.func6, Tryd.ntmps6
    go_wp2_with fail
    refine (HA.out _ (by first | exact Below.refl _ _ | exact H1.out | exact H1.out.1 | exact H2.out | exact H2.out.1 | exact H3.out | exact H3.out.1 | exact H4.out.1 | exact H5.out.1 | exact H6.out.1 | exact H7.out.1)).mono ?_
    rintro e w1 ⟨rfl, hp⟩
    have H1 : Hid (Past w w1 ∧ SlK .u32 w1 A n c a ∧ SlK .u32 w1 B m d b) := Lib.hid ⟨hp, HS.out.1.past hp, HS.out.2.past hp⟩
    clear hp
    go_wp2_with fail
    refine (HT1.out _ H1.out.2.1).mono ?_
    rintro e w2 ⟨rfl, hp⟩
    have H2 : Hid (Past w w2 ∧ SlK .u32 w2 A n c a ∧ SlK .u32 w2 B m d b) := Lib.hid ⟨H1.out.1.trans' hp, H1.out.2.1.past hp, H1.out.2.2.past hp⟩
    clear hp H1
    go_wp2_with fail
    refine (HT2.out _ H2.out.2.2).mono ?_
    rintro e w3 ⟨rfl, hp⟩
    have H3 : Hid (Past w w3 ∧ SlK .u32 w3 A n c a ∧ SlK .u32 w3 B m d b) := Lib.hid ⟨H2.out.1.trans' hp, H2.out.2.1.past hp, H2.out.2.2.past hp⟩
    clear hp H2
    go_wp2_with fail
    refine (HBe.out _ H3.out.2.1 H3.out.2.2).mono ?_
    rintro e w4 ⟨rfl, hp⟩
    have H4 : Hid (Past w w4) := Lib.hid (H3.out.1.trans' hp)
    clear hp H3
    go_wp2_with fail
    go_ret
    exact ⟨rfl, H4.out⟩
  | true =>
    have hne1 := text_nil hoa
    cases hob : okL b with
    | false =>
      rw [textS_no hob] at HT2
      rw [below_no_b hob] at HBe
      have hzz : (⟨#[]⟩ : ByteArray).size + (⟨#[46]⟩ : ByteArray).size ≤ 9223372036854775807 := by decide
      have hTe := te hne1
      have hUU : ((⟨#[]⟩ ++ ⟨#[46]⟩ : ByteArray).toList == [46]) = true := by rw [ByteArray.toList_eq]; decide
      clear h hr h2 hr2 H hbig hbig2 hoa hob hz1 hz2 hne1
      generalize textS a = S at *
      go_enter Tryd.func6, Tryd.ntmps6
      go_wp2_with fail
      refine (HA.out _ (by first | exact Below.refl _ _ | exact H1.out | exact H1.out.1 | exact H2.out | exact H2.out.1 | exact H3.out | exact H3.out.1 | exact H4.out.1 | exact H5.out.1 | exact H6.out.1 | exact H7.out.1)).mono ?_
      rintro e w1 ⟨rfl, hp⟩
      have H1 : Hid (Past w w1 ∧ SlK .u32 w1 A n c a ∧ SlK .u32 w1 B m d b) := Lib.hid ⟨hp, HS.out.1.past hp, HS.out.2.past hp⟩
      clear hp
      go_wp2_with fail
      refine (HT1.out _ H1.out.2.1).mono ?_
      rintro e w2 ⟨rfl, hp⟩
      have H2 : Hid (Past w w2 ∧ SlK .u32 w2 A n c a ∧ SlK .u32 w2 B m d b) := Lib.hid ⟨H1.out.1.trans' hp, H1.out.2.1.past hp, H1.out.2.2.past hp⟩
      clear hp H1
      go_wp2_with fail
      refine (HT2.out _ H2.out.2.2).mono ?_
      rintro e w3 ⟨rfl, hp⟩
      have H3 : Hid (Past w w3 ∧ SlK .u32 w3 A n c a ∧ SlK .u32 w3 B m d b) := Lib.hid ⟨H2.out.1.trans' hp, H2.out.2.1.past hp, H2.out.2.2.past hp⟩
      clear hp H2
      go_wp2_with fail
      refine (HBe.out _ H3.out.2.1 H3.out.2.2).mono ?_
      rintro e w4 ⟨rfl, hp⟩
      have H4 : Hid (Past w w4) := Lib.hid (H3.out.1.trans' hp)
      clear hp H3
      go_wp2_with fail
      go_ret
      exact ⟨rfl, H4.out⟩
    | true =>
      have hcmp := below_cmp hoa hob hr hr2
      have hus : (textS b ++ ⟨#[46]⟩ : ByteArray).size = (textS b).size + 1 := by rw [ByteArray.size_append]; rfl
      have hzz : (textS b).size + (⟨#[46]⟩ : ByteArray).size ≤ 9223372036854775807 := by
        have : (⟨#[46]⟩ : ByteArray).size = 1 := rfl
        omega
      have hTe := te hne1
      have hUn : ((textS b ++ ⟨#[46]⟩ : ByteArray).toList == [46]) = false := by
        have h5 := str_beq (textS b ++ ⟨#[46]⟩) ⟨#[46]⟩
        have h6 : (⟨#[46]⟩ : ByteArray).toList = [46] := by rw [ByteArray.toList_eq]
        rw [h6] at h5
        rw [h5]
        refine decide_eq_false fun h => ?_
        have h7 := congrArg ByteArray.size h
        rw [hus] at h7
        have h8 : (⟨#[46]⟩ : ByteArray).size = 1 := rfl
        have := size_pos (text_nil hob)
        omega
      have hsu : (textS b ++ ⟨#[46]⟩ : ByteArray).size ≤ 300 := by omega
      clear h hr h2 hr2 H hbig hbig2 hoa hob hne1 hus hz2
      generalize hbb : belowB a b = r at *
      generalize textS a = S at *
      obtain ⟨U, hU⟩ : ∃ U, (textS b ++ ⟨#[46]⟩ : ByteArray) = U := ⟨_, rfl⟩
      rw [hU] at hcmp hUn hsu
      have HU := Lib.hid hU
      have HCM := Lib.hid hcmp
      clear hU hcmp hbb
      generalize textS b = V at *
      go_enter Tryd.func6, Tryd.ntmps6
      go_wp2_with fail
      refine (HA.out _ (by first | exact Below.refl _ _ | exact H1.out | exact H1.out.1 | exact H2.out | exact H2.out.1 | exact H3.out | exact H3.out.1 | exact H4.out.1 | exact H5.out.1 | exact H6.out.1 | exact H7.out.1)).mono ?_
      rintro e w1 ⟨rfl, hp⟩
      have H1 : Hid (Past w w1 ∧ SlK .u32 w1 A n c a ∧ SlK .u32 w1 B m d b) := Lib.hid ⟨hp, HS.out.1.past hp, HS.out.2.past hp⟩
      clear hp
      go_wp2_with fail
      refine (HT1.out _ H1.out.2.1).mono ?_
      rintro e w2 ⟨rfl, hp⟩
      have H2 : Hid (Past w w2 ∧ SlK .u32 w2 A n c a ∧ SlK .u32 w2 B m d b) := Lib.hid ⟨H1.out.1.trans' hp, H1.out.2.1.past hp, H1.out.2.2.past hp⟩
      clear hp H1
      go_wp2_with fail
      refine (HT2.out _ H2.out.2.2).mono ?_
      rintro e w3 ⟨rfl, hp⟩
      have H3 : Hid (Past w w3 ∧ SlK .u32 w3 A n c a ∧ SlK .u32 w3 B m d b) := Lib.hid ⟨H2.out.1.trans' hp, H2.out.2.1.past hp, H2.out.2.2.past hp⟩
      clear hp H2
      go_upto_region 5 with (fail)
      rw [HU.out]
      by_cases hsz : U.size < S.size
      · have hszi : (U.size : Int) < (S.size : Int) := by omega
        have hr0 : r = ((S.extract 0 U.size).toList == U.toList) := by rw [HCM.out, decide_eq_true hsz, Bool.true_and]
        have HR0 := Lib.hid hr0
        have hmn : min (U.size : Int) (S.size : Int) = (U.size : Int) := by omega
        clear hr0 hsz
        go_wp2_with fail
        rw [← HR0.out]
        clear HR0 HCM
        cases r
        all_goals
          refine (HBe.out _ H3.out.2.1 H3.out.2.2).mono ?_
          rintro e w4 ⟨rfl, hp⟩
          have H4 : Hid (Past w w4) := Lib.hid (H3.out.1.trans' hp)
          clear hp H3
          go_wp2_with fail
          go_ret
          exact ⟨rfl, H4.out⟩
      · have hszi : ¬ (U.size : Int) < (S.size : Int) := by omega
        have hr0 : r = false := by rw [HCM.out, decide_eq_false hsz, Bool.false_and]
        subst hr0
        clear hsz HCM
        go_wp2_with fail
        refine (HBe.out _ H3.out.2.1 H3.out.2.2).mono ?_
        rintro e w4 ⟨rfl, hp⟩
        have H4 : Hid (Past w w4) := Lib.hid (H3.out.1.trans' hp)
        clear hp H3
        go_wp2_with fail
        go_ret
        exact ⟨rfl, H4.out⟩

theorem walk (H9 : Prog9) (A : Option Addr) (len cap : Nat) (zs : List Int) (A1 : Option Addr) (len1 cap1 : Nat) (zs1 : List Int) (w : World) (h : IsRow .u32 w A len cap zs) (h1 : IsRow .u32 w A1 len1 cap1 zs1) (hG : Glob w) :
    Calls Tryd.prog 6 #[.slice A len cap, .slice A1 len1 cap1] w fun e w' => e = .returned (.bool true) ∧ Past w w' :=
  walk' H9 A len cap _ A1 len1 cap1 _ w (SlK.of_row h).1 (SlK.of_row h).2 (SlK.of_row h1).1 (SlK.of_row h1).2 hG

def args0 : Array Value := #[.slice none 0 0, .slice none 0 0]
theorem laid_met (os : Os) : laidMetH Tryd.prog Rows.oidBelowRow.laid ((laidWorld os).forCall (fun _ _ => 0) ⟨#[], args0, []⟩).memory :=
  laid_world os args0
theorem witness_row (os : Os) {H : Type} (enc : TypeId × Value → H) :
    (OpenSpec.ofChange Rows.oidBelowSpec).preRow enc Tryd.prog Tryd.f6 Rows.oidBelowRow.domain false Rows.oidBelowRow.laid ((laidWorld os).forCall (fun _ _ => 0) ⟨#[], args0, []⟩).memory args0 := by
  have hw : (DataW.whole enc Tryd.prog ((laidWorld os).forCall (fun _ _ => 0) ⟨#[], args0, []⟩).memory Tryd.f6.params.toList (OpenSpec.ofChange Rows.oidBelowSpec).vars false args0.toList 8).map (fun x => (x.1, x.2.1)) =
      some ([.nil, .nil], []) := by kernel_rfl
  obtain ⟨⟨x1, x2, x3⟩, hx, hx1⟩ := Option.map_eq_some_iff.1 hw
  simp only [Prod.mk.injEq] at hx1
  obtain ⟨rfl, rfl⟩ := hx1
  exact OpenSpec.preRow_of_cond 8 hx (by kernel_rfl) (fun k hk => by cases hk) (by kernel_rfl) (laid_met os)

set_option maxRecDepth 100000 in
set_option maxHeartbeats 2000000 in
theorem lifted (H8 : Prog9) (os : Os) (started : os.Started) (H : Type) (enc : TypeId × Value → H) (F : Stop.Interp) :
    ReturnsInHanded {} Tryd.checked os 6 .any ((OpenSpec.ofChange Rows.oidBelowSpec).preRow enc Tryd.prog Tryd.f6 Rows.oidBelowRow.domain false Rows.oidBelowRow.laid) (((OpenSpec.ofChange Rows.oidBelowSpec).at F).post enc Tryd.prog Tryd.f6 false true false false) := by
  refine returnsInHanded_of_row (C := Tryd.checked) (s := OpenSpec.ofChange Rows.oidBelowSpec) own started (by kernel_rfl) Tryd.func6
    (witness_row_atRef (enc := enc) (C := Tryd.checked) false (laidWorld os) args0 rfl (by kernel_rfl) (by kernel_rfl) (by kernel_rfl) (witness_row os enc)) ?_
  intro W base args ds gs before hval0 hW _ hcnd _ hL hsh _
  have hval : ∀ (j : Nat) t v, Tryd.f6.params[j]? = some t → args[j]? = some v → Value.okWide Tryd.prog W .any base t v := hval0
  have hW' := hW
  obtain ⟨p, q, hA0, hV, rfl, hfz, hnd⟩ := hW
  have hA : DataW.TrodAll enc Tryd.prog W 0 (fun _ => true) true Tryd.f6.params.toList args.toList ds p := hA0
  rw [Tryd.params6] at hA hval
  obtain ⟨v0, vs0, d0, ds0, p0, q0, hargs, rfl, rfl, h0, r0⟩ := trodAll_cons hA
  obtain ⟨v1, vs1, d1, ds1, p1, q1, rfl, rfl, rfl, h1, r1⟩ := trodAll_cons r0
  obtain ⟨rfl, rfl, rfl⟩ := trodAll_nil r1
  obtain rfl : args = #[v0, v1] := by cases args; simp_all
  obtain ⟨rfl, rfl⟩ := trodVars_none hV
  have k0 := h0
  have lt0 : ∀ x ∈ p0, x.block < W.heap.size := by obtain ⟨m, hm⟩ := k0; exact DataW.trod_lt m _ _ _ hm
  obtain ⟨a0, len0, cap0, rfl⟩ := okWide_slice Tryd.underlying22 (hval 0 22 v0 rfl rfl)
  obtain ⟨z0, w0⟩ : ∃ zs, IsRow .u32 W a0 len0 cap0 zs := by
    obtain ⟨fuel, hf⟩ := h0
    rcases open_ints Tryd.underlying22 Tryd.underlying33 (by kernel_rfl) hf with ⟨hcs, _⟩ | ⟨x, l, c, zs, hcs, _, hl, hm, hz, _, hcell, hwz⟩
    · simp [Value.cells] at hcs
      obtain ⟨rfl, rfl, rfl⟩ := hcs
      exact ⟨[], .inl ⟨rfl, rfl, rfl, rfl⟩⟩
    · simp [Value.cells] at hcs
      obtain ⟨rfl, rfl, rfl⟩ := hcs
      exact ⟨zs, .inr ⟨_, rfl, hl, hm, by simpa using hz, hcell, hwz⟩⟩
  have k1 := h1
  have lt1 : ∀ x ∈ p1, x.block < W.heap.size := by obtain ⟨m, hm⟩ := k1; exact DataW.trod_lt m _ _ _ hm
  obtain ⟨a1, len1, cap1, rfl⟩ := okWide_slice Tryd.underlying22 (hval 1 22 v1 rfl rfl)
  obtain ⟨z1, w1⟩ : ∃ zs, IsRow .u32 W a1 len1 cap1 zs := by
    obtain ⟨fuel, hf⟩ := h1
    rcases open_ints Tryd.underlying22 Tryd.underlying33 (by kernel_rfl) hf with ⟨hcs, _⟩ | ⟨x, l, c, zs, hcs, _, hl, hm, hz, _, hcell, hwz⟩
    · simp [Value.cells] at hcs
      obtain ⟨rfl, rfl, rfl⟩ := hcs
      exact ⟨[], .inl ⟨rfl, rfl, rfl, rfl⟩⟩
    · simp [Value.cells] at hcs
      obtain ⟨rfl, rfl, rfl⟩ := hcs
      exact ⟨zs, .inr ⟨_, rfl, hl, hm, by simpa using hz, hcell, hwz⟩⟩
  have hG := glob_of_row hL hsh
  clear hA0 hval0
  refine (walk H8 a0 len0 cap0 z0 a1 len1 cap1 z1 W w0 w1 hG).mono fun e W' ⟨he, bel⟩ => ?_
  subst he
  exact ⟨_, rfl, _, _, _, [], _, [], hW', trodAll_mk1 (shut_bool Tryd.underlying4 _), (trodAll_cons_mk (Below.trod laidOut (by kernel_rfl) (of_decide_eq_true (by kernel_rfl)) k0 bel lt0) (trodAll_cons_mk (Below.trod laidOut (by kernel_rfl) (of_decide_eq_true (by kernel_rfl)) k1 bel lt1) trodAll_mk0)), rfl, bel.frame _, fun h => by cases h⟩

theorem row_holds (H8 : Prog9) : Rows.OidBelowSaid :=
  OpenClaim.holds_of_cond 6 Tryd.f6 rfl rfl rfl rfl rfl rfl rfl ⟨rfl, rfl, rfl, rfl, rfl⟩ rfl rfl rfl rfl rfl (by kernel_rfl) Tryd.func6 (by kernel_rfl)
    (of_decide_eq_true (by kernel_rfl)) (by unfold Func.isWrapper; first | (rw [if_pos (by decide +kernel)]; kernel_rfl) | (rw [if_neg (by decide +kernel)]; exact ⟨rfl, rfl⟩))
    (fun os started H enc _ F0 => by rw [OpenClaim.pre_eq_preRow]; exact lifted H8 os started H enc F0)

theorem card (H8 : Prog9) : Rows.OidBelowCardSaid :=
  Claim7.holds_tied_plain_at .later [] [.data, .data, .data, .data, .sentinel, .sentinel, .pinned] true Rows.oidBelowCard.stood.harness true
    (row_holds H8) (fun _ h => by cases h) (by kernel_rfl) (fun _ h => by cases h) oidBelow_row_tie rfl ⟨rfl, rfl⟩ (by kernel_rfl) rfl
    (fun f fn hf hfn => by
      obtain rfl : f = 6 := Option.some.inj ((show Tryd.prog.funcNamed "pyx/pyxlaw09.OidBelow" = some 6 by kernel_rfl).symm.trans hf) |>.symm
      obtain rfl : fn = Tryd.f6 := (Option.some.inj (Tryd.func6.symm.trans hfn)).symm
      exact ⟨by kernel_rfl, fun j t ht => by
        rw [Tryd.params6] at ht
        obtain rfl : t = 22 := by
          rcases j with _ | _ | j
          · simpa using ht.symm
          · simpa using ht.symm
          · simp at ht
        exact (show Tryd.prog.wantsStandIn 22 = false by kernel_rfl)⟩)
    (by kernel_rfl)

theorem proved : Rows.OidBelowCardSaid := card prog9


end Go.Proofs.YtbemkfneebbgeaaDoor.oidBelow
