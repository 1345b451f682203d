/- For every text and every slice of bytes the law PemEncodes of package pyxlaw12 returns true, where the variables hold what the program's text lays. -/
import Derived.Test.YtnnonidiogoffaaGreatDoorFrame12
import Derived.Test.YtnnonidiogoffaaGreatDoorRf12C
namespace Go.Proofs.YtnnonidiogoffaaGreatDoor.pemEncodes
open Go.RowKit Go.ChangeShapes Go.WideShapes Go.ChangeAt
open Go.ChangeMaps (open_string shut_string)
set_option linter.unusedVariables false

theorem size_small {lab : List Int} {n : Nat} (h1 : lab.length ≤ 200) (h2 : n ≤ 1000) : sizeN lab n ≤ 3000 := by
  unfold sizeN
  split
  · rw [rlen_1]; omega
  · omega
theorem size_zero {lab : List Int} {n : Nat} (h : ¬ (labB lab = true ∧ 1 ≤ n)) : sizeN lab n = 0 := by unfold sizeN; exact if_neg h
theorem size_pos {lab : List Int} {n : Nat} (h : labB lab = true ∧ 1 ≤ n) : 1 ≤ sizeN lab n := by unfold sizeN; rw [if_pos h]; omega
theorem arm_rng {lab ys : List Int} (hl : ∀ x ∈ lab, 0 ≤ x ∧ x < 256) : ∀ x ∈ armL lab ys, 0 ≤ x ∧ x < 256 := by
  intro x hx
  obtain ⟨p, hp, hx⟩ := List.mem_flatMap.1 hx
  rcases List.mem_append.1 hx with hx | hx
  · rcases List.mem_cons.1 hp with rfl | hp
    · exact (rng_beg hl).1 x (List.mem_append.2 (.inl hx))
    · rcases List.mem_append.1 hp with hp | hp
      · exact renc_rng _ _ _ x (chk_mem hp x hx)
      · rw [List.mem_singleton] at hp
        subst hp
        exact (rng_beg hl).2 x (List.mem_append.2 (.inl hx))
  · simp at hx
    omega
set_option maxHeartbeats 4000000 in
set_option maxRecDepth 100000 in
theorem walk (s0 : ByteArray) (A : Option Addr) (n c : Nat) (zs : List Int) (w : World) (hs0 : s0.size ≤ maxLen) (hR : IsRow .u8 w A n c zs) (hG : Glob w) :
    Calls Tryz.prog 4 #[.string s0, .slice A n c] w fun e w' => e = .returned (.bool true) ∧ Past w w' := by
  have HA := Lib.hid (fun w hG => awake12 w hG)
  have HG := Lib.hid hG
  have hS := Sl.of_row hR
  obtain ⟨xs, hxs⟩ : ∃ xs, zs.take n = xs := ⟨_, rfl⟩
  rw [hxs] at hS
  clear hG hR hxs
  by_cases h0 : s0.size ≤ 200
  · have h0i : ¬ (200 : Int) < (s0.size : Int) := by omega
    by_cases h1 : n ≤ 1000
    · have h1i : ¬ (1000 : Int) < (n : Int) := by omega
      have HS := Lib.hid hS
      have hlen := hS.len
      obtain ⟨lab, hlab⟩ : ∃ lab, ints s0 = lab := ⟨_, rfl⟩
      have HLAB := Lib.hid hlab
      have hll : lab.length ≤ 200 := by rw [← hlab, ints_len]; exact h0
      have HTL : Hid (txt lab = s0) := Lib.hid (by rw [← hlab, txt_of_ints])
      have HLR : Hid (∀ x ∈ lab, 0 ≤ x ∧ x < 256) := Lib.hid (by rw [← hlab]; exact ints_rngs s0)
      have HE := Lib.hid (fun w h => encode_any s0 A n c xs w h (by omega) (by omega))
      have HT := Lib.hid (fun w h => rtext_any s0 A n c xs w h (by omega) (by omega))
      have HLA := Lib.hid (fun w => label_any s0 w (by omega))
      have HRA := Lib.hid (fun w => rlabel_any s0 w (by omega))
      have HSZ := Lib.hid (fun w => size_any s0 n w (by omega) (by omega))
      unfold EncR at HE
      rw [hlab] at HE HT HLA HRA HSZ
      by_cases hgd : labB lab = true ∧ 1 ≤ n
      · have hx0 : xs ≠ [] := by rintro rfl; simp at hlen; omega
        have hsz := size_small (n := n) hll h1
        have hsp := size_pos hgd
        have HNZ : Hid (¬ (sizeN lab n = 0 ∨ 1048576 < sizeN lab n)) := Lib.hid (by omega)
        have harm : (armL lab xs).length = sizeN lab n := by rw [arm_len hgd.1 hx0, hlen]
        have HRT : Hid (rtextL lab xs = armL lab xs) := Lib.hid (by unfold rtextL; exact if_pos ⟨hgd.1, hx0⟩)
        rw [HRT.out] at HT
        have HAR : Hid (∀ x ∈ armL lab xs, 0 ≤ x ∧ x < 256) := Lib.hid (arm_rng HLR.out)
        have HPA : Hid (parP (armL lab xs) = .ok lab xs) := Lib.hid (par_arm hgd.1 hx0 hS.rng)
        rw [hgd.1] at HLA HRA
        obtain ⟨T, hT⟩ : ∃ T, txt (armL lab xs) = T := ⟨_, rfl⟩
        have hTz : T.size = sizeN lab n := by rw [← hT, tsz, harm]
        have HTI : Hid (ints T = armL lab xs) := Lib.hid (by rw [← hT, ints_txt HAR.out])
        have HTX := Lib.hid hT
        rw [hT] at HT
        obtain ⟨N, hN⟩ : ∃ N, sizeN lab n = N := ⟨_, rfl⟩
        rw [hN] at HSZ hTz harm hsz hsp
        have HAM := Lib.hid harm
        have HNB := Lib.hid hsz
        have hzi : ((T.size : Nat) : Int) = (N : Int) := by omega
        have hne1 : (T.toList == []) = false := eqs_size (by omega)
        have hne2 : T.toList.isEmpty = false := by
          cases he : T.toList with
          | nil => rw [he] at hne1; simp at hne1
          | cons => rfl
        have heq : (T.toList == T.toList) = true := by simp
        have heqs : (s0.toList == s0.toList) = true := by simp
        have hnb : ((N : Int) == (N : Int)) = true := by simp
        have HSP := Lib.hid (fun w => rsplit_any T w (by omega))
        rw [HTI.out] at HSP
        clear hgd hx0 hsz hsp harm hT hTz hN h0 h1 hs0 hlab hll hlen hS
        go_enter Tryz.func4, Tryz.ntmps4
        go_wp2_with fail
        refine (HA.out _ HG.out).mono ?_
        rintro e w1 ⟨rfl, hp⟩
        have H1 := Lib.hid hp
        clear hp
        go_wp2_with fail
        refine (HE.out _ (HS.out.past H1.out)).mono ?_
        rintro e w2 ⟨he, hp⟩
        rw [if_neg HNZ.out] at he
        obtain ⟨P, m, cc, rfl, hS2⟩ := he
        have H2 : Hid (Past w w2 ∧ Sl w2 P m cc (armL lab xs)) := Lib.hid ⟨H1.out.trans' hp, hS2⟩
        clear hp hS2 H1
        go_wp2_with fail
        refine (HT.out _ (HS.out.past H2.out.1)).mono ?_
        rintro e w3 ⟨rfl, hp⟩
        have H3 : Hid (Past w w3 ∧ Sl w3 P m cc (armL lab xs)) := Lib.hid ⟨H2.out.1.trans' hp, H2.out.2.past hp⟩
        clear hp H2
        go_wp2_with fail
        refine (HLA.out _).mono ?_
        rintro e w4 ⟨rfl, hp⟩
        have H4 : Hid (Past w w4 ∧ Sl w4 P m cc (armL lab xs)) := Lib.hid ⟨H3.out.1.trans' hp, H3.out.2.past hp⟩
        clear hp H3
        go_wp2_with fail
        refine (HRA.out _).mono ?_
        rintro e w5 ⟨rfl, hw5⟩
        rw [hw5]
        clear hw5
        have hco := conv_sl (P := Tryz.prog) (src := 22) (dst := 9) (e := 5) Tryz.underlying22 Tryz.underlying5 Tryz.underlying9 H4.out.2
        rw [HTX.out] at hco
        go_wp2_with fail
        refine (HSZ.out _).mono ?_
        rintro e w6 ⟨rfl, hp⟩
        have H6 : Hid (Past w w6 ∧ Sl w6 P m cc (armL lab xs)) := Lib.hid ⟨H4.out.1.trans' hp, H4.out.2.past hp⟩
        clear hp H4 hco
        go_wp2_with fail
        refine (parse_any P m cc (armL lab xs) w6 H6.out.2 (by have := H6.out.2.len; have := HAM.out; have := HNB.out; omega)).mono ?_
        rintro e w7 ⟨he, hp⟩
        rw [HPA.out] at he
        obtain ⟨A7, m7, c7, rfl, hS7⟩ := he
        rw [HTL.out]
        have H7 : Hid (Past w w7 ∧ Sl w7 P m cc (armL lab xs) ∧ Sl w7 A7 m7 c7 xs) := Lib.hid ⟨H6.out.1.trans' hp, H6.out.2.past hp, hS7⟩
        clear hp H6 hS7
        go_wp2_with fail
        refine (rsame_any A7 A m7 n c7 c xs xs w7 H7.out.2.2 (HS.out.past H7.out.1)).mono ?_
        rintro e w8 ⟨rfl, m8, hw8⟩
        rw [sameB_refl]
        have hp8 : Past w7 w8 := by rw [hw8]; exact Past.drewN (Below.refl _ _) m8
        have H8 : Hid (Past w w8 ∧ Sl w8 P m cc (armL lab xs)) := Lib.hid ⟨H7.out.1.trans' hp8, H7.out.2.1.past hp8⟩
        clear hw8 hp8 H7
        go_wp2_with fail
        refine (linesN_any P m cc (armL lab xs) w8 H8.out.2 (by have := H8.out.2.len; have := HAM.out; have := HNB.out; omega)).mono ?_
        rintro e w9 ⟨rfl, hp⟩
        have H9 : Hid (Past w w9) := Lib.hid (H8.out.1.trans' hp)
        clear hp H8
        go_wp2_with fail
        refine (HSP.out _).mono ?_
        rintro e wa ⟨P2, c2, rfl, _, hp⟩
        have Ha : Hid (Past w wa) := Lib.hid (H9.out.trans' hp)
        clear hp H9
        unfold nln
        go_wp2_with fail
        go_ret
        exact ⟨rfl, Ha.out⟩
      · have HRT : Hid (rtextL lab xs = []) := Lib.hid (by
          unfold rtextL
          refine if_neg ?_
          rintro ⟨h2, h3⟩
          exact hgd ⟨h2, by
            have := List.length_pos_iff.2 h3
            omega⟩)
        have hz := size_zero hgd
        rw [HRT.out] at HT
        rw [hz] at HSZ
        have HNZ : Hid (sizeN lab n = 0 ∨ 1048576 < sizeN lab n) := Lib.hid (.inl hz)
        obtain ⟨bb, hbb⟩ : ∃ bb, labB lab = bb := ⟨_, rfl⟩
        rw [hbb] at HLA HRA
        have hbe : (bb == bb) = true := by simp
        have het : txt [] = ⟨#[]⟩ := rfl
        rw [het] at HT
        have HC := Lib.hid (fun w hG => lcode_code 12 w hG)
        simp only [valCode] at HC
        clear hgd hz hbb h0 h1 hs0 hlab hll hlen hS
        go_enter Tryz.func4, Tryz.ntmps4
        go_wp2_with fail
        refine (HA.out _ HG.out).mono ?_
        rintro e w1 ⟨rfl, hp⟩
        have H1 := Lib.hid hp
        clear hp
        go_wp2_with fail
        refine (HE.out _ (HS.out.past H1.out)).mono ?_
        rintro e w2 ⟨he, hp⟩
        rw [if_pos HNZ.out] at he
        obtain rfl := he
        have H2 : Hid (Past w w2) := Lib.hid (H1.out.trans' hp)
        clear hp H1
        unfold cdV
        go_wp2_with fail
        refine (HT.out _ (HS.out.past H2.out)).mono ?_
        rintro e w3 ⟨rfl, hp⟩
        have H3 : Hid (Past w w3) := Lib.hid (H2.out.trans' hp)
        clear hp H2
        go_wp2_with fail
        refine (HLA.out _).mono ?_
        rintro e w4 ⟨rfl, hp⟩
        have H4 : Hid (Past w w4) := Lib.hid (H3.out.trans' hp)
        clear hp H3
        go_wp2_with fail
        refine (HRA.out _).mono ?_
        rintro e w5 ⟨rfl, hw5⟩
        rw [hw5]
        clear hw5
        have hco := conv_sl (P := Tryz.prog) (src := 22) (dst := 9) (e := 5) Tryz.underlying22 Tryz.underlying5 Tryz.underlying9 (Sl.nil w4)
        rw [het] at hco
        go_wp2_with fail
        refine (HSZ.out _).mono ?_
        rintro e w6 ⟨rfl, hp⟩
        have H6 : Hid (Past w w6) := Lib.hid (H4.out.trans' hp)
        clear hp H4 hco
        go_wp2_with fail
        refine (HC.out _ (HG.out.past H6.out)).mono ?_
        rintro e w7 ⟨rfl, hp⟩
        have H7 : Hid (Past w w7) := Lib.hid (H6.out.trans' hp)
        clear hp H6
        go_wp2_with fail
        go_ret
        exact ⟨rfl, H7.out⟩
    · have h1i : (1000 : Int) < (n : Int) := by omega
      clear h0 h1 hs0 hS
      go_enter Tryz.func4, Tryz.ntmps4
      go_wp2_with fail
      refine (HA.out _ HG.out).mono ?_
      rintro e w1 ⟨rfl, hp⟩
      have H1 := Lib.hid hp
      clear hp
      go_wp2_with fail
      refine (HA.out _ (HG.out.past H1.out)).mono ?_
      rintro e w2 ⟨rfl, hp⟩
      have H2 : Hid (Past w w2) := Lib.hid (H1.out.trans' hp)
      clear hp H1
      go_wp2_with fail
      go_ret
      exact ⟨rfl, H2.out⟩
  · have h0i : (200 : Int) < (s0.size : Int) := by omega
    clear h0 hs0 hS
    go_enter Tryz.func4, Tryz.ntmps4
    go_wp2_with fail
    refine (HA.out _ HG.out).mono ?_
    rintro e w1 ⟨rfl, hp⟩
    have H1 := Lib.hid hp
    clear hp
    go_wp2_with fail
    refine (HA.out _ (HG.out.past H1.out)).mono ?_
    rintro e w2 ⟨rfl, hp⟩
    have H2 : Hid (Past w w2) := Lib.hid (H1.out.trans' hp)
    clear hp H1
    go_wp2_with fail
    go_ret
    exact ⟨rfl, H2.out⟩


def args0 : Array Value := #[.string ⟨#[]⟩, .slice none 0 0]
theorem laid_met (os : Os) : laidMetH Tryz.prog Rows.pemEncodesRow.laid ((laidWorld os).forCall (fun _ _ => 0) ⟨#[], args0, []⟩).memory :=
  laid_world os args0
theorem witness_row (os : Os) {H : Type} (enc : TypeId × Value → H) :
    (OpenSpec.ofChange Rows.pemEncodesSpec).preRow enc Tryz.prog Tryz.f4 Rows.pemEncodesRow.domain false Rows.pemEncodesRow.laid ((laidWorld os).forCall (fun _ _ => 0) ⟨#[], args0, []⟩).memory args0 := by
  have hw : (DataW.whole enc Tryz.prog ((laidWorld os).forCall (fun _ _ => 0) ⟨#[], args0, []⟩).memory Tryz.f4.params.toList (OpenSpec.ofChange Rows.pemEncodesSpec).vars false args0.toList 8).map (fun x => (x.1, x.2.1)) =
      some ([.lit (.string []), .nil], []) := by kernel_rfl
  obtain ⟨⟨x1, x2, x3⟩, hx, hx1⟩ := Option.map_eq_some_iff.1 hw
  simp only [Prod.mk.injEq] at hx1
  obtain ⟨rfl, rfl⟩ := hx1
  exact OpenSpec.preRow_of_cond 8 hx (by kernel_rfl) (fun k hk => by cases hk) (by kernel_rfl) (laid_met os)

set_option maxRecDepth 100000 in
set_option maxHeartbeats 2000000 in
theorem lifted (os : Os) (started : os.Started) (H : Type) (enc : TypeId × Value → H) (F : Stop.Interp) :
    ReturnsInHanded {} Tryz.checked os 4 .any ((OpenSpec.ofChange Rows.pemEncodesSpec).preRow enc Tryz.prog Tryz.f4 Rows.pemEncodesRow.domain false Rows.pemEncodesRow.laid) (((OpenSpec.ofChange Rows.pemEncodesSpec).at F).post enc Tryz.prog Tryz.f4 false true false false) := by
  refine returnsInHanded_of_row (C := Tryz.checked) (s := OpenSpec.ofChange Rows.pemEncodesSpec) own started (by kernel_rfl) Tryz.func4
    (witness_row_atRef (enc := enc) (C := Tryz.checked) false (laidWorld os) args0 rfl (by kernel_rfl) (by kernel_rfl) (by kernel_rfl) (witness_row os enc)) ?_
  intro W base args ds gs before hval0 hW _ hcnd _ hL hsh _
  have hval : ∀ (j : Nat) t v, Tryz.f4.params[j]? = some t → args[j]? = some v → Value.okWide Tryz.prog W .any base t v := hval0
  have hW' := hW
  obtain ⟨p, q, hA0, hV, rfl, hfz, hnd⟩ := hW
  have hA : DataW.TrodAll enc Tryz.prog W 0 (fun _ => true) true Tryz.f4.params.toList args.toList ds p := hA0
  rw [Tryz.params4] at hA hval
  obtain ⟨v0, vs0, d0, ds0, p0, q0, hargs, rfl, rfl, h0, r0⟩ := trodAll_cons hA
  obtain ⟨v1, vs1, d1, ds1, p1, q1, rfl, rfl, rfl, h1, r1⟩ := trodAll_cons r0
  obtain ⟨rfl, rfl, rfl⟩ := trodAll_nil r1
  obtain rfl : args = #[v0, v1] := by cases args; simp_all
  obtain ⟨rfl, rfl⟩ := trodVars_none hV
  obtain ⟨s0, rfl, rfl, rfl, ws0⟩ := open_string Tryz.underlying9 (hval 0 9 v0 rfl rfl) h0
  have k1 := h1
  have lt1 : ∀ x ∈ p1, x.block < W.heap.size := by obtain ⟨m, hm⟩ := k1; exact DataW.trod_lt m _ _ _ hm
  obtain ⟨a1, len1, cap1, rfl⟩ := okWide_slice Tryz.underlying22 (hval 1 22 v1 rfl rfl)
  obtain ⟨z1, w1⟩ := row_of h1
  have hG := glob_of_row hL hsh
  clear hA0 hval0
  refine (walk s0 a1 len1 cap1 z1 W ws0 w1 hG).mono fun e W' ⟨he, bel⟩ => ?_
  subst he
  exact ⟨_, rfl, _, _, _, [], _, [], hW', trodAll_mk1 (shut_bool Tryz.underlying4 _), (trodAll_cons_mk (shut_string Tryz.underlying9 ws0) (trodAll_cons_mk (Below.trod laidOut (by kernel_rfl) (of_decide_eq_true (by kernel_rfl)) k1 bel lt1) trodAll_mk0)), rfl, bel.frame _, fun h => by cases h⟩

theorem row_holds : Rows.PemEncodesSaid :=
  OpenClaim.holds_of_cond 4 Tryz.f4 rfl rfl rfl rfl rfl rfl rfl ⟨rfl, rfl, rfl, rfl, rfl⟩ rfl rfl rfl rfl rfl (by kernel_rfl) Tryz.func4 (by kernel_rfl)
    (of_decide_eq_true (by kernel_rfl)) (by unfold Func.isWrapper; first | (rw [if_pos (by decide +kernel)]; kernel_rfl) | (rw [if_neg (by decide +kernel)]; exact ⟨rfl, rfl⟩))
    (fun os started H enc _ F0 => by rw [OpenClaim.pre_eq_preRow]; exact lifted os started H enc F0)

theorem card : Rows.PemEncodesCardSaid :=
  Claim7.holds_tied_plain_at .later [] [.data, .handle, .pinned] true Rows.pemEncodesCard.stood.harness true
    row_holds (fun _ h => by cases h) (by kernel_rfl) (fun _ h => by cases h) pemEncodes_row_tie rfl ⟨rfl, rfl⟩ (by kernel_rfl) rfl
    (fun f fn hf hfn => by
      obtain rfl : f = 4 := Option.some.inj ((show Tryz.prog.funcNamed "pyx/pyxlaw12.PemEncodes" = some 4 by kernel_rfl).symm.trans hf) |>.symm
      obtain rfl : fn = Tryz.f4 := (Option.some.inj (Tryz.func4.symm.trans hfn)).symm
      exact ⟨by kernel_rfl, fun j t ht => by
        rw [Tryz.params4] at ht
        have h3 : t = 9 ∨ t = 22 := by
          rcases j with _ | _ | j
          · exact .inl (by simpa using ht.symm)
          · exact .inr (by simpa using ht.symm)
          · simp at ht
        rcases h3 with rfl | rfl
        · exact (show Tryz.prog.wantsStandIn 9 = false by kernel_rfl)
        · exact (show Tryz.prog.wantsStandIn 22 = false by kernel_rfl)⟩)
    (by kernel_rfl)


end Go.Proofs.YtnnonidiogoffaaGreatDoor.pemEncodes
