/- For every number the law PemLimits of package pyxlaw12 returns true, where the variables hold what the program's text lays. -/
import Derived.Test.YtnnonidiogoffaaGreatDoorFrame12
import Derived.Laws.OwnMore
namespace Go.Proofs.YtnnonidiogoffaaGreatDoor.pemLimits
open Go.RowKit Go.ChangeShapes Go.WideShapes Go.ChangeAt
set_option linter.unusedVariables false

theorem made8 (n : Nat) : (madeCells (Value.int .u8 0).cells (n * 1)).toList = (List.replicate n (0 : Int)).map (Value.int .u8) := by
  apply List.ext_getElem?
  intro j
  rw [Array.getElem?_toList]
  by_cases hj : j < n
  · simp [madeCells, Value.cells, hj, Nat.mod_one]
  · simp [madeCells, Value.cells, hj]
theorem mk_full (N : Nat) (hN : N ≤ 1000000) (w : World) : ∃ w', (Instr.makeSlice 22 (.int .i64 (N : Int)) (.int .i64 (N : Int))).run Tryz.prog w = .ok (.slice (some ⟨w.heap.size, 0, none⟩) N N) w' ∧
    w'.ownsRow w.heap.size 5 1 (.slice (some ⟨w.heap.size, 0, none⟩) N N) N ((List.replicate N (0 : Int)).map (Value.int .u8)) ∧ Past w w' := by
  obtain ⟨i0, hi, hz0, hz1, hz2⟩ := info_parts info8
  obtain ⟨w', h1, h2, h3⟩ := run_make_full (P := Tryz.prog) w w.heap.size 22 5 i0 (.int .u8 0) 1 Tryz.underlying22 hi hz0 hz1 .i64 .i64 N (by rw [hz2]; omega) (by unfold maxLen; omega) (Nat.le_refl _)
  rw [made8] at h2
  exact ⟨w', h1, h2, ⟨h3.os, h3.tape, h3.output, h3.size, fun i hi => h3.block i hi (by simp)⟩⟩
theorem size_x (n : Nat) (hn : 1 ≤ n) : sizeN (ints ⟨#[88]⟩) n = 34 + (n + 2) / 3 * 4 + ((n + 2) / 3 * 4 + 63) / 64 := by
  unfold sizeN
  rw [if_pos ⟨by rw [ex_x]; exact ex_lab, hn⟩, rlen_1, ex_x, List.length_singleton]
  omega
set_option maxHeartbeats 4000000 in
set_option maxRecDepth 100000 in
theorem walk (x0 : Int) (w : World) (hx : (Lit.int .u8 x0).wf = true) (hG : Glob w) :
    Calls Tryz.prog 7 #[.int .u8 x0] w fun e w' => e = .returned (.bool true) ∧ Past w w' := by
  have hx' := bounds_u8 hx
  obtain ⟨a, rfl⟩ : ∃ a : Nat, x0 = (a : Int) := ⟨x0.toNat, by omega⟩
  obtain ⟨r, hr⟩ : ∃ r : Nat, a % 2 = r := ⟨_, rfl⟩
  have hr2 : r ≤ 1 := by omega
  have hmod : (a : Int).tmod 2 = (r : Int) := by rw [Int.tmod_eq_emod_of_nonneg (by omega)]; omega
  have hai : (a : Int) ≤ 255 := by omega
  have ha0 : (0 : Int) ≤ (a : Int) := by omega
  have HA := Lib.hid (fun w hG => awake12 w hG)
  have HG := Lib.hid hG
  have HSZ := Lib.hid (fun n w (h : n ≤ 1000000) => size_any ⟨#[88]⟩ n w (by decide) (by omega))
  have HR2 := Lib.hid hr2
  clear hG hx hx' hr hr2
  go_enter Tryz.func7, Tryz.ntmps7
  go_wp2_with fail
  refine (HA.out _ HG.out).mono ?_
  rintro e w1 ⟨rfl, hp⟩
  have H1 := Lib.hid hp
  clear hp
  go_wp2_with fail
  go_loopg [3] 200 (fun q s3 wx => ∃ k : Nat, k ≤ 103 ∧ q = 200 - k ∧ s3 = .int .i64 ((774000 + 3 * k : Nat) : Int) ∧ Hid (Past w wx))
  case atStart => exact ⟨0, by omega, rfl, rfl, H1⟩
  case round =>
    obtain ⟨k, hk, hgk, rfl, HP⟩ := hrel
    have HK := Lib.hid hk
    have HGK := Lib.hid hgk
    obtain ⟨n, hn⟩ : ∃ n : Nat, 774000 + 3 * k = n := ⟨_, rfl⟩
    rw [hn]
    have hn1 : 774000 ≤ n ∧ n ≤ 774309 := by omega
    obtain ⟨S, hS⟩ : ∃ S, sizeN (ints ⟨#[88]⟩) n = S := ⟨_, rfl⟩
    have hSv := size_x n (by omega)
    rw [hS] at hSv
    have HSN := Lib.hid (fun w => HSZ.out n w (by omega))
    rw [hS] at HSN
    have hS0 : (0 : Int) < (S : Int) := by omega
    have hnb : (n : Int) < 800000 := by omega
    by_cases hc : k < 103
    · have hS1 : (S : Int) ≤ 1048576 := by omega
      have HN := Lib.hid hn
      have HC := Lib.hid hc
      obtain ⟨n2, hn2⟩ : ∃ n2 : Nat, n + 3 = n2 := ⟨_, rfl⟩
      have hw2 : IntKind.i64.wrap ((n : Int) + 3) = (n2 : Int) := by rw [IntKind.wrap_i64]; omega
      have HN2 := Lib.hid hn2
      have HAF := Lib.hid (And.intro hmod (And.intro hai ha0))
      obtain ⟨sI, hsI⟩ : ∃ sI : Int, (S : Int) = sI := ⟨_, rfl⟩
      obtain ⟨nI, hnI⟩ : ∃ nI : Int, (n : Int) = nI := ⟨_, rfl⟩
      obtain ⟨mI, hmI⟩ : ∃ mI : Int, (n2 : Int) = mI := ⟨_, rfl⟩
      rw [hsI] at HSN hS0 hS1
      rw [hnI] at HSN hnb hw2 ⊢
      rw [hmI] at hw2
      have HMI := Lib.hid hmI
      clear hk hgk hn hn1 hS hSv hc hn2 hmod hai ha0 hsI hnI hmI
      go_wp2_with fail
      refine (HSN.out _).mono ?_
      rintro e w2 ⟨rfl, hp⟩
      have H2 : Hid (Past w w2) := Lib.hid (HP.out.trans' hp)
      clear hp
      go_wp2_with fail
      refine (HSN.out _).mono ?_
      rintro e w3 ⟨rfl, hp⟩
      have H3 : Hid (Past w w3) := Lib.hid (H2.out.trans' hp)
      clear hp H2
      go_wp2_with fail
      go_roundg (200 - (k + 1))
      case rel => exact ⟨k + 1, by have := HC.out; omega, rfl, by have := HN.out; have := HN2.out; rw [show 774000 + 3 * (k + 1) = n2 by omega, HMI.out], H3⟩
      case measure => have := HC.out; have := HGK.out; omega
    · obtain rfl : k = 103 := by omega
      obtain rfl : n = 774309 := hn.symm
      have hSx : S = 1048578 := by omega
      subst hSx
      clear hk hgk hn hn1 hS hSv hc hnb hS0 HK HGK
      have z6 : sizeN (ints ⟨#[88]⟩) 774306 = 1048574 := by rw [size_x _ (by omega)]
      have z7 : sizeN (ints ⟨#[88]⟩) 774307 = 1048578 := by rw [size_x _ (by omega)]
      have z9 : sizeN (ints ⟨#[88]⟩) 774309 = 1048578 := by rw [size_x _ (by omega)]
      have HZ6 := Lib.hid (fun w => HSZ.out 774306 w (by omega))
      have HZ7 := Lib.hid (fun w => HSZ.out 774307 w (by omega))
      have HZ9 := Lib.hid (fun w => HSZ.out 774309 w (by omega))
      rw [z6] at HZ6
      rw [z7] at HZ7
      rw [z9] at HZ9
      simp only [Int.cast_ofNat_Int] at HZ6 HZ7 HZ9
      have HM6 := Lib.hid (fun w => mk_full 774306 (by omega) w)
      have HM7 := Lib.hid (fun w => mk_full 774307 (by omega) w)
      simp only [Int.cast_ofNat_Int] at HM6 HM7
      have Z6 := Lib.hid z6
      have Z7 := Lib.hid z7
      have HC12 := Lib.hid (fun w hG => lcode_code 12 w hG)
      simp only [valCode] at HC12
      have HL6 : Hid ((armL (ints ⟨#[88]⟩) (List.replicate 774306 0)).length = 1048574) := Lib.hid (by
        rw [arm_len (by rw [ex_x]; exact ex_lab) (by intro h; have := congrArg List.length h; rw [List.length_replicate] at this; simp at this), List.length_replicate, z6])
      clear z6 z7 z9
      have hr01 : r = 0 ∨ r = 1 := by have := HR2.out; omega
      rcases hr01 with rfl | rfl
      · have hm2 : (a : Int).tmod 2 = 0 := hmod
        have hm3 : (a : Int) % 2 = 0 := by rw [← hm2, Int.tmod_eq_emod_of_nonneg ha0]
        clear hmod
        go_wp2_with fail
        refine (HZ9.out _).mono ?_
        rintro e w2 ⟨rfl, hp⟩
        have H2 : Hid (Past w w2) := Lib.hid (HP.out.trans' hp)
        clear hp
        go_wp2_with fail
        refine (HZ9.out _).mono ?_
        rintro e w3 ⟨rfl, hp⟩
        have H3 : Hid (Past w w3) := Lib.hid (H2.out.trans' hp)
        clear hp H2
        obtain ⟨w4, hmk, hown, hp4⟩ := HM6.out w3
        have HS4 := Lib.hid (Sl.of_own hown (fun x hx => by rw [List.eq_of_mem_replicate hx]; omega))
        have H4 : Hid (Past w w4) := Lib.hid (H3.out.trans' hp4)
        clear hown hp4
        go_wp2_with fail
        refine (encode_any ⟨#[88]⟩ _ 774306 _ _ w4 HS4.out (by decide) (by omega)).mono ?_
        rintro e w5 ⟨he, hp⟩
        rw [Z6.out, if_neg (by omega)] at he
        obtain ⟨P, m, cc, rfl, hS5⟩ := he
        have hm : m = 1048574 := by rw [← hS5.len]; exact HL6.out
        subst hm
        have H5 : Hid (Past w w5) := Lib.hid (H4.out.trans' hp)
        clear hp hS5 H4 hmk
        go_wp2_with fail
        refine (HZ6.out _).mono ?_
        rintro e w6 ⟨rfl, hp⟩
        have H6 : Hid (Past w w6) := Lib.hid (H5.out.trans' hp)
        clear hp H5
        go_wp2_with fail
        go_ret
        exact ⟨rfl, H6.out⟩
      · have hm2 : (a : Int).tmod 2 = 1 := hmod
        have hm3 : (a : Int) % 2 = 1 := by rw [← hm2, Int.tmod_eq_emod_of_nonneg ha0]
        clear hmod
        go_wp2_with fail
        refine (HZ9.out _).mono ?_
        rintro e w2 ⟨rfl, hp⟩
        have H2 : Hid (Past w w2) := Lib.hid (HP.out.trans' hp)
        clear hp
        go_wp2_with fail
        refine (HZ9.out _).mono ?_
        rintro e w3 ⟨rfl, hp⟩
        have H3 : Hid (Past w w3) := Lib.hid (H2.out.trans' hp)
        clear hp H2
        obtain ⟨w4, hmk, hown, hp4⟩ := HM7.out w3
        have HS4 := Lib.hid (Sl.of_own hown (fun x hx => by rw [List.eq_of_mem_replicate hx]; omega))
        have H4 : Hid (Past w w4) := Lib.hid (H3.out.trans' hp4)
        clear hown hp4
        go_wp2_with fail
        refine (encode_any ⟨#[88]⟩ _ 774307 _ _ w4 HS4.out (by decide) (by omega)).mono ?_
        rintro e w5 ⟨he, hp⟩
        rw [Z7.out, if_pos (by omega)] at he
        obtain rfl := he
        have H5 : Hid (Past w w5) := Lib.hid (H4.out.trans' hp)
        clear hp H4 hmk
        unfold cdV
        go_wp2_with fail
        refine (HZ7.out _).mono ?_
        rintro e w6 ⟨rfl, hp⟩
        have H6 : Hid (Past w w6) := Lib.hid (H5.out.trans' hp)
        clear hp H5
        go_wp2_with fail
        refine (HC12.out _ (HG.out.past H6.out)).mono ?_
        rintro e w7 ⟨rfl, hp⟩
        have H7 : Hid (Past w w7) := Lib.hid (H6.out.trans' hp)
        clear hp H6
        go_wp2_with fail
        go_ret
        exact ⟨rfl, H7.out⟩

def args0 : Array Value := #[.int .u8 0]
theorem laid_met (os : Os) : laidMetH Tryz.prog Rows.pemLimitsRow.laid ((laidWorld os).forCall (fun _ _ => 0) ⟨#[], args0, []⟩).memory :=
  laid_world os args0
theorem witness_row (os : Os) {H : Type} (enc : TypeId × Value → H) :
    (OpenSpec.ofChange Rows.pemLimitsSpec).preRow enc Tryz.prog Tryz.f7 Rows.pemLimitsRow.domain false Rows.pemLimitsRow.laid ((laidWorld os).forCall (fun _ _ => 0) ⟨#[], args0, []⟩).memory args0 := by
  have hw : (DataW.whole enc Tryz.prog ((laidWorld os).forCall (fun _ _ => 0) ⟨#[], args0, []⟩).memory Tryz.f7.params.toList (OpenSpec.ofChange Rows.pemLimitsSpec).vars false args0.toList 8).map (fun x => (x.1, x.2.1)) =
      some ([.lit (.int .u8 0)], []) := by kernel_rfl
  obtain ⟨⟨x1, x2, x3⟩, hx, hx1⟩ := Option.map_eq_some_iff.1 hw
  simp only [Prod.mk.injEq] at hx1
  obtain ⟨rfl, rfl⟩ := hx1
  exact OpenSpec.preRow_of_cond 8 hx (by kernel_rfl) (fun k hk => by cases hk) (by kernel_rfl) (laid_met os)

set_option maxRecDepth 100000 in
set_option maxHeartbeats 2000000 in
theorem lifted (os : Os) (started : os.Started) (H : Type) (enc : TypeId × Value → H) (F : Stop.Interp) :
    ReturnsInHanded {} Tryz.checked os 7 .any ((OpenSpec.ofChange Rows.pemLimitsSpec).preRow enc Tryz.prog Tryz.f7 Rows.pemLimitsRow.domain false Rows.pemLimitsRow.laid) (((OpenSpec.ofChange Rows.pemLimitsSpec).at F).post enc Tryz.prog Tryz.f7 false true false false) := by
  refine returnsInHanded_of_row (C := Tryz.checked) (s := OpenSpec.ofChange Rows.pemLimitsSpec) own started (by kernel_rfl) Tryz.func7
    (witness_row_atRef (enc := enc) (C := Tryz.checked) false (laidWorld os) args0 rfl (by kernel_rfl) (by kernel_rfl) (by kernel_rfl) (witness_row os enc)) ?_
  intro W base args ds gs before hval0 hW _ hcnd _ hL hsh _
  have hval : ∀ (j : Nat) t v, Tryz.f7.params[j]? = some t → args[j]? = some v → Value.okWide Tryz.prog W .any base t v := hval0
  have hW' := hW
  obtain ⟨p, q, hA0, hV, rfl, hfz, hnd⟩ := hW
  have hA : DataW.TrodAll enc Tryz.prog W 0 (fun _ => true) true Tryz.f7.params.toList args.toList ds p := hA0
  rw [Tryz.params7] at hA hval
  obtain ⟨v0, vs0, d0, ds0, p0, q0, hargs, rfl, rfl, h0, r0⟩ := trodAll_cons hA
  obtain ⟨rfl, rfl, rfl⟩ := trodAll_nil r0
  obtain rfl : args = #[v0] := by cases args; simp_all
  obtain ⟨rfl, rfl⟩ := trodVars_none hV
  obtain ⟨a0, rfl, rfl, rfl, w0⟩ := open_int Tryz.underlying5 (hval 0 5 v0 rfl rfl) h0
  have hG := glob_of_row hL hsh
  clear hA0 hval0
  refine (walk a0 W w0 hG).mono fun e W' ⟨he, bel⟩ => ?_
  subst he
  exact ⟨_, rfl, _, _, _, [], _, [], hW', trodAll_mk1 (shut_bool Tryz.underlying4 _), (trodAll_cons_mk (shut_int Tryz.underlying5 w0) trodAll_mk0), rfl, bel.frame _, fun h => by cases h⟩

theorem row_holds : Rows.PemLimitsSaid :=
  OpenClaim.holds_of_cond 7 Tryz.f7 rfl rfl rfl rfl rfl rfl rfl ⟨rfl, rfl, rfl, rfl, rfl⟩ rfl rfl rfl rfl rfl (by kernel_rfl) Tryz.func7 (by kernel_rfl)
    (of_decide_eq_true (by kernel_rfl)) (by unfold Func.isWrapper; first | (rw [if_pos (by decide +kernel)]; kernel_rfl) | (rw [if_neg (by decide +kernel)]; exact ⟨rfl, rfl⟩))
    (fun os started H enc _ F0 => by rw [OpenClaim.pre_eq_preRow]; exact lifted os started H enc F0)

theorem card : Rows.PemLimitsCardSaid :=
  Claim7.holds_tied_plain_at .later [] [.data, .handle, .pinned] true Rows.pemLimitsCard.stood.harness true
    row_holds (fun _ h => by cases h) (by kernel_rfl) (fun _ h => by cases h) pemLimits_row_tie rfl ⟨rfl, rfl⟩ (by kernel_rfl) rfl
    (fun f fn hf hfn => by
      obtain rfl : f = 7 := Option.some.inj ((show Tryz.prog.funcNamed "pyx/pyxlaw12.PemLimits" = some 7 by kernel_rfl).symm.trans hf) |>.symm
      obtain rfl : fn = Tryz.f7 := (Option.some.inj (Tryz.func7.symm.trans hfn)).symm
      exact ⟨by kernel_rfl, fun j t ht => by
        rw [Tryz.params7] at ht
        obtain rfl : t = 5 := by
          rcases j with _ | j
          · simpa using ht.symm
          · simp at ht
        exact (show Tryz.prog.wantsStandIn 5 = false by kernel_rfl)⟩)
    (by kernel_rfl)


end Go.Proofs.YtnnonidiogoffaaGreatDoor.pemLimits
