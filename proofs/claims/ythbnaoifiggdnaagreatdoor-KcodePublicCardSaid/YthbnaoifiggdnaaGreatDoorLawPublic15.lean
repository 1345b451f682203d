/- KcodePublic: the public key in a private key is the one that the key was made with; changing it does not change the private key; for every input of the statement, with no condition beyond the card's. -/
import Derived.Test.YthbnaoifiggdnaaGreatDoorOp15
import Derived.Test.YthbnaoifiggdnaaGreatDoorQ15F
namespace Go.Proofs.YthbnaoifiggdnaaGreatDoor.kcodePublic
open Go.RowKit Go.ChangeShapes Go.WideShapes Go.ChangeAt
set_option linter.unusedVariables false
set_option maxRecDepth 100000

theorem eq_res0 (w : World) : (binOp .eql 33 (.agg (resC (0, 0))) (.agg #[.int .i64 0, .int .i64 0])).run Tryz.prog w = .ok (.bool true) w := by kernel_rfl
/-- A row of bytes in block g. -/
def BRow (w : World) (g cap M : Nat) : Prop := ∃ cur : Array Value, Row w g 5 cur ∧ cur.size = cap ∧ ∀ k, k < M → ∃ x : Int, cur[k]? = some (.int .u8 x) ∧ 0 ≤ x ∧ x < 256
theorem BRow.drewN {w : World} {g cap M : Nat} (h : BRow w g cap M) (m : Nat) : BRow (w.drewN m) g cap M := h
theorem BRow.set {w : World} {g cap M : Nat} (h : BRow w g cap M) (i : Nat) (hi : i < M) (y : Int) (hy : 0 ≤ y ∧ y < 256) : BRow (w.setCell ⟨g, i, none⟩ (.int .u8 y)) g cap M := by
  obtain ⟨cur, h1, h2, h3⟩ := h
  refine ⟨_, Row.set h1 i _, by simpa using h2, fun k hk => ?_⟩
  by_cases e : i = k
  · subst e
    obtain ⟨x, hx, _⟩ := h3 i hi
    have : i < cur.size := (Array.getElem?_eq_some_iff.1 hx).1
    exact ⟨y, by simp [this], hy⟩
  · obtain ⟨x, hx, hr⟩ := h3 k hk
    exact ⟨x, by rw [Array.getElem?_setIfInBounds, if_neg e]; exact hx, hr⟩
theorem BRow.of_own {w : World} {base g n cap : Nat} {xs : List Int} (h : w.ownsRow base 5 1 (.slice (some ⟨g, 0, none⟩) n cap) n (xs.map (Value.int .u8))) (hr : ∀ x ∈ xs, 0 ≤ x ∧ x < 256) : BRow w g cap n := by
  obtain ⟨cur, h1, h2, h3, h4, h5, h6, h7⟩ := own_row15 h
  refine ⟨cur, h1, h5, fun k hk => ?_⟩
  rw [List.length_map] at h7
  have e : (cur.toList.take n)[k]? = some (.int .u8 (xs[k]'(by omega))) := by rw [h6]; simp [h7, hk]
  rw [List.getElem?_take_of_lt hk, Array.getElem?_toList] at e
  exact ⟨_, e, hr _ (List.getElem_mem _)⟩
set_option maxHeartbeats 4000000 in
theorem walk (d s : Int) (P : Option Addr) (m pc : Nat) (V : Nat → Int × Int × Int) (w : World) (hd : (Lit.int .u8 d).wf = true) (hs : (Lit.int .u32 s).wf = true) (hC : Chs w P m V) (hml : m ≤ maxLen) (hG : Glob15 w) :
    Calls Tryz.prog 4 #[.int .u8 d, .int .u32 s, .slice P m pc] w fun e w' => e = .returned (.bool true) ∧ Past w w' := by
  have HAW := Lib.hid (fun w' (h : Past w w') => awake15 w' (hG.past h))
  have hdb := bounds_u8 hd
  have hsb := bounds_u32 hs
  have HG := Lib.hid hG
  have hm0 : (0 : Int) ≤ (m : Int) := by omega
  by_cases hm : m ≤ 20
  · have hmI : (m : Int) ≤ 20 := by omega
    obtain ⟨f, hf⟩ : ∃ f : Nat, 1 + d % 3 = (f : Int) := ⟨(1 + d % 3).toNat, by omega⟩
    have hfb : 1 ≤ f ∧ f ≤ 3 := by omega
    have HWW : Hid (d.tmod 3 = d % 3 ∧ IntKind.i64.wrap d = d ∧ IntKind.i64.wrap (1 + d % 3) = (f : Int) ∧ wrap64 (f : Int) = (f : Int) ∧ 1 + d % 3 = (f : Int)) := Lib.hid ⟨Int.tmod_eq_emod_of_nonneg (by omega), by rw [IntKind.wrap_i64]; omega, by rw [hf, IntKind.wrap_i64]; omega, IntWalk.wrap64_in _ (by omega), hf⟩
    have HPR := Lib.hid (fun w => rprivate_any f s w hfb (by omega))
    have HVL : Hid (0 < (privB f s).length ∧ (privB f s).length ≤ 10000) := Lib.hid (by rw [privB_len]; omega)
    have HCH := Lib.hid (fun A n c xs w' (h : Past w w') (h1 : Sl w' A n c xs) h2 h3 => changed_any A n c xs P m pc V w' h1 h2 h3 (hC.past h) hm)
    have HFB := Lib.hid hfb
    generalize privB f s = vb at *
    clear hd hs hG hC hdb hsb hf hml hm
    obtain ⟨hw1, hw2, hw3, hw4, hw5⟩ := HWW.out
    clear hfb
    go_enter Tryz.func4, Tryz.ntmps4
    go_wp2_with fail
    refine (HAW.out w (Below.refl _ _)).mono ?_
    rintro e1 w1 ⟨rfl, hp1⟩
    have HP1 := Lib.hid hp1
    clear hp1
    go_wp2_with fail
    clear hw1 hw2 hw3 hw4 hw5
    refine (HPR.out w1).mono ?_
    rintro e2 w2 ⟨v2, rfl, hown, hrng, hp2⟩
    obtain ⟨A2, c2, rfl⟩ := own_slice hown
    have HP2 := Lib.hid (HP1.out.trans' hp2)
    have HH := Lib.hid (HCH.out A2 _ c2 vb w2 HP2.out (Sl.of_own hown hrng) HVL.out.1 HVL.out.2)
    clear hown hrng hp2
    go_wp2_with fail
    refine HH.out.mono ?_
    rintro e3 w3 ⟨v3, rfl, hown, hrng, hp3⟩
    obtain ⟨A3, c3, rfl⟩ := own_slice hown
    have HP3 := Lib.hid (HP2.out.trans' hp3)
    have HS3 := Lib.hid (Sl.of_own hown hrng)
    have HL3 : Hid ((chg V vb m).length ≤ 10000) := Lib.hid (Nat.le_trans (chg_len V vb m) HVL.out.2)
    have HRS := Lib.hid hrng
    clear hown hrng hp3 HH HCH HPR HVL
    generalize chg V vb m = ss at *
    obtain ⟨n, hn⟩ : ∃ n, ss.length = n := ⟨_, rfl⟩
    rw [hn] at HS3 HL3 ⊢
    have HNL := Lib.hid hn
    clear hn
    have HPA : Hid (Past w3 (w3.alloc (.cells #[] 5))) := Lib.hid ((Below.refl _ _).alloc (Nat.le_refl _) _)
    have HOB := Lib.hid (own_block_ge (own_empty w3 5 rfl (Nat.le_refl _)))
    go_wp2_with (at_builtin; refine wpList_append_sl rfl _ _ 25 5 rfl Tryz.underlying25 info8 w3.heap.size _ 0 [] rfl (own_empty w3 _ rfl (Nat.le_refl _)) A3 n c3 ss rfl (HS3.out.past HPA.out) (by have := HL3.out; omega) HPA.out.size ?_)
    intro v4 w4 hown4 hgrow4
    have hown4 : w4.ownsRow w3.heap.size 5 1 v4 n (ss.map (Value.int .u8)) := by simpa using hown4
    obtain ⟨A4, c4, rfl⟩ := own_slice hown4
    have HQ4 : Hid (Past w3 w4) := Lib.hid (HPA.out.grown hgrow4 HPA.out.size HOB.out)
    have HP4 : Hid (Past w w4) := Lib.hid (HP3.out.trans' HQ4.out)
    have HS4 := Lib.hid (Sl.of_own hown4 HRS.out)
    have HT4 := Lib.hid (HS3.out.past HQ4.out)
    clear hown4 hgrow4 HPA HOB
    have HKP := Lib.hid (kpublic_any (f : Int) A4 n c4 ss w4 HS4.out HL3.out (HG.out.past HP4.out))
    have HRC := Lib.hid (fun w' (h : Past w4 w') => rcheckPrivate_any (f : Int) A3 n c3 ss w' (HT4.out.past h) HL3.out)
    by_cases hz : (chkPriv (f : Int) ss).1 = 0
    · obtain ⟨_, hz2, hz3⟩ := chkPriv_zero hz
      obtain ⟨N, hN⟩ : ∃ N : Nat, 384 * (f + 1) = N := ⟨_, rfl⟩
      have hNA : nA (f : Int) = N := by unfold nA; omega
      have HKQ : Hid (Calls Tryz.prog 17 #[.int .i64 (f : Int), .slice A4 n c4] w4 fun e w' => ∃ v, e = .returned (.tuple #[v, .bool true]) ∧ w'.ownsRow w4.heap.size 5 1 v (N + 32) ((seg ss N (N + 32)).map (Value.int .u8)) ∧ Past w4 w') := Lib.hid (by
        refine HKP.out.mono ?_
        rintro e w' ⟨h1, h2⟩
        rw [if_pos hz, hNA] at h1
        obtain ⟨v, h3, h4⟩ := h1
        exact ⟨v, h3, h4, h2⟩)
      have hn : n = 2 * N + 96 := by rw [← HNL.out]; omega
      rw [hz3] at HRC
      obtain ⟨b0, o0, rfl, hb0⟩ := HT4.out.bytes (by omega)
      obtain ⟨b4, o4, rfl, hb4⟩ := HS4.out.bytes (by omega)
      have HB3 : Hid (b0 < w4.heap.size) := Lib.hid (cell_lt (hb0 0 (by omega)))
      have HB4 : Hid (b4 < w4.heap.size) := Lib.hid (cell_lt (hb4 0 (by omega)))
      have hc3 := HT4.out.cap
      have hcN : ¬ c3 = N := by omega
      obtain ⟨N2, hN2⟩ : ∃ M : Nat, 2 * N = M := ⟨_, rfl⟩
      obtain ⟨Q, hQ⟩ : ∃ M : Nat, N2 + 32 = M := ⟨_, rfl⟩
      obtain ⟨M, hM⟩ : ∃ M : Nat, N + 32 = M := ⟨_, rfl⟩
      obtain ⟨f1, hf1⟩ : ∃ M : Nat, f + 1 = M := ⟨_, rfl⟩
      have hfb := HFB.out
      have HWN : Hid (IntKind.i64.wrap ((f : Int) + 1) = (f1 : Int) ∧ wrap64 (f1 : Int) = (f1 : Int) ∧ IntKind.i64.wrap (384 * (f1 : Int)) = (N : Int) ∧ wrap64 (N : Int) = (N : Int)) := Lib.hid ⟨by rw [IntKind.wrap_i64]; omega, IntWalk.wrap64_in _ (by omega), by rw [IntKind.wrap_i64]; omega, IntWalk.wrap64_in _ (by omega)⟩
      have HWP : Hid (IntKind.i64.wrap (2 * (N : Int)) = (N2 : Int) ∧ wrap64 (N2 : Int) = (N2 : Int) ∧ IntKind.i64.wrap ((N2 : Int) + 32) = (Q : Int) ∧ wrap64 (Q : Int) = (Q : Int)) := Lib.hid ⟨by rw [IntKind.wrap_i64]; omega, IntWalk.wrap64_in _ (by omega), by rw [IntKind.wrap_i64]; omega, IntWalk.wrap64_in _ (by omega)⟩
      have HBQ : Hid ((N : Int) ≤ (Q : Int) ∧ (Q : Int) ≤ (c3 : Int)) := Lib.hid ⟨by omega, by omega⟩
      have HCN := Lib.hid hcN
      have HQN : Hid (Q - N = M) := Lib.hid (by omega)
      have HMB : Hid (0 < M ∧ M ≤ 2000) := Lib.hid (by omega)
      have HSG : Hid (∀ w', Past w4 w' → Sl w' (some ⟨b0, o0 + N, none⟩) M (c3 - N) (seg ss N M)) := Lib.hid (fun w' h => by
        have := (HT4.out.past h).at2 (L := N) (H := Q) (m := M) (by omega) (by omega) hcN
        rwa [HQN.out] at this)
      have HSR : Hid (∀ x ∈ seg ss N M, 0 ≤ x ∧ x < 256) := Lib.hid (HSG.out w4 (Below.refl _ _)).rng
      rw [hM] at HKQ
      have HSLn : Hid ((seg ss N M).length = M) := Lib.hid (HSG.out w4 (Below.refl _ _)).len
      generalize seg ss N M = ps at *
      have HEQ := Lib.hid eq_res0
      clear hz hz2 hz3 hN hNA hn hb0 hb4 hc3 hcN hN2 hQ hM hf1 hfb HKP HFB
      generalize hrc : resC (0, 0) = rc at *
      have HRC0 := Lib.hid hrc
      clear hrc
      go_wp2_with fail
      refine HKQ.out.mono ?_
      rintro e5 w5 ⟨v5, rfl, hown5, hp5⟩
      obtain ⟨g, cap, rfl, hg, _, _⟩ := own_some hown5 HMB.out.1
      have HBR := Lib.hid (BRow.of_own hown5 HSR.out)
      have HS5 := Lib.hid (Sl.of_own hown5 HSR.out)
      have HQ5 := Lib.hid hp5
      have HGB := Lib.hid hg
      have HCAP : Hid ((M : Int) ≤ (cap : Int)) := Lib.hid (by have := HS5.out.cap; omega)
      clear hown5 hp5 hg HKQ
      go_wp2_with fail
      refine (HRC.out w5 HQ5.out).mono ?_
      rintro e6 w6 ⟨rfl, hp6⟩
      have HQ6 := Lib.hid (HQ5.out.trans' hp6)
      have HS6 := Lib.hid (HS5.out.past hp6)
      have HBR6 : Hid (BRow w6 g cap M) := Lib.hid (by
        obtain ⟨cur, h1, h2, h3⟩ := HBR.out
        exact ⟨cur, h1.past hp6, h2, h3⟩)
      clear hp6 HRC HBR HS5
      have heq := HEQ.out
      obtain ⟨hw1, hw2, hw3, hw4⟩ := HWN.out
      go_upto_region 12 with (fail)
      clear heq hw1 hw2 hw3 hw4
      obtain ⟨hw1, hw2, hw3, hw4⟩ := HWP.out
      obtain ⟨hq1, hq2⟩ := HBQ.out
      have hcN := HCN.out
      go_wp2_with fail
      clear hw1 hw2 hw3 hw4 hq1 hq2 hcN
      rw [HQN.out]
      refine (rsame_self _ _ M cap (c3 - N) ps w6 HS6.out (HSG.out w6 HQ6.out)).mono ?_
      rintro e7 w7 ⟨rfl, m7, hw7⟩
      have HQ7 : Hid (Past w4 w7) := Lib.hid (by rw [hw7]; exact HQ6.out.drewN m7)
      have HBR7 : Hid (BRow w7 g cap M) := Lib.hid (by rw [hw7]; exact HBR6.out.drewN m7)
      clear hw7 HBR6 HS6
      go_wp2_with fail
      go_loopg [14] M (fun q s14 wx => ∃ i : Nat, i ≤ M ∧ q = M - i ∧ s14 = .int .i64 (i : Int) ∧ Hid (BRow wx g cap M) ∧ Hid (w7.grownBy wx (some g)))
      case atStart => exact ⟨0, Nat.zero_le _, rfl, rfl, HBR7, Lib.hid (World.grownBy.refl _ _)⟩
      case round =>
        obtain ⟨i, hi, hq, rfl, HB, HGR⟩ := hrel
        have HGQ := Lib.hid hq
        clear hq
        have hi0 : (0 : Int) ≤ (i : Int) := by omega
        by_cases hlt : i < M
        · have hii : (i : Int) < (M : Int) := by omega
          have HLT := Lib.hid hlt
          obtain ⟨cur, h1, h2, h3⟩ := HB.out
          obtain ⟨x, hx, x0, x1⟩ := h3 i hlt
          have hcell : wr.cell? ⟨g, i, none⟩ = some (.int .u8 x) := by rw [h1.cell]; exact hx
          have hfr := h1.fr i
          obtain ⟨y, hy⟩ : ∃ y, (x + 1) % 256 = y := ⟨_, rfl⟩
          have hyb : 0 ≤ y ∧ y < 256 := by omega
          have hwy : IntKind.u8.wrap (x + 1) = y := by rw [IntKind.wrap_u8]; exact hy
          have HB2 := Lib.hid (HB.out.set i hlt y hyb)
          have HG2 : Hid (w7.grownBy (wr.setCell ⟨g, i, none⟩ (.int .u8 y)) (some g)) := Lib.hid (only_setCell HGR.out (.inl rfl) _)
          have HIW : Hid (wrap64 ((i : Int) + 1) = ((i + 1 : Nat) : Int)) := Lib.hid (by rw [IntWalk.wrap64_in _ (by have := HMB.out; omega)]; omega)
          clear h1 h2 h3 hlt hi hyb
          go_wp2_with fail
          go_roundg (M - (i + 1))
          case rel => exact ⟨i + 1, HLT.out, rfl, congrArg (Value.int .i64) HIW.out, HB2, HG2⟩
          case measure => have := HGQ.out; have := HLT.out; omega
        · obtain rfl : i = M := by omega
          have hii : ¬ (i : Int) < (i : Int) := by omega
          clear hlt hi
          go_wp2_with fail
          refine (rsame_self _ _ n c4 c3 ss wr (((HS4.out.past HQ7.out).far HGR.out (by have := HB4.out; have := HGB.out; simp; omega))) (((HT4.out.past HQ7.out).far HGR.out (by have := HB3.out; have := HGB.out; simp; omega)))).mono ?_
          rintro e8 w8 ⟨rfl, m8, hw8⟩
          have HP8 : Hid (Past w w8) := Lib.hid (by
            rw [hw8]
            exact Past.drewN (past_of_only (HP4.out.trans' HQ7.out) HGR.out (HP4.out.trans' HQ7.out).size (Nat.le_trans HP4.out.size HGB.out)) m8)
          clear hw8
          go_wp2_with fail
          go_ret
          exact ⟨rfl, HP8.out⟩
    · obtain ⟨R, hR⟩ : ∃ R, chkPriv (f : Int) ss = R := ⟨_, rfl⟩
      have hRz : ¬ R.1 = 0 := by rw [← hR]; exact hz
      have HKQ : Hid (Calls Tryz.prog 17 #[.int .i64 (f : Int), .slice A4 n c4] w4 fun e w' => e = .returned (.tuple #[.slice none 0 0, .bool false]) ∧ Past w4 w') := Lib.hid (by
        refine HKP.out.mono ?_
        rintro e w' ⟨h1, h2⟩
        rw [if_neg hz] at h1
        exact ⟨h1, h2⟩)
      rw [hR] at HRC
      obtain ⟨r1, r2⟩ := R
      unfold resC at HRC
      have hrb : (r1 == 0) = false := by simpa using hRz
      clear hz hR hRz HKP HFB
      go_wp2_with fail
      refine HKQ.out.mono ?_
      rintro e5 w5 ⟨rfl, hp5⟩
      have HQ5 := Lib.hid hp5
      clear hp5 HKQ
      go_wp2_with fail
      refine (HRC.out w5 HQ5.out).mono ?_
      rintro e6 w6 ⟨rfl, hp6⟩
      have HQ6 := Lib.hid (HQ5.out.trans' hp6)
      clear hp6 HRC
      go_wp2_with fail
      go_ret
      exact ⟨rfl, HP4.out.trans' HQ6.out⟩
  · have hmI : ¬ (m : Int) ≤ 20 := by omega
    have hmI2 : 20 < (m : Int) := by omega
    clear hd hs hG hC hdb hsb hml hm
    go_enter Tryz.func4, Tryz.ntmps4
    go_wp2_with fail
    refine (HAW.out w (Below.refl _ _)).mono ?_
    rintro e w1 ⟨rfl, hp1⟩
    have HP1 := Lib.hid hp1
    clear hp1
    go_wp2_with fail
    refine (HAW.out w1 HP1.out).mono ?_
    rintro e w2 ⟨rfl, hp2⟩
    have HP2 := Lib.hid (HP1.out.trans' hp2)
    clear hp2
    go_wp2_with fail
    go_ret
    exact ⟨rfl, HP2.out⟩
def args0 : Array Value := #[.int .u8 0, .int .u32 0, .slice none 0 0]
theorem laid_met (os : Os) : laidMetH Tryz.prog Rows.kcodePublicRow.laid ((laidWorld os).forCall (fun _ _ => 0) ⟨#[], args0, []⟩).memory :=
  laid_world os args0
theorem witness_row (os : Os) {H : Type} (enc : TypeId × Value → H) :
    (OpenSpec.ofChange Rows.kcodePublicSpec).preRow enc Tryz.prog Tryz.f4 Rows.kcodePublicRow.domain false Rows.kcodePublicRow.laid ((laidWorld os).forCall (fun _ _ => 0) ⟨#[], args0, []⟩).memory args0 := by
  have hw : (DataW.whole enc Tryz.prog ((laidWorld os).forCall (fun _ _ => 0) ⟨#[], args0, []⟩).memory Tryz.f4.params.toList (OpenSpec.ofChange Rows.kcodePublicSpec).vars false args0.toList 8).map (fun x => (x.1, x.2.1)) =
      some ([.lit (.int .u8 0), .lit (.int .u32 0), .nil], []) := by kernel_rfl
  obtain ⟨⟨x1, x2, x3⟩, hx, hx1⟩ := Option.map_eq_some_iff.1 hw
  simp only [Prod.mk.injEq] at hx1
  obtain ⟨rfl, rfl⟩ := hx1
  exact OpenSpec.preRow_of_cond 8 hx (by kernel_rfl) (fun k hk => by cases hk) (by kernel_rfl) (laid_met os)

set_option maxRecDepth 100000 in
set_option maxHeartbeats 2000000 in
theorem lifted (os : Os) (started : os.Started) (H : Type) (enc : TypeId × Value → H) (F : Stop.Interp) :
    ReturnsInHanded {} Tryz.checked os 4 .any ((OpenSpec.ofChange Rows.kcodePublicSpec).preRow enc Tryz.prog Tryz.f4 Rows.kcodePublicRow.domain false Rows.kcodePublicRow.laid) (((OpenSpec.ofChange Rows.kcodePublicSpec).at F).post enc Tryz.prog Tryz.f4 false true false false) := by
  refine returnsInHanded_of_row (C := Tryz.checked) (s := OpenSpec.ofChange Rows.kcodePublicSpec) own started (by kernel_rfl) Tryz.func4
    (witness_row_atRef (enc := enc) (C := Tryz.checked) false (laidWorld os) args0 rfl (by kernel_rfl) (by kernel_rfl) (by kernel_rfl) (witness_row os enc)) ?_
  intro W base args ds gs before hval0 hW _ hcnd _ hL hsh _
  have hval : ∀ (j : Nat) t v, Tryz.f4.params[j]? = some t → args[j]? = some v → Value.okWide Tryz.prog W .any base t v := hval0
  have hW' := hW
  obtain ⟨p, q, hA0, hV, rfl, hfz, hnd⟩ := hW
  have hA : DataW.TrodAll enc Tryz.prog W 0 (fun _ => true) true Tryz.f4.params.toList args.toList ds p := hA0
  rw [Tryz.params4] at hA hval
  obtain ⟨v0, vs0, d0, ds0, p0, q0, hargs, rfl, rfl, h0, r0⟩ := trodAll_cons hA
  obtain ⟨v1, vs1, d1, ds1, p1, q1, rfl, rfl, rfl, h1, r1⟩ := trodAll_cons r0
  obtain ⟨v2, vs2, d2, ds2, p2, q2, rfl, rfl, rfl, h2, r2⟩ := trodAll_cons r1
  obtain ⟨rfl, rfl, rfl⟩ := trodAll_nil r2
  obtain rfl : args = #[v0, v1, v2] := by cases args; simp_all
  obtain ⟨rfl, rfl⟩ := trodVars_none hV
  obtain ⟨a0, rfl, rfl, rfl, w0⟩ := open_int Tryz.underlying5 (hval 0 5 v0 rfl rfl) h0
  obtain ⟨a1, rfl, rfl, rfl, w1⟩ := open_int Tryz.underlying22 (hval 1 22 v1 rfl rfl) h1
  have k2 := h2
  have lt2 : ∀ x ∈ p2, x.block < W.heap.size := by obtain ⟨m, hm⟩ := k2; exact DataW.trod_lt m _ _ _ hm
  obtain ⟨fuel2, hf2⟩ := h2
  obtain ⟨a20, len20, cap20, e2⟩ := okWide_slice Tryz.underlying23 (hval 2 23 v2 rfl rfl)
  rw [e2] at hf2
  obtain ⟨a2, len2, cap2, l2, f2, bl2, w2⟩ := chs_of (by simpa [Value.cells] using hf2)
  obtain rfl : v2 = .slice a2 len2 cap2 := e2.trans f2
  have hG := glob_of_row hL hsh
  clear hA0 hval0
  refine (walk a0 a1 a2 len2 cap2 l2 W w0 w1 w2 bl2 hG).mono fun e W' ⟨he, bel⟩ => ?_
  subst he
  exact ⟨_, rfl, _, _, _, [], _, [], hW', trodAll_mk1 (shut_bool Tryz.underlying4 _), (trodAll_cons_mk (shut_int Tryz.underlying5 w0) (trodAll_cons_mk (shut_int Tryz.underlying22 w1) (trodAll_cons_mk (Below.trod laidOut (by kernel_rfl) (of_decide_eq_true (by kernel_rfl)) k2 bel lt2) trodAll_mk0))), rfl, bel.frame _, fun h => by cases h⟩

theorem row_holds : Rows.KcodePublicSaid :=
  OpenClaim.holds_of_cond 4 Tryz.f4 rfl rfl rfl rfl rfl rfl rfl ⟨rfl, rfl, rfl, rfl, rfl⟩ rfl rfl rfl rfl rfl (by kernel_rfl) Tryz.func4 (by kernel_rfl)
    (of_decide_eq_true (by kernel_rfl)) (by unfold Func.isWrapper; first | (rw [if_pos (by decide +kernel)]; kernel_rfl) | (rw [if_neg (by decide +kernel)]; exact ⟨rfl, rfl⟩))
    (fun os started H enc _ F0 => by rw [OpenClaim.pre_eq_preRow]; exact lifted os started H enc F0)

theorem card : Rows.KcodePublicCardSaid :=
  Claim7.holds_tied_plain_at .later [] [.data, .data, .data, .data, .handle, .sentinel, .sentinel, .data, .data, .data, .data, .pinned] true Rows.kcodePublicCard.stood.harness true
    row_holds (fun _ h => by cases h) (by kernel_rfl) (fun _ h => by cases h) kcodePublic_row_tie rfl ⟨rfl, rfl⟩ (by kernel_rfl) rfl
    (fun f fn hf hfn => by
      obtain rfl : f = 4 := Option.some.inj ((show Tryz.prog.funcNamed "pyx/pyxlaw15.KcodePublic" = some 4 by kernel_rfl).symm.trans hf) |>.symm
      obtain rfl : fn = Tryz.f4 := (Option.some.inj (Tryz.func4.symm.trans hfn)).symm
      exact ⟨by kernel_rfl, fun j t ht => by
        rw [Tryz.params4] at ht
        have h3 : t = 5 ∨ t = 22 ∨ t = 23 := by
          rcases j with _ | _ | _ | j
          · exact .inl (by simpa using ht.symm)
          · exact .inr (.inl (by simpa using ht.symm))
          · exact .inr (.inr (by simpa using ht.symm))
          · simp at ht
        rcases h3 with rfl | rfl | rfl
        · exact (show Tryz.prog.wantsStandIn 5 = false by kernel_rfl)
        · exact (show Tryz.prog.wantsStandIn 22 = false by kernel_rfl)
        · exact (show Tryz.prog.wantsStandIn 23 = false by kernel_rfl)⟩)
    (by kernel_rfl)

