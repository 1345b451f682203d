/- The reference's keys are keys; told. The chapter's examples hold of the program's package kcode. -/
import Derived.Test.YthbnaoifiggdnaaGreatDoorQ15H
import Derived.Test.YthbnaoifiggdnaaGreatDoorR15E
namespace Go.Proofs.YthbnaoifiggdnaaGreatDoor
open Go.RowKit
set_option linter.unusedVariables false
set_option maxRecDepth 100000

theorem seg_left (A B : List Int) {m : Nat} (h : A.length = m) : seg (A ++ B) 0 m = A := by
  unfold seg
  rw [List.drop_zero, ← h, List.take_left]
theorem seg_mid (A B C : List Int) {a m : Nat} (ha : A.length = a) (hm : B.length = m) : seg (A ++ B ++ C) a m = B := by
  unfold seg
  rw [List.append_assoc, ← ha, List.drop_left, ← hm, List.take_left]
theorem spB_first (s : Int) (k : Nat) : firstX (spB s k 0) = -1 := firstX_low fun i hi => spB_low s k i (by rw [spB_len] at hi; omega)
theorem chkPub_pub (a : Nat) (s : Int) (ha : 1 ≤ a ∧ a ≤ 3) : chkPub (a : Int) (pubB a s) = (0, 0) := by
  unfold chkPub
  rw [if_neg (show ¬ ((a : Int) < 1 ∨ 3 < (a : Int)) by omega), if_neg (show ¬ ((pubB a s).length : Int) ≠ 384 * ((a : Int) + 1) + 32 by rw [pubB_len]; omega), show (384 * ((a : Int) + 1)).toNat = 3 * (128 * (a + 1)) + 0 by omega]
  have e : seg (pubB a s) 0 (3 * (128 * (a + 1)) + 0) = spB s (128 * (a + 1)) 0 := seg_left _ _ (spB_len _ _ _)
  rw [e, spB_first, if_neg (by decide)]
theorem chkPriv_priv (a : Nat) (s : Int) (ha : 1 ≤ a ∧ a ≤ 3) : chkPriv (a : Int) (privB a s) = (0, 0) := by
  obtain ⟨N, hN⟩ : ∃ N, 384 * (a + 1) = N := ⟨_, rfl⟩
  obtain ⟨P, hP⟩ : ∃ P, N + (N + 32) = P := ⟨_, rfl⟩
  rw [chkPriv_in (N := N) (P := P) (n := P + 64) (by omega) (by omega) hP (by rw [privB_len]; omega), if_neg (by omega)]
  have l1 : (spB (w32 (s + 2)) (128 * (a + 1)) 0).length = N := by rw [spB_len]; omega
  have l2 : (pubB a s).length = N + 32 := by rw [pubB_len]; omega
  have e1 : seg (privB a s) 0 N = spB (w32 (s + 2)) (128 * (a + 1)) 0 := by
    unfold privB
    rw [List.append_assoc, List.append_assoc]
    exact seg_left _ _ l1
  have e2 : seg (privB a s) N (N + 32) = pubB a s := by
    unfold privB
    rw [List.append_assoc]
    exact seg_mid _ _ _ l1 l2
  have e3 : seg (privB a s) N N = spB s (128 * (a + 1)) 0 := by
    have : seg (seg (privB a s) N (N + 32)) 0 N = seg (privB a s) N N := seg_seg _ _ _
    rw [← this, e2]
    exact seg_left _ _ (by rw [spB_len]; omega)
  have e4 : seg (privB a s) P 32 = shaL (pubB a s) := by
    unfold privB
    exact seg_mid _ _ _ (by rw [List.length_append, l1, l2, hP]) (shaL_len _)
  rw [e1, e2, e3, e4, spB_first, spB_first, if_neg (by decide), if_neg (by decide), sameB_refl, if_neg (by decide)]
theorem seg_pub (a : Nat) (s : Int) : seg (privB a s) (nA (a : Int)) (nA (a : Int) + 32) = pubB a s := by
  have hn : nA (a : Int) = 384 * (a + 1) := by unfold nA; omega
  rw [hn]
  unfold privB
  rw [List.append_assoc]
  exact seg_mid _ _ _ (by rw [spB_len]; omega) (by rw [pubB_len])
theorem first_a : firstX [1, 13, 0] = 0 := by decide +kernel
theorem first_b : firstX [0, 208, 0] = -1 := by decide +kernel
/-- An error that a key can have. -/
def ErrOk (R : Int × Int) : Prop := (R.1 = 0 ∧ R.2 = 0) ∨ (R.1 ≠ 0 ∧ 0 ≤ R.2 ∧ R.2 ≤ 1000000)
set_option maxHeartbeats 1000000 in
theorem told_any (R : Int × Int) (w : World) (hR : ErrOk R) (hG : GlobE w) :
    Calls Tryz.prog 12 #[errV R, .agg (resC R)] w fun e w' => e = .returned (.bool true) ∧ Past w w' := by
  obtain ⟨c, a⟩ := R
  obtain ⟨g, hg⟩ : ∃ g, w.heap.size = g := ⟨_, rfl⟩
  obtain ⟨w1, hw1⟩ : ∃ W, w.alloc (.cells (resC (c, a)) 33) = W := ⟨_, rfl⟩
  have hp1 : Past w w1 := by rw [← hw1]; exact (Below.refl _ _).alloc (Nat.le_refl _) _
  have hr1 : Row w1 g 33 (resC (c, a)) := by rw [← hw1, ← hg]; exact Row.new _ _ _
  have HP1 := Lib.hid hp1
  have HR1 := Lib.hid hr1
  have HW1 := Lib.hid hw1
  have HGG := Lib.hid (hG.past hp1)
  rcases hR with ⟨h1, h2⟩ | ⟨h1, h2, h3⟩
  · simp only at h1 h2
    subst h1 h2
    rw [errV_zero]
    have c0 : w1.cell? ⟨g, 0, none⟩ = some (.int .i64 0) := by rw [hr1.cell]; rfl
    clear hw1 hp1 hr1 hG
    go_enter Tryz.func12, Tryz.ntmps12
    go_upto_region 1 with (fail)
    try rw [HW1.out]
    try rw [hg]
    clear HW1 hg
    go_wp2_with fail
    go_ret
    exact ⟨rfl, HP1.out⟩
  · simp only at h1 h2 h3
    have c0 : w1.cell? ⟨g, 0, none⟩ = some (.int .i64 c) := by rw [hr1.cell]; rfl
    have c1 : w1.cell? ⟨g, 1, none⟩ = some (.int .i64 a) := by rw [hr1.cell]; rfl
    have HC := Lib.hid (code_any (.flt c a) w1 trivial HGG.out)
    have HA := Lib.hid (fun w h => at_any (.flt c a) w trivial h)
    have hat : atVal (.flt c a) = .tuple #[.int .i64 a, .bool true] := by
      show Value.tuple #[.int .i64 (wrap64 (a + 0)), .bool true] = _
      rw [Int.add_zero, IntWalk.wrap64_in _ (by omega)]
    rw [hat] at HA
    change Hid (Calls _ _ _ _ fun e w' => e = .returned (.tuple #[.int .i64 c, .bool true]) ∧ _) at HC
    rw [errV_pos h1]
    obtain ⟨V, hV⟩ : ∃ V, (Ch.flt c a).val = V := ⟨_, rfl⟩
    rw [hV] at HC HA ⊢
    have hcc : (c == c) = true := by simp
    have haa : (a == a) = true := by simp
    clear hw1 hp1 hr1 hG hV h2 h3 hat
    go_enter Tryz.func12, Tryz.ntmps12
    go_upto_region 1 with (fail)
    try rw [HW1.out]
    try rw [hg]
    clear HW1 hg
    go_wp2_with fail
    refine HC.out.mono ?_
    rintro e w2 ⟨rfl, hp2⟩
    have HP2 := Lib.hid (HP1.out.trans' hp2)
    have HR2 := Lib.hid (HR1.out.past hp2)
    have HG2 := Lib.hid (HGG.out.past hp2)
    clear hp2 c0 c1
    go_wp2_with fail
    refine (HA.out _ HG2.out).mono ?_
    rintro e w3 ⟨rfl, hp3⟩
    have HP3 := Lib.hid (HP2.out.trans' hp3)
    have d0 : w3.cell? ⟨g, 0, none⟩ = some (.int .i64 c) := by rw [(HR2.out.past hp3).cell]; rfl
    have d1 : w3.cell? ⟨g, 1, none⟩ = some (.int .i64 a) := by rw [(HR2.out.past hp3).cell]; rfl
    clear hp3
    go_wp2_with fail
    go_ret
    exact ⟨rfl, HP3.out⟩
end Go.Proofs.YthbnaoifiggdnaaGreatDoor

namespace Go.Proofs.YthbnaoifiggdnaaGreatDoor
open Go.RowKit
set_option linter.unusedVariables false
set_option maxRecDepth 100000

theorem row3 (w : World) (a b c : Int) (ha : 0 ≤ a ∧ a < 256) (hb : 0 ≤ b ∧ b < 256) (hc : 0 ≤ c ∧ c < 256) : Sl (w.alloc (.cells #[.int .u8 a, .int .u8 b, .int .u8 c] 5)) (some ⟨w.heap.size, 0, none⟩) 3 3 [a, b, c] :=
  Sl.of_own (World.ownsRow_lit w #[.int .u8 a, .int .u8 b, .int .u8 c] 3 (Nat.le_refl _) (by unfold maxLen; omega) rfl) (by
    intro x hx
    simp at hx
    omega)
set_option maxHeartbeats 2000000 in
theorem awake15 (w : World) (hG : Glob15 w) : Calls Tryz.prog 8 #[] w fun e w' => e = .returned (.bool true) ∧ Past w w' := by
  have HG := Lib.hid hG
  have HPR := Lib.hid (fun w => rprivate_any 1 5 w (by decide) (by decide))
  have HK1 := Lib.hid (chkPriv_priv 1 5 (by decide))
  have HKL : Hid ((privB 1 5).length = 1632) := Lib.hid (by rw [privB_len])
  have HK2 : Hid (¬ (chkPriv 2 (privB 1 5)).1 = 0) := Lib.hid (fun h => by
    have := (chkPriv_zero h).2.1
    rw [HKL.out] at this
    omega)
  have HU := Lib.hid (seg_pub 1 5)
  have hn1 : nA ((1 : Nat) : Int) = 768 := rfl
  rw [hn1] at HU
  have HUL : Hid ((pubB 1 5).length = 800) := Lib.hid (by rw [pubB_len])
  have HU1 := Lib.hid (chkPub_pub 1 5 (by decide))
  have HU4 : Hid (chkPub 4 (pubB 1 5) = (8, 0)) := Lib.hid (by unfold chkPub; rw [if_pos (by decide)])
  have HUR := Lib.hid (pubB_rng 1 5)
  change Hid (∀ w, Calls _ _ #[.int .i64 1, .int .u32 5] w _) at HPR
  change Hid (chkPriv 1 (privB 1 5) = _) at HK1
  change Hid (chkPub 1 (pubB 1 5) = _) at HU1
  clear hG hn1
  generalize privB 1 5 = K at *
  generalize pubB 1 5 = U at *
  go_enter Tryz.func8, Tryz.ntmps8
  go_wp2_with fail
  refine (HPR.out w).mono ?_
  rintro e w1 ⟨v, rfl, hown, hrng, hp1⟩
  rw [HKL.out] at hown
  obtain ⟨g1, c1, rfl, _, _, _⟩ := own_some hown (by decide)
  have HS1 := Lib.hid (Sl.of_own hown hrng)
  have HP1 := Lib.hid hp1
  clear hown hrng hp1
  have HPU := Lib.hid (fun a w' (h : Past w1 w') => kpublic_any a _ 1632 c1 K w' (HS1.out.past h) (by decide) (HG.out.past (HP1.out.trans' h)))
  have HCK := Lib.hid (fun w' (h : Past w1 w') => kcheckPrivate_any 1 _ 1632 c1 K w' (HS1.out.past h) (by decide) (HG.out.past (HP1.out.trans' h)))
  rw [HK1.out] at HCK
  go_wp2_with fail
  refine (HPU.out 1 w1 (Below.refl _ _)).mono ?_
  intro e w2 h
  unfold PubQ at h
  rw [HK1.out, if_pos rfl] at h
  obtain ⟨⟨v2, rfl, hown⟩, hp2⟩ := h
  change w2.ownsRow w1.heap.size 5 1 v2 800 ((seg K 768 800).map (Value.int .u8)) at hown
  rw [HU.out] at hown
  obtain ⟨g2, c2, rfl, _, _, _⟩ := own_some hown (by decide)
  have HS2 := Lib.hid (Sl.of_own hown HUR.out)
  have HP2 := Lib.hid hp2
  clear hown hp2
  have HCP := Lib.hid (fun a w' (h : Past w2 w') => kcheckPublic_any a _ 800 c2 U w' (HS2.out.past h) (by decide) (HG.out.past ((HP1.out.trans' HP2.out).trans' h)).1)
  go_wp2_with fail
  refine (HPU.out 2 w2 HP2.out).mono ?_
  intro e w3 h
  unfold PubQ at h
  rw [if_neg HK2.out] at h
  obtain ⟨rfl, hp3⟩ := h
  have HP3 := Lib.hid (HP2.out.trans' hp3)
  have HP3b := Lib.hid hp3
  clear hp3
  have HTO := Lib.hid (fun w (h : GlobE w) => told_any (8, 0) w (.inr ⟨by decide, by decide, by decide⟩) h)
  have HBY := Lib.hid (fun w => kbytes_any (fun _ => 0) (fun _ => ⟨Int.le_refl _, show (0 : Int) < 65536 by decide⟩) w)
  have HZP := Lib.hid zeroP
  obtain ⟨cz, hcz⟩ : ∃ x, arr .u16 256 (fun _ => (0 : Int)) = x := ⟨_, rfl⟩
  rw [hcz] at HBY HZP
  clear hcz
  go_upto_region 4 with (fail)
  go_wp2_with fail
  obtain ⟨u, hu⟩ : ∃ u, w3.heap.size = u := ⟨_, rfl⟩
  have hs4 := row3 w3 1 13 0 (by decide) (by decide) (by decide)
  obtain ⟨w4, hw4⟩ : ∃ W, w3.alloc (.cells #[.int .u8 1, .int .u8 13, .int .u8 0] 5) = W := ⟨_, rfl⟩
  have HP4 : Hid (Past w1 w4) := Lib.hid (by rw [← hw4]; exact HP3.out.trans' ((Below.refl _ _).alloc (Nat.le_refl _) _))
  have HP4b : Hid (Past w2 w4) := Lib.hid (by rw [← hw4]; exact HP3b.out.trans' ((Below.refl _ _).alloc (Nat.le_refl _) _))
  rw [hu, hw4] at hs4
  rw [hu, hw4]
  have HF4 := Lib.hid (pfirst_any _ 3 3 _ w4 hs4 (by decide))
  rw [first_a] at HF4
  clear hu hw4 hs4
  refine HF4.out.mono ?_
  rintro e w5 ⟨rfl, hp5⟩
  have HP5 := Lib.hid (HP4.out.trans' hp5)
  have HP5b := Lib.hid (HP4b.out.trans' hp5)
  clear hp5
  go_wp2_with fail
  obtain ⟨u, hu⟩ : ∃ u, w5.heap.size = u := ⟨_, rfl⟩
  have hs4 := row3 w5 0 208 0 (by decide) (by decide) (by decide)
  obtain ⟨w6, hw4⟩ : ∃ W, w5.alloc (.cells #[.int .u8 0, .int .u8 208, .int .u8 0] 5) = W := ⟨_, rfl⟩
  have HP6 : Hid (Past w1 w6) := Lib.hid (by rw [← hw4]; exact HP5.out.trans' ((Below.refl _ _).alloc (Nat.le_refl _) _))
  have HP6b : Hid (Past w2 w6) := Lib.hid (by rw [← hw4]; exact HP5b.out.trans' ((Below.refl _ _).alloc (Nat.le_refl _) _))
  rw [hu, hw4] at hs4
  rw [hu, hw4]
  have HF6 := Lib.hid (pfirst_any _ 3 3 _ w6 hs4 (by decide))
  rw [first_b] at HF6
  clear hu hw4 hs4
  refine HF6.out.mono ?_
  rintro e w7 ⟨rfl, hp7⟩
  have HP7 := Lib.hid (HP6.out.trans' hp7)
  have HP7b := Lib.hid (HP6b.out.trans' hp7)
  clear hp7
  go_wp2_with fail
  refine (HCK.out w7 HP7.out).mono ?_
  rintro e w8 ⟨rfl, hp8⟩
  have HP8 := Lib.hid (HP7.out.trans' hp8)
  have HP8b := Lib.hid (HP7b.out.trans' hp8)
  rw [errV_zero]
  clear hp8
  go_wp2_with fail
  have HC9 := Lib.hid (HCP.out 1 w8 HP8b.out)
  rw [HU1.out, errV_zero] at HC9
  refine HC9.out.mono ?_
  rintro e w9 ⟨rfl, hp9⟩
  have HP9 := Lib.hid (HP8.out.trans' hp9)
  have HP9b := Lib.hid (HP8b.out.trans' hp9)
  clear hp9
  go_wp2_with fail
  have HC10 := Lib.hid (HCP.out 4 w9 HP9b.out)
  rw [HU4.out] at HC10
  refine HC10.out.mono ?_
  rintro e w10 ⟨rfl, hp10⟩
  have HP10 := Lib.hid (HP9.out.trans' hp10)
  have HT10 := Lib.hid (HTO.out w10 (HG.out.past (HP1.out.trans' (HP9.out.trans' hp10))).2)
  clear hp10
  obtain ⟨V, hV⟩ : ∃ V, errV (8, 0) = V := ⟨_, rfl⟩
  rw [hV] at HT10 ⊢
  change Hid (Calls _ _ #[V, .agg #[.int .i64 8, .int .i64 0]] _ _) at HT10
  clear hV
  go_wp2_with fail
  refine HT10.out.mono ?_
  rintro e w11 ⟨rfl, hp11⟩
  have HP11 := Lib.hid (HP10.out.trans' hp11)
  clear hp11
  have hz := HZP.out
  go_wp2_with fail
  refine (HBY.out w11).mono ?_
  rintro e w12 ⟨A, n, c, rfl, hS12, hp12⟩
  obtain rfl : n = 384 := by rw [← hS12.len, bytesL_len]
  have HP12 := Lib.hid (HP11.out.trans' hp12)
  clear hS12 hp12 hz
  go_wp2_with fail
  go_ret
  exact ⟨rfl, HP1.out.trans' HP12.out⟩
end Go.Proofs.YthbnaoifiggdnaaGreatDoor
