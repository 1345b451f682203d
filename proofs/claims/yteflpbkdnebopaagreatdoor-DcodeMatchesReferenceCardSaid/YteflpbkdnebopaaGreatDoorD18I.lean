/- The program's Split. -/
import Derived.Test.YteflpbkdnebopaaGreatDoorD18H
import Derived.Test.YteflpbkdnebopaaGreatDoorR18A
import Derived.Laws.EntriesVeiled
import Derived.Deep.Cut
namespace Go.Proofs.YteflpbkdnebopaaGreatDoor
open Go.RowKit
set_option linter.unusedVariables false
set_option maxRecDepth 100000

theorem pvec_any (a : Int) (w : World) : Calls Tryz.prog 10 #[.int .i64 a] w fun e w' => e = .returned (.tuple #[.int .i64 (kD a : Int), .int .i64 (lD a : Int), .int .i64 (eD a : Int), .bool (decide (4 ≤ a ∧ a ≤ 6))]) ∧ w' = w := by
  by_cases h : a = 4 ∨ a = 5 ∨ a = 6
  · rcases h with rfl | rfl | rfl
    all_goals
      go_enter Tryz.func10, Tryz.ntmps10
      go_wp2_with fail
      go_returns
      exact ⟨rfl, rfl⟩
  · have h1 : (a == 4) = false := by simp; omega
    have h2 : (a == 5) = false := by simp; omega
    have h3 : (a == 6) = false := by simp; omega
    have hk : kD a = 0 := (by unfold kD; rw [if_neg (by omega), if_neg (by omega), if_neg (by omega)])
    have hl : lD a = 0 := by unfold lD; rw [if_neg (by omega), if_neg (by omega), if_neg (by omega)]
    have he : eD a = 0 := by unfold eD; rw [if_neg (by omega), if_neg (by omega), if_neg (by omega)]
    have hd : decide (4 ≤ a ∧ a ≤ 6) = false := decide_eq_false (by omega)
    rw [hk, hl, he, hd]
    clear hk hl he hd h
    go_enter Tryz.func10, Tryz.ntmps10
    go_wp2_with fail
    go_returns
    exact ⟨rfl, rfl⟩
/-- What Split returns. -/
def SplR (a : Int) (xs : List Int) (w : World) (e : Ending) (w' : World) : Prop :=
  Past w w' ∧ ((chkD a xs ≠ (0, 0) ∧ e = .returned (.tuple #[.agg privZ, errV (chkD a xs)])) ∨
    (chkD a xs = (0, 0) ∧ ∃ (g1 d1 g2 d2 g3 d3 p1 p2 p3 : Nat) (c1 c2 c3 : Array Value),
      e = .returned (.tuple #[.agg #[.slice (some ⟨g1, 0, none⟩) 32 d1, .slice (some ⟨g2, 0, none⟩) 32 d2, .slice (some ⟨g3, 0, none⟩) 64 d3, .slice (some ⟨p1, 0, none⟩) (lD a) (lD a), .slice (some ⟨p2, 0, none⟩) (kD a) (kD a), .slice (some ⟨p3, 0, none⟩) (kD a) (kD a)], .nilIface]) ∧
      Sl w' (some ⟨g1, 0, none⟩) 32 d1 (seg xs 0 32) ∧ Sl w' (some ⟨g2, 0, none⟩) 32 d2 (seg xs 32 32) ∧ Sl w' (some ⟨g3, 0, none⟩) 64 d3 (seg xs 64 64) ∧
      Row w' p1 57 c1 ∧ Row w' p2 57 c2 ∧ Row w' p3 57 c3 ∧
      (∀ i, i < lD a → PlyAt c1 i (plyD (wD a) (eD a) (seg xs (128 + i * zD a) (zD a)))) ∧
      (∀ i, i < kD a → PlyAt c2 i (plyD (wD a) (eD a) (seg xs (128 + (lD a + i) * zD a) (zD a)))) ∧
      (∀ i, i < kD a → PlyAt c3 i (plyD 13 4096 (seg xs (128 + (lD a + kD a) * zD a + i * 416) 416)))))
theorem load_prv (w : World) (g : Nat) (cs : Array Value) (hg : w.heap[g]? = some (.cells cs 42)) (h : cs.size = 6) : (loadVar 42 ⟨g, 0, none⟩).run Tryz.prog w = .ok (.agg cs) w :=
  run_loadVar_row w g 42 42 cs (0, 0) _ hg Tryz.underlying42 rfl (infV cs h)
theorem seg_ext (xs : List Int) {a b m : Nat} (h : a = b) : seg xs a m = seg xs b m := by rw [h]
set_option maxHeartbeats 4000000 in
theorem psplit_any (a : Int) (A : Option Addr) (n c : Nat) (xs : List Int) (w : World) (hS : Sl w A n c xs) (hn : n ≤ 10000) (hG : Glob13 w) :
    Calls Tryz.prog 16 #[.int .i64 a, .slice A n c] w (SplR a xs w) := by
  obtain ⟨hk, hhk⟩ : ∃ g, w.heap.size = g := ⟨_, rfl⟩
  obtain ⟨w1, hw1⟩ : ∃ W, (w.alloc (.cells #[.slice A n c] 25)).alloc (.cells privZ 42) = W := ⟨_, rfl⟩
  have hp1 : Past w w1 := by rw [← hw1]; exact ((Below.refl _ _).alloc (Nat.le_refl _) _).alloc (by simp) _
  have hk1 : Row w1 hk 25 #[.slice A n c] := by rw [← hw1, ← hhk]; exact (Row.new _ _ _).alloc _
  have HR1 : Hid (Row w1 (hk + 1) 42 privZ) := Lib.hid (by
    rw [← hw1, ← hhk]
    have := Row.new (w.alloc (.cells #[.slice A n c] 25)) 42 privZ
    simpa using this)
  have HP1 := Lib.hid hp1
  have HK1 := Lib.hid hk1
  have HW1 := Lib.hid hw1
  have HCK := Lib.hid (checkSize_any a A n c hn 33 (fun r => r.priv) (enters_of Tryz.func33 (by kernel_rfl) rfl) (fun r v w => privOf_any r v w) w1 (hG.past hp1))
  have HGS : Hid (w.heap.size ≤ hk) := Lib.hid (by omega)
  have k1 := hk1.cell 0
  simp only [List.getElem?_toArray, List.getElem?_cons_zero] at k1
  have hl := hS.len
  obtain ⟨R, hR⟩ : ∃ R, szE a n ((fun r : R13 => r.priv) (row13 a)) = R := ⟨_, rfl⟩
  rw [hR] at HCK
  by_cases hR0 : R = (0, 0)
  · have ha : a = 4 ∨ a = 5 ∨ a = 6 := by
      have h : ¬ (a < 4 ∨ 6 < a) := fun h => by
        unfold szE at hR
        rw [if_pos h, hR0] at hR
        cases hR
      omega
    have hnz : n = sD a := by
      unfold szE at hR
      rw [if_neg (by omega), hR0] at hR
      by_cases h : (n : Int) ≠ (row13 a).priv
      · rw [if_pos h] at hR
        cases hR
      · rw [(dsa_sizes ha).2] at h
        omega
    rw [hR0, errV_zero] at HCK
    have hna : n = sD a := hnz
    have hsz : sD a = 128 + zD a * (kD a + lD a) + 416 * kD a := rfl
    have hwd := wD_le a
    have hkd := kD_le a
    have hld := lD_le a
    have hzw : zD a = 32 * wD a := rfl
    obtain ⟨b, o, rfl, _⟩ := hS.bytes (by omega)
    have HA := Lib.hid ha
    have hcap := hS.cap
    have HVC := Lib.hid (fun w => pvec_any a w)
    rw [decide_eq_true (show 4 ≤ a ∧ a ≤ 6 by omega)] at HVC
    have HPS := Lib.hid (fun w => packS_any a ha w)
    have HPT0 := Lib.hid packT0_any
    have HSS0 := Lib.hid (fun w' (h : Past w w') => hS.past h)
    have hlt := hS.len
    have hbw : b < w.heap.size := by
      obtain ⟨b', o', e, hc⟩ := hS.bytes (by omega)
      simp only [Option.some.injEq, Addr.mk.injEq, and_true] at e
      obtain ⟨rfl, rfl⟩ := e
      exact cell_lt (hc 0 (by omega))
    have HBW := Lib.hid hbw
    have HNN := Lib.hid (And.intro hn (And.intro hcap (And.intro hna hlt)))
    have HZZ := Lib.hid (And.intro hsz (And.intro hwd (And.intro hkd (And.intro hld hzw))))
    have HE2 := Lib.hid (eD_two ha)
    clear hS hn hG hw1 hp1 hk1 hl hR hR0 hnz hna hsz hwd hkd hld hzw hcap hlt hbw
    go_enter Tryz.func16, Tryz.ntmps16
    go_upto_region 1 with (fail)
    rw [HW1.out]
    try rw [hhk]
    go_wp2_with fail
    refine HCK.out.mono ?_
    rintro e w2 ⟨rfl, hp2⟩
    have HP2 := Lib.hid hp2
    have HK2 := Lib.hid (HK1.out.past hp2)
    have HR2 := Lib.hid (HR1.out.past hp2)
    obtain ⟨ha, hha⟩ : ∃ u, w2.heap.size = u := ⟨_, rfl⟩
    obtain ⟨w5, hw5⟩ : ∃ W, (w2.alloc (.cells #[.int .i64 0] 3)).alloc (.cells #[(.func (.func 34) #[] #[.pointer (some ⟨hk, 0, none⟩), .pointer (some ⟨ha, 0, none⟩)])] 83) = W := ⟨_, rfl⟩
    have hp25 : Past w2 w5 := by rw [← hw5]; exact ((Below.refl _ _).alloc (Nat.le_refl _) _).alloc (by simp) _
    have HA5 : Hid (Row w5 ha 3 #[.int .i64 0]) := Lib.hid (by rw [← hw5, ← hha]; exact (Row.new _ _ _).alloc _)
    have HT5 : Hid (Row w5 (ha + 1) 83 #[(.func (.func 34) #[] #[.pointer (some ⟨hk, 0, none⟩), .pointer (some ⟨ha, 0, none⟩)])]) := Lib.hid (by
      rw [← hw5, ← hha]
      have := Row.new (w2.alloc (.cells #[.int .i64 0] 3)) 83 #[.func (.func 34) #[] #[.pointer (some ⟨hk, 0, none⟩), .pointer (some ⟨w2.heap.size, 0, none⟩)]]
      simpa using this)
    have HP5 : Hid (Past w w5) := Lib.hid ((HP1.out.trans' HP2.out).trans' hp25)
    have HK5 : Hid (Row w5 hk 25 #[.slice (some ⟨b, o, none⟩) n c] ∧ hk ≠ ha ∧ b ≠ ha ∧ hk + 1 ≠ ha) := Lib.hid ⟨HK2.out.past hp25, by have := HK2.out.lt; omega, by have := HBW.out; have := HK2.out.lt; have := HGS.out; omega, by have := HR2.out.lt; omega⟩
    have HR5 := Lib.hid (HR2.out.past hp25)
    have HS5 := Lib.hid (HSS0.out w5 HP5.out)
    have HW5 := Lib.hid hw5
    have HHA := Lib.hid hha
    have HBA : Hid (w.heap.size ≤ ha) := Lib.hid (by rw [← hha]; exact (HP1.out.trans' HP2.out).size)
    have HSS : Hid (∀ W, w5.grownBy W (some ha) → True ∧ W.cell? ⟨ha + 1, 0, none⟩ = some (.func (.func 34) #[] #[.pointer (some ⟨hk, 0, none⟩), .pointer (some ⟨ha, 0, none⟩)])) := Lib.hid (fun W h => ⟨trivial, by rw [(HT5.out.grown h (by simp)).cell]; rfl⟩)
    have HEN : Hid (∀ args w, (callFunc 34 args).run Tryz.prog w = .ok (.enter 34 args) w) := Lib.hid (enters_of Tryz.func34 (by kernel_rfl) rfl)
    have HEN3 : Hid (∀ args w, (callFunc 35 args).run Tryz.prog w = .ok (.enter 35 args) w) := Lib.hid (enters_of Tryz.func35 (by kernel_rfl) rfl)
    have hn := HNN.out.1
    have hcap := HNN.out.2.1
    have hn128 : 128 ≤ n := by
      have h1 := HNN.out.2.2.1
      have h2 := HZZ.out.1
      omega
    have hsg : ∀ W, w5.grownBy W (some ha) → Sl W (some ⟨b, o, none⟩) n c xs := fun W h => HS5.out.far h (by simpa using HK5.out.2.2.1)
    have hkg : ∀ W, w5.grownBy W (some ha) → Row W hk 25 #[.slice (some ⟨b, o, none⟩) n c] := fun W h => HK5.out.1.grown h (by simpa using HK5.out.2.1)
    have HT1 : Hid (∀ W, w5.grownBy W (some ha) → Row W ha 3 #[.int .i64 0] → Calls Tryz.prog 34 #[.int .i64 32, .pointer (some ⟨hk, 0, none⟩), .pointer (some ⟨ha, 0, none⟩)] W fun e w' => e = .returned (.slice (some ⟨b, o, none⟩) 32 c) ∧ w' = W.setCell ⟨ha, 0, none⟩ (.int .i64 32)) := Lib.hid (fun W h h2 => take_any hk ha b o n c 0 32 32 W (hkg W h) h2 rfl (by omega) hcap (by decide) hn)
    have HT2 : Hid (∀ W, w5.grownBy W (some ha) → Row W ha 3 #[.int .i64 32] → Calls Tryz.prog 34 #[.int .i64 32, .pointer (some ⟨hk, 0, none⟩), .pointer (some ⟨ha, 0, none⟩)] W fun e w' => e = .returned (.slice (some ⟨b, o + 32, none⟩) 32 (c - 32)) ∧ w' = W.setCell ⟨ha, 0, none⟩ (.int .i64 64)) := Lib.hid (fun W h h2 => take_any hk ha b o n c 32 64 32 W (hkg W h) h2 rfl (by omega) hcap (by decide) hn)
    have HT3 : Hid (∀ W, w5.grownBy W (some ha) → Row W ha 3 #[.int .i64 64] → Calls Tryz.prog 34 #[.int .i64 64, .pointer (some ⟨hk, 0, none⟩), .pointer (some ⟨ha, 0, none⟩)] W fun e w' => e = .returned (.slice (some ⟨b, o + 64, none⟩) 64 (c - 64)) ∧ w' = W.setCell ⟨ha, 0, none⟩ (.int .i64 128)) := Lib.hid (fun W h h2 => take_any hk ha b o n c 64 128 64 W (hkg W h) h2 rfl (by omega) hcap (by decide) hn)
    have HC1 : Hid (∀ W, w5.grownBy W (some ha) → Calls Tryz.prog 40 #[.slice (some ⟨b, o, none⟩) 32 c] W fun e w' => ∃ g d, e = .returned (.slice (some ⟨g, 0, none⟩) 32 d) ∧ Sl w' (some ⟨g, 0, none⟩) 32 d (seg xs 0 32) ∧ W.heap.size ≤ g ∧ Past W w') := Lib.hid (fun W h => clone_any b o 0 n 32 c (seg xs 0 32) W ((hsg W h).at2 (L := 0) (H := 32) (m := 32) rfl (by omega) (by omega)) (by decide) (by decide))
    have HC2 : Hid (∀ W, w5.grownBy W (some ha) → Calls Tryz.prog 40 #[.slice (some ⟨b, o + 32, none⟩) 32 (c - 32)] W fun e w' => ∃ g d, e = .returned (.slice (some ⟨g, 0, none⟩) 32 d) ∧ Sl w' (some ⟨g, 0, none⟩) 32 d (seg xs 32 32) ∧ W.heap.size ≤ g ∧ Past W w') := Lib.hid (fun W h => clone_any b o 32 n 32 (c - 32) (seg xs 32 32) W ((hsg W h).at2 (L := 32) (H := 64) (m := 32) rfl (by omega) (by omega)) (by decide) (by decide))
    have HC3 : Hid (∀ W, w5.grownBy W (some ha) → Calls Tryz.prog 40 #[.slice (some ⟨b, o + 64, none⟩) 64 (c - 64)] W fun e w' => ∃ g d, e = .returned (.slice (some ⟨g, 0, none⟩) 64 d) ∧ Sl w' (some ⟨g, 0, none⟩) 64 d (seg xs 64 64) ∧ W.heap.size ≤ g ∧ Past W w') := Lib.hid (fun W h => clone_any b o 64 n 64 (c - 64) (seg xs 64 64) W ((hsg W h).at2 (L := 64) (H := 128) (m := 64) rfl (by omega) (by omega)) (by decide) (by decide))
    have HNX : Hid (∀ W hh (top : Int) (D : Nat), w5.grownBy W (some ha) → Row W hh 85 (pkV top (D : Int)) → hh ≠ ha → NxP W hk ha (ha + 1) hh b o n c xs top D) := Lib.hid (fun W hh top D h hr hne => ⟨hkg W h, HT5.out.grown h (by simp), hr, hsg W h, HK5.out.2.1, by omega, hne, HK5.out.2.2.1⟩)
    clear k1 hp2 HCK HK1 HR1 HW1 hw5 hha hp25 hn hcap hn128 hsg hkg HK2 HR2 HT5
    go_upto_region 8 with (fail)
    rw [HHA.out, HW5.out]
    go_wp2_with fail
    refine (HVC.out _).mono ?_
    rintro e w5b ⟨rfl, hwb⟩
    rw [hwb]
    clear hwb HVC HW5 HHA
    go_upto_region 9 with (fail)
    go_cut [15] from 32 to 41 (fun s15 wx => ∃ u g1 d1 g2 d2 g3 d3 : Nat, s15 = .pointer (some ⟨u, 0, none⟩) ∧ Hid (PrtP w5 wx ha u xs g1 d1 g2 d2 g3 d3))
    case first =>
      obtain ⟨w6, hw6⟩ : ∃ W, W = w5.drew := ⟨_, rfl⟩
      have HN6 : Hid (w5.grownBy w6 (some ha) ∧ Row w6 ha 3 #[.int .i64 0]) := Lib.hid (by rw [hw6]; exact ⟨only_drewN (World.grownBy.refl w5 _) 1, HA5.out.drewN 1⟩)
      refine wp_region_held_drew (S := fun W => True ∧ W.cell? ⟨ha + 1, 0, none⟩ = some (.func (.func 34) #[] #[.pointer (some ⟨hk, 0, none⟩), .pointer (some ⟨ha, 0, none⟩)])) (by kernel_rfl) (by rw [← hw6]; exact HSS.out _ HN6.out.1) (fun hH => ?_)
      change wpAnyH _ _ _ _ _ _ _ _ (World.drew _)
      rw [← hw6]
      clear hH hw6
      have hH := HSS.out _ HN6.out.1
      refine held_take 0 32 (v := (.func (.func 34) #[] #[.pointer (some ⟨hk, 0, none⟩), .pointer (some ⟨ha, 0, none⟩)])) rfl rfl (by kernel_rfl) (by kernel_rfl) (by kernel_rfl) (fun _ _ _ h => h) (Or.inl ⟨by kernel_rfl, fun w hSw => by
        have hcell := hSw.2
        go_simp⟩) hH ?_
      (try simp only [List.setIfInBounds_toArray, List.set_cons_zero, List.set_cons_succ])
      refine held_take 3 35 (v := (.func (.func 34) #[] #[.pointer (some ⟨hk, 0, none⟩), .pointer (some ⟨ha, 0, none⟩)])) rfl rfl (by kernel_rfl) (by kernel_rfl) (by kernel_rfl) (fun _ _ _ h => h) (Or.inl ⟨by kernel_rfl, fun w hSw => by
        have hcell := hSw.2
        go_simp⟩) hH ?_
      (try simp only [List.setIfInBounds_toArray, List.set_cons_zero, List.set_cons_succ])
      refine held_take 6 38 (v := (.func (.func 34) #[] #[.pointer (some ⟨hk, 0, none⟩), .pointer (some ⟨ha, 0, none⟩)])) rfl rfl (by kernel_rfl) (by kernel_rfl) (by kernel_rfl) (fun _ _ _ h => h) (Or.inl ⟨by kernel_rfl, fun w hSw => by
        have hcell := hSw.2
        go_simp⟩) hH ?_
      (try simp only [List.setIfInBounds_toArray, List.set_cons_zero, List.set_cons_succ])
      refine wpAnyH_ready (rs := [1, 10]) (by kernel_rfl) (by simp) ?_
      refine AllReadyH.cons (by simp only [List.getElem?_toArray, List.getElem?_cons_succ, List.getElem?_cons_zero]; rfl) (fun K hK => ?_) (AllReadyH.cons (by simp only [List.getElem?_toArray, List.getElem?_cons_succ, List.getElem?_cons_zero]; rfl) (fun K hK => ?_) AllReadyH.nil)
      · go_simp
        have hen := HEN.out
        go_simp
        refine (HT1.out _ HN6.out.1 HN6.out.2).mono ?_
        rintro e1 wc1 ⟨rfl, hw⟩
        clear hen
        have HNc1 : Hid (w5.grownBy wc1 (some ha) ∧ Row wc1 ha 3 #[.int .i64 32]) := Lib.hid (by rw [hw]; exact ⟨only_setCell HN6.out.1 (.inl rfl) _, Row.set HN6.out.2 0 _⟩)
        clear hw
        refine hK.out _ _ (HSS.out _ HNc1.out.1) (fun hH => ?_)
        clear hK K
        (try dsimp only [Act.put])
        (try simp only [List.setIfInBounds_toArray, List.set_cons_zero, List.set_cons_succ])
        refine wpAnyH_ready (rs := [2, 10]) (by kernel_rfl) (by simp) ?_
        refine AllReadyH.cons (by simp only [List.getElem?_toArray, List.getElem?_cons_succ, List.getElem?_cons_zero]; rfl) (fun K hK => ?_) (AllReadyH.cons (by simp only [List.getElem?_toArray, List.getElem?_cons_succ, List.getElem?_cons_zero]; rfl) (fun K hK => ?_) AllReadyH.nil)
        · go_simp
          refine (HC1.out _ HNc1.out.1).mono ?_
          rintro e2 wc2 ⟨g1, d1, rfl, hs, hgs, hp⟩
          have HNc2 : Hid (w5.grownBy wc2 (some ha) ∧ Row wc2 ha 3 #[.int .i64 32]) := Lib.hid (⟨only_trans HNc1.out.1 (only_of_past hp _), HNc1.out.2.past hp⟩)
          have HS1_2 : Hid (Sl wc2 (some ⟨g1, 0, none⟩) 32 d1 (seg xs 0 32) ∧ g1 ≠ ha ∧ w5.heap.size ≤ g1) := Lib.hid ⟨hs, by have := HNc1.out.2.lt; omega, Nat.le_trans HNc1.out.1.size hgs⟩
          clear hs hgs hp
          refine hK.out _ _ (HSS.out _ HNc2.out.1) (fun hH => ?_)
          clear hK K
          (try dsimp only [Act.put])
          (try simp only [List.setIfInBounds_toArray, List.set_cons_zero, List.set_cons_succ])
          refine wpAnyH_ready (rs := [4, 10]) (by kernel_rfl) (by simp) ?_
          refine AllReadyH.cons (by simp only [List.getElem?_toArray, List.getElem?_cons_succ, List.getElem?_cons_zero]; rfl) (fun K hK => ?_) (AllReadyH.cons (by simp only [List.getElem?_toArray, List.getElem?_cons_succ, List.getElem?_cons_zero]; rfl) (fun K hK => ?_) AllReadyH.nil)
          · go_simp
            have hen := HEN.out
            go_simp
            refine (HT2.out _ HNc2.out.1 HNc2.out.2).mono ?_
            rintro e3 wc3 ⟨rfl, hw⟩
            clear hen
            have HNc3 : Hid (w5.grownBy wc3 (some ha) ∧ Row wc3 ha 3 #[.int .i64 64]) := Lib.hid (by rw [hw]; exact ⟨only_setCell HNc2.out.1 (.inl rfl) _, Row.set HNc2.out.2 0 _⟩)
            have HS1_3 : Hid (Sl wc3 (some ⟨g1, 0, none⟩) 32 d1 (seg xs 0 32) ∧ g1 ≠ ha ∧ w5.heap.size ≤ g1) := Lib.hid ⟨by rw [hw]; exact HS1_2.out.1.setCell (HNc2.out.2.cell 0) (fun x e => by cases e), HS1_2.out.2⟩
            clear hw
            refine hK.out _ _ (HSS.out _ HNc3.out.1) (fun hH => ?_)
            clear hK K
            (try dsimp only [Act.put])
            (try simp only [List.setIfInBounds_toArray, List.set_cons_zero, List.set_cons_succ])
            refine wpAnyH_ready (rs := [5, 10]) (by kernel_rfl) (by simp) ?_
            refine AllReadyH.cons (by simp only [List.getElem?_toArray, List.getElem?_cons_succ, List.getElem?_cons_zero]; rfl) (fun K hK => ?_) (AllReadyH.cons (by simp only [List.getElem?_toArray, List.getElem?_cons_succ, List.getElem?_cons_zero]; rfl) (fun K hK => ?_) AllReadyH.nil)
            · go_simp
              refine (HC2.out _ HNc3.out.1).mono ?_
              rintro e4 wc4 ⟨g2, d2, rfl, hs, hgs, hp⟩
              have HNc4 : Hid (w5.grownBy wc4 (some ha) ∧ Row wc4 ha 3 #[.int .i64 64]) := Lib.hid (⟨only_trans HNc3.out.1 (only_of_past hp _), HNc3.out.2.past hp⟩)
              have HS1_4 : Hid (Sl wc4 (some ⟨g1, 0, none⟩) 32 d1 (seg xs 0 32) ∧ g1 ≠ ha ∧ w5.heap.size ≤ g1) := Lib.hid ⟨HS1_3.out.1.past hp, HS1_3.out.2⟩
              have HS2_4 : Hid (Sl wc4 (some ⟨g2, 0, none⟩) 32 d2 (seg xs 32 32) ∧ g2 ≠ ha ∧ w5.heap.size ≤ g2) := Lib.hid ⟨hs, by have := HNc3.out.2.lt; omega, Nat.le_trans HNc3.out.1.size hgs⟩
              clear hs hgs hp
              refine hK.out _ _ (HSS.out _ HNc4.out.1) (fun hH => ?_)
              clear hK K
              (try dsimp only [Act.put])
              (try simp only [List.setIfInBounds_toArray, List.set_cons_zero, List.set_cons_succ])
              refine wpAnyH_ready (rs := [7, 10]) (by kernel_rfl) (by simp) ?_
              refine AllReadyH.cons (by simp only [List.getElem?_toArray, List.getElem?_cons_succ, List.getElem?_cons_zero]; rfl) (fun K hK => ?_) (AllReadyH.cons (by simp only [List.getElem?_toArray, List.getElem?_cons_succ, List.getElem?_cons_zero]; rfl) (fun K hK => ?_) AllReadyH.nil)
              · go_simp
                have hen := HEN.out
                go_simp
                refine (HT3.out _ HNc4.out.1 HNc4.out.2).mono ?_
                rintro e5 wc5 ⟨rfl, hw⟩
                clear hen
                have HNc5 : Hid (w5.grownBy wc5 (some ha) ∧ Row wc5 ha 3 #[.int .i64 128]) := Lib.hid (by rw [hw]; exact ⟨only_setCell HNc4.out.1 (.inl rfl) _, Row.set HNc4.out.2 0 _⟩)
                have HS1_5 : Hid (Sl wc5 (some ⟨g1, 0, none⟩) 32 d1 (seg xs 0 32) ∧ g1 ≠ ha ∧ w5.heap.size ≤ g1) := Lib.hid ⟨by rw [hw]; exact HS1_4.out.1.setCell (HNc4.out.2.cell 0) (fun x e => by cases e), HS1_4.out.2⟩
                have HS2_5 : Hid (Sl wc5 (some ⟨g2, 0, none⟩) 32 d2 (seg xs 32 32) ∧ g2 ≠ ha ∧ w5.heap.size ≤ g2) := Lib.hid ⟨by rw [hw]; exact HS2_4.out.1.setCell (HNc4.out.2.cell 0) (fun x e => by cases e), HS2_4.out.2⟩
                clear hw
                refine hK.out _ _ (HSS.out _ HNc5.out.1) (fun hH => ?_)
                clear hK K
                (try dsimp only [Act.put])
                (try simp only [List.setIfInBounds_toArray, List.set_cons_zero, List.set_cons_succ])
                refine wpAnyH_ready (rs := [8, 10]) (by kernel_rfl) (by simp) ?_
                refine AllReadyH.cons (by simp only [List.getElem?_toArray, List.getElem?_cons_succ, List.getElem?_cons_zero]; rfl) (fun K hK => ?_) (AllReadyH.cons (by simp only [List.getElem?_toArray, List.getElem?_cons_succ, List.getElem?_cons_zero]; rfl) (fun K hK => ?_) AllReadyH.nil)
                · go_simp
                  refine (HC3.out _ HNc5.out.1).mono ?_
                  rintro e6 wc6 ⟨g3, d3, rfl, hs, hgs, hp⟩
                  have HNc6 : Hid (w5.grownBy wc6 (some ha) ∧ Row wc6 ha 3 #[.int .i64 128]) := Lib.hid (⟨only_trans HNc5.out.1 (only_of_past hp _), HNc5.out.2.past hp⟩)
                  have HS1_6 : Hid (Sl wc6 (some ⟨g1, 0, none⟩) 32 d1 (seg xs 0 32) ∧ g1 ≠ ha ∧ w5.heap.size ≤ g1) := Lib.hid ⟨HS1_5.out.1.past hp, HS1_5.out.2⟩
                  have HS2_6 : Hid (Sl wc6 (some ⟨g2, 0, none⟩) 32 d2 (seg xs 32 32) ∧ g2 ≠ ha ∧ w5.heap.size ≤ g2) := Lib.hid ⟨HS2_5.out.1.past hp, HS2_5.out.2⟩
                  have HS3_6 : Hid (Sl wc6 (some ⟨g3, 0, none⟩) 64 d3 (seg xs 64 64) ∧ g3 ≠ ha ∧ w5.heap.size ≤ g3) := Lib.hid ⟨hs, by have := HNc5.out.2.lt; omega, Nat.le_trans HNc5.out.1.size hgs⟩
                  clear hs hgs hp
                  refine hK.out _ _ (HSS.out _ HNc6.out.1) (fun hH => ?_)
                  clear hK K
                  (try dsimp only [Act.put])
                  (try simp only [List.setIfInBounds_toArray, List.set_cons_zero, List.set_cons_succ])
                  refine held_take 9 41 (v := .agg #[.slice (some ⟨g1, 0, none⟩) 32 d1, .slice (some ⟨g2, 0, none⟩) 32 d2, .slice (some ⟨g3, 0, none⟩) 64 d3, nilS, nilS, nilS]) rfl rfl (by kernel_rfl) (by kernel_rfl) (by kernel_rfl) (fun _ _ _ h => h) (Or.inl ⟨by kernel_rfl, fun w _ => by go_simp⟩) hH ?_
                  (try simp only [List.setIfInBounds_toArray, List.set_cons_zero, List.set_cons_succ])
                  refine wpAnyH_ready (rs := [10]) (by kernel_rfl) (by simp) ?_
                  refine AllReadyH.cons (by simp only [List.getElem?_toArray, List.getElem?_cons_succ, List.getElem?_cons_zero]; rfl) (fun K hK => ?_) AllReadyH.nil
                  go_simp
                  obtain ⟨u, hu⟩ : ∃ u, wc6.heap.size = u := ⟨_, rfl⟩
                  obtain ⟨wc7, hwc⟩ : ∃ w', wc6.alloc (.cells privZ 42) = w' := ⟨_, rfl⟩
                  have hpc : Past wc6 wc7 := by rw [← hwc]; exact (Below.refl _ _).alloc (Nat.le_refl _) _
                  have HNc7 : Hid (w5.grownBy wc7 (some ha) ∧ Row wc7 ha 3 #[.int .i64 128]) := Lib.hid (⟨only_trans HNc6.out.1 (only_of_past hpc _), HNc6.out.2.past hpc⟩)
                  have HS1_7 : Hid (Sl wc7 (some ⟨g1, 0, none⟩) 32 d1 (seg xs 0 32) ∧ g1 ≠ ha ∧ w5.heap.size ≤ g1) := Lib.hid ⟨HS1_6.out.1.past hpc, HS1_6.out.2⟩
                  have HS2_7 : Hid (Sl wc7 (some ⟨g2, 0, none⟩) 32 d2 (seg xs 32 32) ∧ g2 ≠ ha ∧ w5.heap.size ≤ g2) := Lib.hid ⟨HS2_6.out.1.past hpc, HS2_6.out.2⟩
                  have HS3_7 : Hid (Sl wc7 (some ⟨g3, 0, none⟩) 64 d3 (seg xs 64 64) ∧ g3 ≠ ha ∧ w5.heap.size ≤ g3) := Lib.hid ⟨HS3_6.out.1.past hpc, HS3_6.out.2⟩
                  have HRc7 : Hid (Row wc7 u 42 privZ ∧ w5.heap.size ≤ u) := Lib.hid ⟨by rw [← hwc, ← hu]; exact Row.new _ _ _, by rw [← hu]; exact HNc6.out.1.size⟩
                  try rw [hwc]
                  try rw [hu]
                  clear hwc hu hpc
                  refine hK.out _ _ (HSS.out _ HNc7.out.1) (fun hH => ?_)
                  clear hK K
                  (try dsimp only [Act.put])
                  (try simp only [List.setIfInBounds_toArray, List.set_cons_zero, List.set_cons_succ])
                  refine wpAnyH_ready (rs := [11]) (by kernel_rfl) (by simp) ?_
                  refine AllReadyH.cons (by simp only [List.getElem?_toArray, List.getElem?_cons_succ, List.getElem?_cons_zero]; rfl) (fun K hK => ?_) AllReadyH.nil
                  have hrc : Row wc7 u 42 privZ := HRc7.out.1
                  refine step_wanted18 rfl ?_
                  refine wp_store_row 42 (.tmp 15) (.tmp 41) rfl u #[.slice (some ⟨g1, 0, none⟩) 32 d1, .slice (some ⟨g2, 0, none⟩) 32 d2, .slice (some ⟨g3, 0, none⟩) 64 d3, nilS, nilS, nilS] rfl rfl _ _ hrc (infV _ rfl) rfl (by simp [Value.oneCell']) ?_
                  obtain ⟨wc8, hwc⟩ : ∃ w', wc7.setRow u #[.slice (some ⟨g1, 0, none⟩) 32 d1, .slice (some ⟨g2, 0, none⟩) 32 d2, .slice (some ⟨g3, 0, none⟩) 64 d3, nilS, nilS, nilS] = w' := ⟨_, rfl⟩
                  have HPT : Hid (PrtP w5 wc8 ha u xs g1 d1 g2 d2 g3 d3) := Lib.hid (prt_mk hwc HNc7.out.1 HNc7.out.2 HRc7.out.1 HRc7.out.2 HA5.out.lt HS1_7.out HS2_7.out HS3_7.out)
                  have HNc8 : Hid (w5.grownBy wc8 (some ha) ∧ True) := Lib.hid ⟨HPT.out.1, trivial⟩
                  rw [hwc]
                  clear hwc hrc
                  refine hK.out _ _ (HSS.out _ HNc8.out.1) (fun hH => ?_)
                  clear hK K
                  (try dsimp only [Act.put])
                  (try simp only [List.setIfInBounds_toArray, List.set_cons_zero, List.set_cons_succ])
                  refine wpAnyH_done (by kernel_rfl) ?_ _
                  go_simp
                  go_wp2_with fail
                  go_meet
                  case rel => exact ⟨_, _, _, _, _, _, _, rfl, HPT⟩
                · go_simp
                  obtain ⟨u, hu⟩ : ∃ u, wc5.heap.size = u := ⟨_, rfl⟩
                  obtain ⟨wc9, hwc⟩ : ∃ w', wc5.alloc (.cells privZ 42) = w' := ⟨_, rfl⟩
                  have hpc : Past wc5 wc9 := by rw [← hwc]; exact (Below.refl _ _).alloc (Nat.le_refl _) _
                  have HNc9 : Hid (w5.grownBy wc9 (some ha) ∧ Row wc9 ha 3 #[.int .i64 128]) := Lib.hid (⟨only_trans HNc5.out.1 (only_of_past hpc _), HNc5.out.2.past hpc⟩)
                  have HS1_9 : Hid (Sl wc9 (some ⟨g1, 0, none⟩) 32 d1 (seg xs 0 32) ∧ g1 ≠ ha ∧ w5.heap.size ≤ g1) := Lib.hid ⟨HS1_5.out.1.past hpc, HS1_5.out.2⟩
                  have HS2_9 : Hid (Sl wc9 (some ⟨g2, 0, none⟩) 32 d2 (seg xs 32 32) ∧ g2 ≠ ha ∧ w5.heap.size ≤ g2) := Lib.hid ⟨HS2_5.out.1.past hpc, HS2_5.out.2⟩
                  have HRc9 : Hid (Row wc9 u 42 privZ ∧ w5.heap.size ≤ u) := Lib.hid ⟨by rw [← hwc, ← hu]; exact Row.new _ _ _, by rw [← hu]; exact HNc5.out.1.size⟩
                  try rw [hwc]
                  try rw [hu]
                  clear hwc hu hpc
                  refine hK.out _ _ (HSS.out _ HNc9.out.1) (fun hH => ?_)
                  clear hK K
                  (try dsimp only [Act.put])
                  (try simp only [List.setIfInBounds_toArray, List.set_cons_zero, List.set_cons_succ])
                  refine wpAnyH_ready (rs := [8]) (by kernel_rfl) (by simp) ?_
                  refine AllReadyH.cons (by simp only [List.getElem?_toArray, List.getElem?_cons_succ, List.getElem?_cons_zero]; rfl) (fun K hK => ?_) AllReadyH.nil
                  go_simp
                  refine (HC3.out _ HNc9.out.1).mono ?_
                  rintro e10 wc10 ⟨g3, d3, rfl, hs, hgs, hp⟩
                  have HNc10 : Hid (w5.grownBy wc10 (some ha) ∧ Row wc10 ha 3 #[.int .i64 128]) := Lib.hid (⟨only_trans HNc9.out.1 (only_of_past hp _), HNc9.out.2.past hp⟩)
                  have HS1_10 : Hid (Sl wc10 (some ⟨g1, 0, none⟩) 32 d1 (seg xs 0 32) ∧ g1 ≠ ha ∧ w5.heap.size ≤ g1) := Lib.hid ⟨HS1_9.out.1.past hp, HS1_9.out.2⟩
                  have HS2_10 : Hid (Sl wc10 (some ⟨g2, 0, none⟩) 32 d2 (seg xs 32 32) ∧ g2 ≠ ha ∧ w5.heap.size ≤ g2) := Lib.hid ⟨HS2_9.out.1.past hp, HS2_9.out.2⟩
                  have HRc10 : Hid (Row wc10 u 42 privZ ∧ w5.heap.size ≤ u) := Lib.hid ⟨HRc9.out.1.past hp, HRc9.out.2⟩
                  have HS3_10 : Hid (Sl wc10 (some ⟨g3, 0, none⟩) 64 d3 (seg xs 64 64) ∧ g3 ≠ ha ∧ w5.heap.size ≤ g3) := Lib.hid ⟨hs, by have := HNc9.out.2.lt; omega, Nat.le_trans HNc9.out.1.size hgs⟩
                  clear hs hgs hp
                  refine hK.out _ _ (HSS.out _ HNc10.out.1) (fun hH => ?_)
                  clear hK K
                  (try dsimp only [Act.put])
                  (try simp only [List.setIfInBounds_toArray, List.set_cons_zero, List.set_cons_succ])
                  refine held_take 9 41 (v := .agg #[.slice (some ⟨g1, 0, none⟩) 32 d1, .slice (some ⟨g2, 0, none⟩) 32 d2, .slice (some ⟨g3, 0, none⟩) 64 d3, nilS, nilS, nilS]) rfl rfl (by kernel_rfl) (by kernel_rfl) (by kernel_rfl) (fun _ _ _ h => h) (Or.inl ⟨by kernel_rfl, fun w _ => by go_simp⟩) hH ?_
                  (try simp only [List.setIfInBounds_toArray, List.set_cons_zero, List.set_cons_succ])
                  refine wpAnyH_ready (rs := [11]) (by kernel_rfl) (by simp) ?_
                  refine AllReadyH.cons (by simp only [List.getElem?_toArray, List.getElem?_cons_succ, List.getElem?_cons_zero]; rfl) (fun K hK => ?_) AllReadyH.nil
                  have hrc : Row wc10 u 42 privZ := HRc10.out.1
                  refine step_wanted18 rfl ?_
                  refine wp_store_row 42 (.tmp 15) (.tmp 41) rfl u #[.slice (some ⟨g1, 0, none⟩) 32 d1, .slice (some ⟨g2, 0, none⟩) 32 d2, .slice (some ⟨g3, 0, none⟩) 64 d3, nilS, nilS, nilS] rfl rfl _ _ hrc (infV _ rfl) rfl (by simp [Value.oneCell']) ?_
                  obtain ⟨wc11, hwc⟩ : ∃ w', wc10.setRow u #[.slice (some ⟨g1, 0, none⟩) 32 d1, .slice (some ⟨g2, 0, none⟩) 32 d2, .slice (some ⟨g3, 0, none⟩) 64 d3, nilS, nilS, nilS] = w' := ⟨_, rfl⟩
                  have HPT : Hid (PrtP w5 wc11 ha u xs g1 d1 g2 d2 g3 d3) := Lib.hid (prt_mk hwc HNc10.out.1 HNc10.out.2 HRc10.out.1 HRc10.out.2 HA5.out.lt HS1_10.out HS2_10.out HS3_10.out)
                  have HNc11 : Hid (w5.grownBy wc11 (some ha) ∧ True) := Lib.hid ⟨HPT.out.1, trivial⟩
                  rw [hwc]
                  clear hwc hrc
                  refine hK.out _ _ (HSS.out _ HNc11.out.1) (fun hH => ?_)
                  clear hK K
                  (try dsimp only [Act.put])
                  (try simp only [List.setIfInBounds_toArray, List.set_cons_zero, List.set_cons_succ])
                  refine wpAnyH_done (by kernel_rfl) ?_ _
                  go_simp
                  go_wp2_with fail
                  go_meet
                  case rel => exact ⟨_, _, _, _, _, _, _, rfl, HPT⟩
              · go_simp
                obtain ⟨u, hu⟩ : ∃ u, wc4.heap.size = u := ⟨_, rfl⟩
                obtain ⟨wc12, hwc⟩ : ∃ w', wc4.alloc (.cells privZ 42) = w' := ⟨_, rfl⟩
                have hpc : Past wc4 wc12 := by rw [← hwc]; exact (Below.refl _ _).alloc (Nat.le_refl _) _
                have HNc12 : Hid (w5.grownBy wc12 (some ha) ∧ Row wc12 ha 3 #[.int .i64 64]) := Lib.hid (⟨only_trans HNc4.out.1 (only_of_past hpc _), HNc4.out.2.past hpc⟩)
                have HS1_12 : Hid (Sl wc12 (some ⟨g1, 0, none⟩) 32 d1 (seg xs 0 32) ∧ g1 ≠ ha ∧ w5.heap.size ≤ g1) := Lib.hid ⟨HS1_4.out.1.past hpc, HS1_4.out.2⟩
                have HS2_12 : Hid (Sl wc12 (some ⟨g2, 0, none⟩) 32 d2 (seg xs 32 32) ∧ g2 ≠ ha ∧ w5.heap.size ≤ g2) := Lib.hid ⟨HS2_4.out.1.past hpc, HS2_4.out.2⟩
                have HRc12 : Hid (Row wc12 u 42 privZ ∧ w5.heap.size ≤ u) := Lib.hid ⟨by rw [← hwc, ← hu]; exact Row.new _ _ _, by rw [← hu]; exact HNc4.out.1.size⟩
                try rw [hwc]
                try rw [hu]
                clear hwc hu hpc
                refine hK.out _ _ (HSS.out _ HNc12.out.1) (fun hH => ?_)
                clear hK K
                (try dsimp only [Act.put])
                (try simp only [List.setIfInBounds_toArray, List.set_cons_zero, List.set_cons_succ])
                refine wpAnyH_ready (rs := [7]) (by kernel_rfl) (by simp) ?_
                refine AllReadyH.cons (by simp only [List.getElem?_toArray, List.getElem?_cons_succ, List.getElem?_cons_zero]; rfl) (fun K hK => ?_) AllReadyH.nil
                go_simp
                have hen := HEN.out
                go_simp
                refine (HT3.out _ HNc12.out.1 HNc12.out.2).mono ?_
                rintro e13 wc13 ⟨rfl, hw⟩
                clear hen
                have HNc13 : Hid (w5.grownBy wc13 (some ha) ∧ Row wc13 ha 3 #[.int .i64 128]) := Lib.hid (by rw [hw]; exact ⟨only_setCell HNc12.out.1 (.inl rfl) _, Row.set HNc12.out.2 0 _⟩)
                have HS1_13 : Hid (Sl wc13 (some ⟨g1, 0, none⟩) 32 d1 (seg xs 0 32) ∧ g1 ≠ ha ∧ w5.heap.size ≤ g1) := Lib.hid ⟨by rw [hw]; exact HS1_12.out.1.setCell (HNc12.out.2.cell 0) (fun x e => by cases e), HS1_12.out.2⟩
                have HS2_13 : Hid (Sl wc13 (some ⟨g2, 0, none⟩) 32 d2 (seg xs 32 32) ∧ g2 ≠ ha ∧ w5.heap.size ≤ g2) := Lib.hid ⟨by rw [hw]; exact HS2_12.out.1.setCell (HNc12.out.2.cell 0) (fun x e => by cases e), HS2_12.out.2⟩
                have HRc13 : Hid (Row wc13 u 42 privZ ∧ w5.heap.size ≤ u) := Lib.hid ⟨by rw [hw]; exact HRc12.out.1.setOther (by have := HRc12.out.2; have := HA5.out.lt; omega) _ _, HRc12.out.2⟩
                clear hw
                refine hK.out _ _ (HSS.out _ HNc13.out.1) (fun hH => ?_)
                clear hK K
                (try dsimp only [Act.put])
                (try simp only [List.setIfInBounds_toArray, List.set_cons_zero, List.set_cons_succ])
                refine wpAnyH_ready (rs := [8]) (by kernel_rfl) (by simp) ?_
                refine AllReadyH.cons (by simp only [List.getElem?_toArray, List.getElem?_cons_succ, List.getElem?_cons_zero]; rfl) (fun K hK => ?_) AllReadyH.nil
                go_simp
                refine (HC3.out _ HNc13.out.1).mono ?_
                rintro e14 wc14 ⟨g3, d3, rfl, hs, hgs, hp⟩
                have HNc14 : Hid (w5.grownBy wc14 (some ha) ∧ Row wc14 ha 3 #[.int .i64 128]) := Lib.hid (⟨only_trans HNc13.out.1 (only_of_past hp _), HNc13.out.2.past hp⟩)
                have HS1_14 : Hid (Sl wc14 (some ⟨g1, 0, none⟩) 32 d1 (seg xs 0 32) ∧ g1 ≠ ha ∧ w5.heap.size ≤ g1) := Lib.hid ⟨HS1_13.out.1.past hp, HS1_13.out.2⟩
                have HS2_14 : Hid (Sl wc14 (some ⟨g2, 0, none⟩) 32 d2 (seg xs 32 32) ∧ g2 ≠ ha ∧ w5.heap.size ≤ g2) := Lib.hid ⟨HS2_13.out.1.past hp, HS2_13.out.2⟩
                have HRc14 : Hid (Row wc14 u 42 privZ ∧ w5.heap.size ≤ u) := Lib.hid ⟨HRc13.out.1.past hp, HRc13.out.2⟩
                have HS3_14 : Hid (Sl wc14 (some ⟨g3, 0, none⟩) 64 d3 (seg xs 64 64) ∧ g3 ≠ ha ∧ w5.heap.size ≤ g3) := Lib.hid ⟨hs, by have := HNc13.out.2.lt; omega, Nat.le_trans HNc13.out.1.size hgs⟩
                clear hs hgs hp
                refine hK.out _ _ (HSS.out _ HNc14.out.1) (fun hH => ?_)
                clear hK K
                (try dsimp only [Act.put])
                (try simp only [List.setIfInBounds_toArray, List.set_cons_zero, List.set_cons_succ])
                refine held_take 9 41 (v := .agg #[.slice (some ⟨g1, 0, none⟩) 32 d1, .slice (some ⟨g2, 0, none⟩) 32 d2, .slice (some ⟨g3, 0, none⟩) 64 d3, nilS, nilS, nilS]) rfl rfl (by kernel_rfl) (by kernel_rfl) (by kernel_rfl) (fun _ _ _ h => h) (Or.inl ⟨by kernel_rfl, fun w _ => by go_simp⟩) hH ?_
                (try simp only [List.setIfInBounds_toArray, List.set_cons_zero, List.set_cons_succ])
                refine wpAnyH_ready (rs := [11]) (by kernel_rfl) (by simp) ?_
                refine AllReadyH.cons (by simp only [List.getElem?_toArray, List.getElem?_cons_succ, List.getElem?_cons_zero]; rfl) (fun K hK => ?_) AllReadyH.nil
                have hrc : Row wc14 u 42 privZ := HRc14.out.1
                refine step_wanted18 rfl ?_
                refine wp_store_row 42 (.tmp 15) (.tmp 41) rfl u #[.slice (some ⟨g1, 0, none⟩) 32 d1, .slice (some ⟨g2, 0, none⟩) 32 d2, .slice (some ⟨g3, 0, none⟩) 64 d3, nilS, nilS, nilS] rfl rfl _ _ hrc (infV _ rfl) rfl (by simp [Value.oneCell']) ?_
                obtain ⟨wc15, hwc⟩ : ∃ w', wc14.setRow u #[.slice (some ⟨g1, 0, none⟩) 32 d1, .slice (some ⟨g2, 0, none⟩) 32 d2, .slice (some ⟨g3, 0, none⟩) 64 d3, nilS, nilS, nilS] = w' := ⟨_, rfl⟩
                have HPT : Hid (PrtP w5 wc15 ha u xs g1 d1 g2 d2 g3 d3) := Lib.hid (prt_mk hwc HNc14.out.1 HNc14.out.2 HRc14.out.1 HRc14.out.2 HA5.out.lt HS1_14.out HS2_14.out HS3_14.out)
                have HNc15 : Hid (w5.grownBy wc15 (some ha) ∧ True) := Lib.hid ⟨HPT.out.1, trivial⟩
                rw [hwc]
                clear hwc hrc
                refine hK.out _ _ (HSS.out _ HNc15.out.1) (fun hH => ?_)
                clear hK K
                (try dsimp only [Act.put])
                (try simp only [List.setIfInBounds_toArray, List.set_cons_zero, List.set_cons_succ])
                refine wpAnyH_done (by kernel_rfl) ?_ _
                go_simp
                go_wp2_with fail
                go_meet
                case rel => exact ⟨_, _, _, _, _, _, _, rfl, HPT⟩
            · go_simp
              obtain ⟨u, hu⟩ : ∃ u, wc3.heap.size = u := ⟨_, rfl⟩
              obtain ⟨wc16, hwc⟩ : ∃ w', wc3.alloc (.cells privZ 42) = w' := ⟨_, rfl⟩
              have hpc : Past wc3 wc16 := by rw [← hwc]; exact (Below.refl _ _).alloc (Nat.le_refl _) _
              have HNc16 : Hid (w5.grownBy wc16 (some ha) ∧ Row wc16 ha 3 #[.int .i64 64]) := Lib.hid (⟨only_trans HNc3.out.1 (only_of_past hpc _), HNc3.out.2.past hpc⟩)
              have HS1_16 : Hid (Sl wc16 (some ⟨g1, 0, none⟩) 32 d1 (seg xs 0 32) ∧ g1 ≠ ha ∧ w5.heap.size ≤ g1) := Lib.hid ⟨HS1_3.out.1.past hpc, HS1_3.out.2⟩
              have HRc16 : Hid (Row wc16 u 42 privZ ∧ w5.heap.size ≤ u) := Lib.hid ⟨by rw [← hwc, ← hu]; exact Row.new _ _ _, by rw [← hu]; exact HNc3.out.1.size⟩
              try rw [hwc]
              try rw [hu]
              clear hwc hu hpc
              refine hK.out _ _ (HSS.out _ HNc16.out.1) (fun hH => ?_)
              clear hK K
              (try dsimp only [Act.put])
              (try simp only [List.setIfInBounds_toArray, List.set_cons_zero, List.set_cons_succ])
              refine wpAnyH_ready (rs := [5]) (by kernel_rfl) (by simp) ?_
              refine AllReadyH.cons (by simp only [List.getElem?_toArray, List.getElem?_cons_succ, List.getElem?_cons_zero]; rfl) (fun K hK => ?_) AllReadyH.nil
              go_simp
              refine (HC2.out _ HNc16.out.1).mono ?_
              rintro e17 wc17 ⟨g2, d2, rfl, hs, hgs, hp⟩
              have HNc17 : Hid (w5.grownBy wc17 (some ha) ∧ Row wc17 ha 3 #[.int .i64 64]) := Lib.hid (⟨only_trans HNc16.out.1 (only_of_past hp _), HNc16.out.2.past hp⟩)
              have HS1_17 : Hid (Sl wc17 (some ⟨g1, 0, none⟩) 32 d1 (seg xs 0 32) ∧ g1 ≠ ha ∧ w5.heap.size ≤ g1) := Lib.hid ⟨HS1_16.out.1.past hp, HS1_16.out.2⟩
              have HRc17 : Hid (Row wc17 u 42 privZ ∧ w5.heap.size ≤ u) := Lib.hid ⟨HRc16.out.1.past hp, HRc16.out.2⟩
              have HS2_17 : Hid (Sl wc17 (some ⟨g2, 0, none⟩) 32 d2 (seg xs 32 32) ∧ g2 ≠ ha ∧ w5.heap.size ≤ g2) := Lib.hid ⟨hs, by have := HNc16.out.2.lt; omega, Nat.le_trans HNc16.out.1.size hgs⟩
              clear hs hgs hp
              refine hK.out _ _ (HSS.out _ HNc17.out.1) (fun hH => ?_)
              clear hK K
              (try dsimp only [Act.put])
              (try simp only [List.setIfInBounds_toArray, List.set_cons_zero, List.set_cons_succ])
              refine wpAnyH_ready (rs := [7]) (by kernel_rfl) (by simp) ?_
              refine AllReadyH.cons (by simp only [List.getElem?_toArray, List.getElem?_cons_succ, List.getElem?_cons_zero]; rfl) (fun K hK => ?_) AllReadyH.nil
              go_simp
              have hen := HEN.out
              go_simp
              refine (HT3.out _ HNc17.out.1 HNc17.out.2).mono ?_
              rintro e18 wc18 ⟨rfl, hw⟩
              clear hen
              have HNc18 : Hid (w5.grownBy wc18 (some ha) ∧ Row wc18 ha 3 #[.int .i64 128]) := Lib.hid (by rw [hw]; exact ⟨only_setCell HNc17.out.1 (.inl rfl) _, Row.set HNc17.out.2 0 _⟩)
              have HS1_18 : Hid (Sl wc18 (some ⟨g1, 0, none⟩) 32 d1 (seg xs 0 32) ∧ g1 ≠ ha ∧ w5.heap.size ≤ g1) := Lib.hid ⟨by rw [hw]; exact HS1_17.out.1.setCell (HNc17.out.2.cell 0) (fun x e => by cases e), HS1_17.out.2⟩
              have HS2_18 : Hid (Sl wc18 (some ⟨g2, 0, none⟩) 32 d2 (seg xs 32 32) ∧ g2 ≠ ha ∧ w5.heap.size ≤ g2) := Lib.hid ⟨by rw [hw]; exact HS2_17.out.1.setCell (HNc17.out.2.cell 0) (fun x e => by cases e), HS2_17.out.2⟩
              have HRc18 : Hid (Row wc18 u 42 privZ ∧ w5.heap.size ≤ u) := Lib.hid ⟨by rw [hw]; exact HRc17.out.1.setOther (by have := HRc17.out.2; have := HA5.out.lt; omega) _ _, HRc17.out.2⟩
              clear hw
              refine hK.out _ _ (HSS.out _ HNc18.out.1) (fun hH => ?_)
              clear hK K
              (try dsimp only [Act.put])
              (try simp only [List.setIfInBounds_toArray, List.set_cons_zero, List.set_cons_succ])
              refine wpAnyH_ready (rs := [8]) (by kernel_rfl) (by simp) ?_
              refine AllReadyH.cons (by simp only [List.getElem?_toArray, List.getElem?_cons_succ, List.getElem?_cons_zero]; rfl) (fun K hK => ?_) AllReadyH.nil
              go_simp
              refine (HC3.out _ HNc18.out.1).mono ?_
              rintro e19 wc19 ⟨g3, d3, rfl, hs, hgs, hp⟩
              have HNc19 : Hid (w5.grownBy wc19 (some ha) ∧ Row wc19 ha 3 #[.int .i64 128]) := Lib.hid (⟨only_trans HNc18.out.1 (only_of_past hp _), HNc18.out.2.past hp⟩)
              have HS1_19 : Hid (Sl wc19 (some ⟨g1, 0, none⟩) 32 d1 (seg xs 0 32) ∧ g1 ≠ ha ∧ w5.heap.size ≤ g1) := Lib.hid ⟨HS1_18.out.1.past hp, HS1_18.out.2⟩
              have HS2_19 : Hid (Sl wc19 (some ⟨g2, 0, none⟩) 32 d2 (seg xs 32 32) ∧ g2 ≠ ha ∧ w5.heap.size ≤ g2) := Lib.hid ⟨HS2_18.out.1.past hp, HS2_18.out.2⟩
              have HRc19 : Hid (Row wc19 u 42 privZ ∧ w5.heap.size ≤ u) := Lib.hid ⟨HRc18.out.1.past hp, HRc18.out.2⟩
              have HS3_19 : Hid (Sl wc19 (some ⟨g3, 0, none⟩) 64 d3 (seg xs 64 64) ∧ g3 ≠ ha ∧ w5.heap.size ≤ g3) := Lib.hid ⟨hs, by have := HNc18.out.2.lt; omega, Nat.le_trans HNc18.out.1.size hgs⟩
              clear hs hgs hp
              refine hK.out _ _ (HSS.out _ HNc19.out.1) (fun hH => ?_)
              clear hK K
              (try dsimp only [Act.put])
              (try simp only [List.setIfInBounds_toArray, List.set_cons_zero, List.set_cons_succ])
              refine held_take 9 41 (v := .agg #[.slice (some ⟨g1, 0, none⟩) 32 d1, .slice (some ⟨g2, 0, none⟩) 32 d2, .slice (some ⟨g3, 0, none⟩) 64 d3, nilS, nilS, nilS]) rfl rfl (by kernel_rfl) (by kernel_rfl) (by kernel_rfl) (fun _ _ _ h => h) (Or.inl ⟨by kernel_rfl, fun w _ => by go_simp⟩) hH ?_
              (try simp only [List.setIfInBounds_toArray, List.set_cons_zero, List.set_cons_succ])
              refine wpAnyH_ready (rs := [11]) (by kernel_rfl) (by simp) ?_
              refine AllReadyH.cons (by simp only [List.getElem?_toArray, List.getElem?_cons_succ, List.getElem?_cons_zero]; rfl) (fun K hK => ?_) AllReadyH.nil
              have hrc : Row wc19 u 42 privZ := HRc19.out.1
              refine step_wanted18 rfl ?_
              refine wp_store_row 42 (.tmp 15) (.tmp 41) rfl u #[.slice (some ⟨g1, 0, none⟩) 32 d1, .slice (some ⟨g2, 0, none⟩) 32 d2, .slice (some ⟨g3, 0, none⟩) 64 d3, nilS, nilS, nilS] rfl rfl _ _ hrc (infV _ rfl) rfl (by simp [Value.oneCell']) ?_
              obtain ⟨wc20, hwc⟩ : ∃ w', wc19.setRow u #[.slice (some ⟨g1, 0, none⟩) 32 d1, .slice (some ⟨g2, 0, none⟩) 32 d2, .slice (some ⟨g3, 0, none⟩) 64 d3, nilS, nilS, nilS] = w' := ⟨_, rfl⟩
              have HPT : Hid (PrtP w5 wc20 ha u xs g1 d1 g2 d2 g3 d3) := Lib.hid (prt_mk hwc HNc19.out.1 HNc19.out.2 HRc19.out.1 HRc19.out.2 HA5.out.lt HS1_19.out HS2_19.out HS3_19.out)
              have HNc20 : Hid (w5.grownBy wc20 (some ha) ∧ True) := Lib.hid ⟨HPT.out.1, trivial⟩
              rw [hwc]
              clear hwc hrc
              refine hK.out _ _ (HSS.out _ HNc20.out.1) (fun hH => ?_)
              clear hK K
              (try dsimp only [Act.put])
              (try simp only [List.setIfInBounds_toArray, List.set_cons_zero, List.set_cons_succ])
              refine wpAnyH_done (by kernel_rfl) ?_ _
              go_simp
              go_wp2_with fail
              go_meet
              case rel => exact ⟨_, _, _, _, _, _, _, rfl, HPT⟩
          · go_simp
            obtain ⟨u, hu⟩ : ∃ u, wc2.heap.size = u := ⟨_, rfl⟩
            obtain ⟨wc21, hwc⟩ : ∃ w', wc2.alloc (.cells privZ 42) = w' := ⟨_, rfl⟩
            have hpc : Past wc2 wc21 := by rw [← hwc]; exact (Below.refl _ _).alloc (Nat.le_refl _) _
            have HNc21 : Hid (w5.grownBy wc21 (some ha) ∧ Row wc21 ha 3 #[.int .i64 32]) := Lib.hid (⟨only_trans HNc2.out.1 (only_of_past hpc _), HNc2.out.2.past hpc⟩)
            have HS1_21 : Hid (Sl wc21 (some ⟨g1, 0, none⟩) 32 d1 (seg xs 0 32) ∧ g1 ≠ ha ∧ w5.heap.size ≤ g1) := Lib.hid ⟨HS1_2.out.1.past hpc, HS1_2.out.2⟩
            have HRc21 : Hid (Row wc21 u 42 privZ ∧ w5.heap.size ≤ u) := Lib.hid ⟨by rw [← hwc, ← hu]; exact Row.new _ _ _, by rw [← hu]; exact HNc2.out.1.size⟩
            try rw [hwc]
            try rw [hu]
            clear hwc hu hpc
            refine hK.out _ _ (HSS.out _ HNc21.out.1) (fun hH => ?_)
            clear hK K
            (try dsimp only [Act.put])
            (try simp only [List.setIfInBounds_toArray, List.set_cons_zero, List.set_cons_succ])
            refine wpAnyH_ready (rs := [4]) (by kernel_rfl) (by simp) ?_
            refine AllReadyH.cons (by simp only [List.getElem?_toArray, List.getElem?_cons_succ, List.getElem?_cons_zero]; rfl) (fun K hK => ?_) AllReadyH.nil
            go_simp
            have hen := HEN.out
            go_simp
            refine (HT2.out _ HNc21.out.1 HNc21.out.2).mono ?_
            rintro e22 wc22 ⟨rfl, hw⟩
            clear hen
            have HNc22 : Hid (w5.grownBy wc22 (some ha) ∧ Row wc22 ha 3 #[.int .i64 64]) := Lib.hid (by rw [hw]; exact ⟨only_setCell HNc21.out.1 (.inl rfl) _, Row.set HNc21.out.2 0 _⟩)
            have HS1_22 : Hid (Sl wc22 (some ⟨g1, 0, none⟩) 32 d1 (seg xs 0 32) ∧ g1 ≠ ha ∧ w5.heap.size ≤ g1) := Lib.hid ⟨by rw [hw]; exact HS1_21.out.1.setCell (HNc21.out.2.cell 0) (fun x e => by cases e), HS1_21.out.2⟩
            have HRc22 : Hid (Row wc22 u 42 privZ ∧ w5.heap.size ≤ u) := Lib.hid ⟨by rw [hw]; exact HRc21.out.1.setOther (by have := HRc21.out.2; have := HA5.out.lt; omega) _ _, HRc21.out.2⟩
            clear hw
            refine hK.out _ _ (HSS.out _ HNc22.out.1) (fun hH => ?_)
            clear hK K
            (try dsimp only [Act.put])
            (try simp only [List.setIfInBounds_toArray, List.set_cons_zero, List.set_cons_succ])
            refine wpAnyH_ready (rs := [5]) (by kernel_rfl) (by simp) ?_
            refine AllReadyH.cons (by simp only [List.getElem?_toArray, List.getElem?_cons_succ, List.getElem?_cons_zero]; rfl) (fun K hK => ?_) AllReadyH.nil
            go_simp
            refine (HC2.out _ HNc22.out.1).mono ?_
            rintro e23 wc23 ⟨g2, d2, rfl, hs, hgs, hp⟩
            have HNc23 : Hid (w5.grownBy wc23 (some ha) ∧ Row wc23 ha 3 #[.int .i64 64]) := Lib.hid (⟨only_trans HNc22.out.1 (only_of_past hp _), HNc22.out.2.past hp⟩)
            have HS1_23 : Hid (Sl wc23 (some ⟨g1, 0, none⟩) 32 d1 (seg xs 0 32) ∧ g1 ≠ ha ∧ w5.heap.size ≤ g1) := Lib.hid ⟨HS1_22.out.1.past hp, HS1_22.out.2⟩
            have HRc23 : Hid (Row wc23 u 42 privZ ∧ w5.heap.size ≤ u) := Lib.hid ⟨HRc22.out.1.past hp, HRc22.out.2⟩
            have HS2_23 : Hid (Sl wc23 (some ⟨g2, 0, none⟩) 32 d2 (seg xs 32 32) ∧ g2 ≠ ha ∧ w5.heap.size ≤ g2) := Lib.hid ⟨hs, by have := HNc22.out.2.lt; omega, Nat.le_trans HNc22.out.1.size hgs⟩
            clear hs hgs hp
            refine hK.out _ _ (HSS.out _ HNc23.out.1) (fun hH => ?_)
            clear hK K
            (try dsimp only [Act.put])
            (try simp only [List.setIfInBounds_toArray, List.set_cons_zero, List.set_cons_succ])
            refine wpAnyH_ready (rs := [7]) (by kernel_rfl) (by simp) ?_
            refine AllReadyH.cons (by simp only [List.getElem?_toArray, List.getElem?_cons_succ, List.getElem?_cons_zero]; rfl) (fun K hK => ?_) AllReadyH.nil
            go_simp
            have hen := HEN.out
            go_simp
            refine (HT3.out _ HNc23.out.1 HNc23.out.2).mono ?_
            rintro e24 wc24 ⟨rfl, hw⟩
            clear hen
            have HNc24 : Hid (w5.grownBy wc24 (some ha) ∧ Row wc24 ha 3 #[.int .i64 128]) := Lib.hid (by rw [hw]; exact ⟨only_setCell HNc23.out.1 (.inl rfl) _, Row.set HNc23.out.2 0 _⟩)
            have HS1_24 : Hid (Sl wc24 (some ⟨g1, 0, none⟩) 32 d1 (seg xs 0 32) ∧ g1 ≠ ha ∧ w5.heap.size ≤ g1) := Lib.hid ⟨by rw [hw]; exact HS1_23.out.1.setCell (HNc23.out.2.cell 0) (fun x e => by cases e), HS1_23.out.2⟩
            have HS2_24 : Hid (Sl wc24 (some ⟨g2, 0, none⟩) 32 d2 (seg xs 32 32) ∧ g2 ≠ ha ∧ w5.heap.size ≤ g2) := Lib.hid ⟨by rw [hw]; exact HS2_23.out.1.setCell (HNc23.out.2.cell 0) (fun x e => by cases e), HS2_23.out.2⟩
            have HRc24 : Hid (Row wc24 u 42 privZ ∧ w5.heap.size ≤ u) := Lib.hid ⟨by rw [hw]; exact HRc23.out.1.setOther (by have := HRc23.out.2; have := HA5.out.lt; omega) _ _, HRc23.out.2⟩
            clear hw
            refine hK.out _ _ (HSS.out _ HNc24.out.1) (fun hH => ?_)
            clear hK K
            (try dsimp only [Act.put])
            (try simp only [List.setIfInBounds_toArray, List.set_cons_zero, List.set_cons_succ])
            refine wpAnyH_ready (rs := [8]) (by kernel_rfl) (by simp) ?_
            refine AllReadyH.cons (by simp only [List.getElem?_toArray, List.getElem?_cons_succ, List.getElem?_cons_zero]; rfl) (fun K hK => ?_) AllReadyH.nil
            go_simp
            refine (HC3.out _ HNc24.out.1).mono ?_
            rintro e25 wc25 ⟨g3, d3, rfl, hs, hgs, hp⟩
            have HNc25 : Hid (w5.grownBy wc25 (some ha) ∧ Row wc25 ha 3 #[.int .i64 128]) := Lib.hid (⟨only_trans HNc24.out.1 (only_of_past hp _), HNc24.out.2.past hp⟩)
            have HS1_25 : Hid (Sl wc25 (some ⟨g1, 0, none⟩) 32 d1 (seg xs 0 32) ∧ g1 ≠ ha ∧ w5.heap.size ≤ g1) := Lib.hid ⟨HS1_24.out.1.past hp, HS1_24.out.2⟩
            have HS2_25 : Hid (Sl wc25 (some ⟨g2, 0, none⟩) 32 d2 (seg xs 32 32) ∧ g2 ≠ ha ∧ w5.heap.size ≤ g2) := Lib.hid ⟨HS2_24.out.1.past hp, HS2_24.out.2⟩
            have HRc25 : Hid (Row wc25 u 42 privZ ∧ w5.heap.size ≤ u) := Lib.hid ⟨HRc24.out.1.past hp, HRc24.out.2⟩
            have HS3_25 : Hid (Sl wc25 (some ⟨g3, 0, none⟩) 64 d3 (seg xs 64 64) ∧ g3 ≠ ha ∧ w5.heap.size ≤ g3) := Lib.hid ⟨hs, by have := HNc24.out.2.lt; omega, Nat.le_trans HNc24.out.1.size hgs⟩
            clear hs hgs hp
            refine hK.out _ _ (HSS.out _ HNc25.out.1) (fun hH => ?_)
            clear hK K
            (try dsimp only [Act.put])
            (try simp only [List.setIfInBounds_toArray, List.set_cons_zero, List.set_cons_succ])
            refine held_take 9 41 (v := .agg #[.slice (some ⟨g1, 0, none⟩) 32 d1, .slice (some ⟨g2, 0, none⟩) 32 d2, .slice (some ⟨g3, 0, none⟩) 64 d3, nilS, nilS, nilS]) rfl rfl (by kernel_rfl) (by kernel_rfl) (by kernel_rfl) (fun _ _ _ h => h) (Or.inl ⟨by kernel_rfl, fun w _ => by go_simp⟩) hH ?_
            (try simp only [List.setIfInBounds_toArray, List.set_cons_zero, List.set_cons_succ])
            refine wpAnyH_ready (rs := [11]) (by kernel_rfl) (by simp) ?_
            refine AllReadyH.cons (by simp only [List.getElem?_toArray, List.getElem?_cons_succ, List.getElem?_cons_zero]; rfl) (fun K hK => ?_) AllReadyH.nil
            have hrc : Row wc25 u 42 privZ := HRc25.out.1
            refine step_wanted18 rfl ?_
            refine wp_store_row 42 (.tmp 15) (.tmp 41) rfl u #[.slice (some ⟨g1, 0, none⟩) 32 d1, .slice (some ⟨g2, 0, none⟩) 32 d2, .slice (some ⟨g3, 0, none⟩) 64 d3, nilS, nilS, nilS] rfl rfl _ _ hrc (infV _ rfl) rfl (by simp [Value.oneCell']) ?_
            obtain ⟨wc26, hwc⟩ : ∃ w', wc25.setRow u #[.slice (some ⟨g1, 0, none⟩) 32 d1, .slice (some ⟨g2, 0, none⟩) 32 d2, .slice (some ⟨g3, 0, none⟩) 64 d3, nilS, nilS, nilS] = w' := ⟨_, rfl⟩
            have HPT : Hid (PrtP w5 wc26 ha u xs g1 d1 g2 d2 g3 d3) := Lib.hid (prt_mk hwc HNc25.out.1 HNc25.out.2 HRc25.out.1 HRc25.out.2 HA5.out.lt HS1_25.out HS2_25.out HS3_25.out)
            have HNc26 : Hid (w5.grownBy wc26 (some ha) ∧ True) := Lib.hid ⟨HPT.out.1, trivial⟩
            rw [hwc]
            clear hwc hrc
            refine hK.out _ _ (HSS.out _ HNc26.out.1) (fun hH => ?_)
            clear hK K
            (try dsimp only [Act.put])
            (try simp only [List.setIfInBounds_toArray, List.set_cons_zero, List.set_cons_succ])
            refine wpAnyH_done (by kernel_rfl) ?_ _
            go_simp
            go_wp2_with fail
            go_meet
            case rel => exact ⟨_, _, _, _, _, _, _, rfl, HPT⟩
        · go_simp
          obtain ⟨u, hu⟩ : ∃ u, wc1.heap.size = u := ⟨_, rfl⟩
          obtain ⟨wc27, hwc⟩ : ∃ w', wc1.alloc (.cells privZ 42) = w' := ⟨_, rfl⟩
          have hpc : Past wc1 wc27 := by rw [← hwc]; exact (Below.refl _ _).alloc (Nat.le_refl _) _
          have HNc27 : Hid (w5.grownBy wc27 (some ha) ∧ Row wc27 ha 3 #[.int .i64 32]) := Lib.hid (⟨only_trans HNc1.out.1 (only_of_past hpc _), HNc1.out.2.past hpc⟩)
          have HRc27 : Hid (Row wc27 u 42 privZ ∧ w5.heap.size ≤ u) := Lib.hid ⟨by rw [← hwc, ← hu]; exact Row.new _ _ _, by rw [← hu]; exact HNc1.out.1.size⟩
          try rw [hwc]
          try rw [hu]
          clear hwc hu hpc
          refine hK.out _ _ (HSS.out _ HNc27.out.1) (fun hH => ?_)
          clear hK K
          (try dsimp only [Act.put])
          (try simp only [List.setIfInBounds_toArray, List.set_cons_zero, List.set_cons_succ])
          refine wpAnyH_ready (rs := [2]) (by kernel_rfl) (by simp) ?_
          refine AllReadyH.cons (by simp only [List.getElem?_toArray, List.getElem?_cons_succ, List.getElem?_cons_zero]; rfl) (fun K hK => ?_) AllReadyH.nil
          go_simp
          refine (HC1.out _ HNc27.out.1).mono ?_
          rintro e28 wc28 ⟨g1, d1, rfl, hs, hgs, hp⟩
          have HNc28 : Hid (w5.grownBy wc28 (some ha) ∧ Row wc28 ha 3 #[.int .i64 32]) := Lib.hid (⟨only_trans HNc27.out.1 (only_of_past hp _), HNc27.out.2.past hp⟩)
          have HRc28 : Hid (Row wc28 u 42 privZ ∧ w5.heap.size ≤ u) := Lib.hid ⟨HRc27.out.1.past hp, HRc27.out.2⟩
          have HS1_28 : Hid (Sl wc28 (some ⟨g1, 0, none⟩) 32 d1 (seg xs 0 32) ∧ g1 ≠ ha ∧ w5.heap.size ≤ g1) := Lib.hid ⟨hs, by have := HNc27.out.2.lt; omega, Nat.le_trans HNc27.out.1.size hgs⟩
          clear hs hgs hp
          refine hK.out _ _ (HSS.out _ HNc28.out.1) (fun hH => ?_)
          clear hK K
          (try dsimp only [Act.put])
          (try simp only [List.setIfInBounds_toArray, List.set_cons_zero, List.set_cons_succ])
          refine wpAnyH_ready (rs := [4]) (by kernel_rfl) (by simp) ?_
          refine AllReadyH.cons (by simp only [List.getElem?_toArray, List.getElem?_cons_succ, List.getElem?_cons_zero]; rfl) (fun K hK => ?_) AllReadyH.nil
          go_simp
          have hen := HEN.out
          go_simp
          refine (HT2.out _ HNc28.out.1 HNc28.out.2).mono ?_
          rintro e29 wc29 ⟨rfl, hw⟩
          clear hen
          have HNc29 : Hid (w5.grownBy wc29 (some ha) ∧ Row wc29 ha 3 #[.int .i64 64]) := Lib.hid (by rw [hw]; exact ⟨only_setCell HNc28.out.1 (.inl rfl) _, Row.set HNc28.out.2 0 _⟩)
          have HS1_29 : Hid (Sl wc29 (some ⟨g1, 0, none⟩) 32 d1 (seg xs 0 32) ∧ g1 ≠ ha ∧ w5.heap.size ≤ g1) := Lib.hid ⟨by rw [hw]; exact HS1_28.out.1.setCell (HNc28.out.2.cell 0) (fun x e => by cases e), HS1_28.out.2⟩
          have HRc29 : Hid (Row wc29 u 42 privZ ∧ w5.heap.size ≤ u) := Lib.hid ⟨by rw [hw]; exact HRc28.out.1.setOther (by have := HRc28.out.2; have := HA5.out.lt; omega) _ _, HRc28.out.2⟩
          clear hw
          refine hK.out _ _ (HSS.out _ HNc29.out.1) (fun hH => ?_)
          clear hK K
          (try dsimp only [Act.put])
          (try simp only [List.setIfInBounds_toArray, List.set_cons_zero, List.set_cons_succ])
          refine wpAnyH_ready (rs := [5]) (by kernel_rfl) (by simp) ?_
          refine AllReadyH.cons (by simp only [List.getElem?_toArray, List.getElem?_cons_succ, List.getElem?_cons_zero]; rfl) (fun K hK => ?_) AllReadyH.nil
          go_simp
          refine (HC2.out _ HNc29.out.1).mono ?_
          rintro e30 wc30 ⟨g2, d2, rfl, hs, hgs, hp⟩
          have HNc30 : Hid (w5.grownBy wc30 (some ha) ∧ Row wc30 ha 3 #[.int .i64 64]) := Lib.hid (⟨only_trans HNc29.out.1 (only_of_past hp _), HNc29.out.2.past hp⟩)
          have HS1_30 : Hid (Sl wc30 (some ⟨g1, 0, none⟩) 32 d1 (seg xs 0 32) ∧ g1 ≠ ha ∧ w5.heap.size ≤ g1) := Lib.hid ⟨HS1_29.out.1.past hp, HS1_29.out.2⟩
          have HRc30 : Hid (Row wc30 u 42 privZ ∧ w5.heap.size ≤ u) := Lib.hid ⟨HRc29.out.1.past hp, HRc29.out.2⟩
          have HS2_30 : Hid (Sl wc30 (some ⟨g2, 0, none⟩) 32 d2 (seg xs 32 32) ∧ g2 ≠ ha ∧ w5.heap.size ≤ g2) := Lib.hid ⟨hs, by have := HNc29.out.2.lt; omega, Nat.le_trans HNc29.out.1.size hgs⟩
          clear hs hgs hp
          refine hK.out _ _ (HSS.out _ HNc30.out.1) (fun hH => ?_)
          clear hK K
          (try dsimp only [Act.put])
          (try simp only [List.setIfInBounds_toArray, List.set_cons_zero, List.set_cons_succ])
          refine wpAnyH_ready (rs := [7]) (by kernel_rfl) (by simp) ?_
          refine AllReadyH.cons (by simp only [List.getElem?_toArray, List.getElem?_cons_succ, List.getElem?_cons_zero]; rfl) (fun K hK => ?_) AllReadyH.nil
          go_simp
          have hen := HEN.out
          go_simp
          refine (HT3.out _ HNc30.out.1 HNc30.out.2).mono ?_
          rintro e31 wc31 ⟨rfl, hw⟩
          clear hen
          have HNc31 : Hid (w5.grownBy wc31 (some ha) ∧ Row wc31 ha 3 #[.int .i64 128]) := Lib.hid (by rw [hw]; exact ⟨only_setCell HNc30.out.1 (.inl rfl) _, Row.set HNc30.out.2 0 _⟩)
          have HS1_31 : Hid (Sl wc31 (some ⟨g1, 0, none⟩) 32 d1 (seg xs 0 32) ∧ g1 ≠ ha ∧ w5.heap.size ≤ g1) := Lib.hid ⟨by rw [hw]; exact HS1_30.out.1.setCell (HNc30.out.2.cell 0) (fun x e => by cases e), HS1_30.out.2⟩
          have HS2_31 : Hid (Sl wc31 (some ⟨g2, 0, none⟩) 32 d2 (seg xs 32 32) ∧ g2 ≠ ha ∧ w5.heap.size ≤ g2) := Lib.hid ⟨by rw [hw]; exact HS2_30.out.1.setCell (HNc30.out.2.cell 0) (fun x e => by cases e), HS2_30.out.2⟩
          have HRc31 : Hid (Row wc31 u 42 privZ ∧ w5.heap.size ≤ u) := Lib.hid ⟨by rw [hw]; exact HRc30.out.1.setOther (by have := HRc30.out.2; have := HA5.out.lt; omega) _ _, HRc30.out.2⟩
          clear hw
          refine hK.out _ _ (HSS.out _ HNc31.out.1) (fun hH => ?_)
          clear hK K
          (try dsimp only [Act.put])
          (try simp only [List.setIfInBounds_toArray, List.set_cons_zero, List.set_cons_succ])
          refine wpAnyH_ready (rs := [8]) (by kernel_rfl) (by simp) ?_
          refine AllReadyH.cons (by simp only [List.getElem?_toArray, List.getElem?_cons_succ, List.getElem?_cons_zero]; rfl) (fun K hK => ?_) AllReadyH.nil
          go_simp
          refine (HC3.out _ HNc31.out.1).mono ?_
          rintro e32 wc32 ⟨g3, d3, rfl, hs, hgs, hp⟩
          have HNc32 : Hid (w5.grownBy wc32 (some ha) ∧ Row wc32 ha 3 #[.int .i64 128]) := Lib.hid (⟨only_trans HNc31.out.1 (only_of_past hp _), HNc31.out.2.past hp⟩)
          have HS1_32 : Hid (Sl wc32 (some ⟨g1, 0, none⟩) 32 d1 (seg xs 0 32) ∧ g1 ≠ ha ∧ w5.heap.size ≤ g1) := Lib.hid ⟨HS1_31.out.1.past hp, HS1_31.out.2⟩
          have HS2_32 : Hid (Sl wc32 (some ⟨g2, 0, none⟩) 32 d2 (seg xs 32 32) ∧ g2 ≠ ha ∧ w5.heap.size ≤ g2) := Lib.hid ⟨HS2_31.out.1.past hp, HS2_31.out.2⟩
          have HRc32 : Hid (Row wc32 u 42 privZ ∧ w5.heap.size ≤ u) := Lib.hid ⟨HRc31.out.1.past hp, HRc31.out.2⟩
          have HS3_32 : Hid (Sl wc32 (some ⟨g3, 0, none⟩) 64 d3 (seg xs 64 64) ∧ g3 ≠ ha ∧ w5.heap.size ≤ g3) := Lib.hid ⟨hs, by have := HNc31.out.2.lt; omega, Nat.le_trans HNc31.out.1.size hgs⟩
          clear hs hgs hp
          refine hK.out _ _ (HSS.out _ HNc32.out.1) (fun hH => ?_)
          clear hK K
          (try dsimp only [Act.put])
          (try simp only [List.setIfInBounds_toArray, List.set_cons_zero, List.set_cons_succ])
          refine held_take 9 41 (v := .agg #[.slice (some ⟨g1, 0, none⟩) 32 d1, .slice (some ⟨g2, 0, none⟩) 32 d2, .slice (some ⟨g3, 0, none⟩) 64 d3, nilS, nilS, nilS]) rfl rfl (by kernel_rfl) (by kernel_rfl) (by kernel_rfl) (fun _ _ _ h => h) (Or.inl ⟨by kernel_rfl, fun w _ => by go_simp⟩) hH ?_
          (try simp only [List.setIfInBounds_toArray, List.set_cons_zero, List.set_cons_succ])
          refine wpAnyH_ready (rs := [11]) (by kernel_rfl) (by simp) ?_
          refine AllReadyH.cons (by simp only [List.getElem?_toArray, List.getElem?_cons_succ, List.getElem?_cons_zero]; rfl) (fun K hK => ?_) AllReadyH.nil
          have hrc : Row wc32 u 42 privZ := HRc32.out.1
          refine step_wanted18 rfl ?_
          refine wp_store_row 42 (.tmp 15) (.tmp 41) rfl u #[.slice (some ⟨g1, 0, none⟩) 32 d1, .slice (some ⟨g2, 0, none⟩) 32 d2, .slice (some ⟨g3, 0, none⟩) 64 d3, nilS, nilS, nilS] rfl rfl _ _ hrc (infV _ rfl) rfl (by simp [Value.oneCell']) ?_
          obtain ⟨wc33, hwc⟩ : ∃ w', wc32.setRow u #[.slice (some ⟨g1, 0, none⟩) 32 d1, .slice (some ⟨g2, 0, none⟩) 32 d2, .slice (some ⟨g3, 0, none⟩) 64 d3, nilS, nilS, nilS] = w' := ⟨_, rfl⟩
          have HPT : Hid (PrtP w5 wc33 ha u xs g1 d1 g2 d2 g3 d3) := Lib.hid (prt_mk hwc HNc32.out.1 HNc32.out.2 HRc32.out.1 HRc32.out.2 HA5.out.lt HS1_32.out HS2_32.out HS3_32.out)
          have HNc33 : Hid (w5.grownBy wc33 (some ha) ∧ True) := Lib.hid ⟨HPT.out.1, trivial⟩
          rw [hwc]
          clear hwc hrc
          refine hK.out _ _ (HSS.out _ HNc33.out.1) (fun hH => ?_)
          clear hK K
          (try dsimp only [Act.put])
          (try simp only [List.setIfInBounds_toArray, List.set_cons_zero, List.set_cons_succ])
          refine wpAnyH_done (by kernel_rfl) ?_ _
          go_simp
          go_wp2_with fail
          go_meet
          case rel => exact ⟨_, _, _, _, _, _, _, rfl, HPT⟩
      · go_simp
        obtain ⟨u, hu⟩ : ∃ u, w6.heap.size = u := ⟨_, rfl⟩
        obtain ⟨wc34, hwc⟩ : ∃ w', w6.alloc (.cells privZ 42) = w' := ⟨_, rfl⟩
        have hpc : Past w6 wc34 := by rw [← hwc]; exact (Below.refl _ _).alloc (Nat.le_refl _) _
        have HNc34 : Hid (w5.grownBy wc34 (some ha) ∧ Row wc34 ha 3 #[.int .i64 0]) := Lib.hid (⟨only_trans HN6.out.1 (only_of_past hpc _), HN6.out.2.past hpc⟩)
        have HRc34 : Hid (Row wc34 u 42 privZ ∧ w5.heap.size ≤ u) := Lib.hid ⟨by rw [← hwc, ← hu]; exact Row.new _ _ _, by rw [← hu]; exact HN6.out.1.size⟩
        try rw [hwc]
        try rw [hu]
        clear hwc hu hpc
        refine hK.out _ _ (HSS.out _ HNc34.out.1) (fun hH => ?_)
        clear hK K
        (try dsimp only [Act.put])
        (try simp only [List.setIfInBounds_toArray, List.set_cons_zero, List.set_cons_succ])
        refine wpAnyH_ready (rs := [1]) (by kernel_rfl) (by simp) ?_
        refine AllReadyH.cons (by simp only [List.getElem?_toArray, List.getElem?_cons_succ, List.getElem?_cons_zero]; rfl) (fun K hK => ?_) AllReadyH.nil
        go_simp
        have hen := HEN.out
        go_simp
        refine (HT1.out _ HNc34.out.1 HNc34.out.2).mono ?_
        rintro e35 wc35 ⟨rfl, hw⟩
        clear hen
        have HNc35 : Hid (w5.grownBy wc35 (some ha) ∧ Row wc35 ha 3 #[.int .i64 32]) := Lib.hid (by rw [hw]; exact ⟨only_setCell HNc34.out.1 (.inl rfl) _, Row.set HNc34.out.2 0 _⟩)
        have HRc35 : Hid (Row wc35 u 42 privZ ∧ w5.heap.size ≤ u) := Lib.hid ⟨by rw [hw]; exact HRc34.out.1.setOther (by have := HRc34.out.2; have := HA5.out.lt; omega) _ _, HRc34.out.2⟩
        clear hw
        refine hK.out _ _ (HSS.out _ HNc35.out.1) (fun hH => ?_)
        clear hK K
        (try dsimp only [Act.put])
        (try simp only [List.setIfInBounds_toArray, List.set_cons_zero, List.set_cons_succ])
        refine wpAnyH_ready (rs := [2]) (by kernel_rfl) (by simp) ?_
        refine AllReadyH.cons (by simp only [List.getElem?_toArray, List.getElem?_cons_succ, List.getElem?_cons_zero]; rfl) (fun K hK => ?_) AllReadyH.nil
        go_simp
        refine (HC1.out _ HNc35.out.1).mono ?_
        rintro e36 wc36 ⟨g1, d1, rfl, hs, hgs, hp⟩
        have HNc36 : Hid (w5.grownBy wc36 (some ha) ∧ Row wc36 ha 3 #[.int .i64 32]) := Lib.hid (⟨only_trans HNc35.out.1 (only_of_past hp _), HNc35.out.2.past hp⟩)
        have HRc36 : Hid (Row wc36 u 42 privZ ∧ w5.heap.size ≤ u) := Lib.hid ⟨HRc35.out.1.past hp, HRc35.out.2⟩
        have HS1_36 : Hid (Sl wc36 (some ⟨g1, 0, none⟩) 32 d1 (seg xs 0 32) ∧ g1 ≠ ha ∧ w5.heap.size ≤ g1) := Lib.hid ⟨hs, by have := HNc35.out.2.lt; omega, Nat.le_trans HNc35.out.1.size hgs⟩
        clear hs hgs hp
        refine hK.out _ _ (HSS.out _ HNc36.out.1) (fun hH => ?_)
        clear hK K
        (try dsimp only [Act.put])
        (try simp only [List.setIfInBounds_toArray, List.set_cons_zero, List.set_cons_succ])
        refine wpAnyH_ready (rs := [4]) (by kernel_rfl) (by simp) ?_
        refine AllReadyH.cons (by simp only [List.getElem?_toArray, List.getElem?_cons_succ, List.getElem?_cons_zero]; rfl) (fun K hK => ?_) AllReadyH.nil
        go_simp
        have hen := HEN.out
        go_simp
        refine (HT2.out _ HNc36.out.1 HNc36.out.2).mono ?_
        rintro e37 wc37 ⟨rfl, hw⟩
        clear hen
        have HNc37 : Hid (w5.grownBy wc37 (some ha) ∧ Row wc37 ha 3 #[.int .i64 64]) := Lib.hid (by rw [hw]; exact ⟨only_setCell HNc36.out.1 (.inl rfl) _, Row.set HNc36.out.2 0 _⟩)
        have HS1_37 : Hid (Sl wc37 (some ⟨g1, 0, none⟩) 32 d1 (seg xs 0 32) ∧ g1 ≠ ha ∧ w5.heap.size ≤ g1) := Lib.hid ⟨by rw [hw]; exact HS1_36.out.1.setCell (HNc36.out.2.cell 0) (fun x e => by cases e), HS1_36.out.2⟩
        have HRc37 : Hid (Row wc37 u 42 privZ ∧ w5.heap.size ≤ u) := Lib.hid ⟨by rw [hw]; exact HRc36.out.1.setOther (by have := HRc36.out.2; have := HA5.out.lt; omega) _ _, HRc36.out.2⟩
        clear hw
        refine hK.out _ _ (HSS.out _ HNc37.out.1) (fun hH => ?_)
        clear hK K
        (try dsimp only [Act.put])
        (try simp only [List.setIfInBounds_toArray, List.set_cons_zero, List.set_cons_succ])
        refine wpAnyH_ready (rs := [5]) (by kernel_rfl) (by simp) ?_
        refine AllReadyH.cons (by simp only [List.getElem?_toArray, List.getElem?_cons_succ, List.getElem?_cons_zero]; rfl) (fun K hK => ?_) AllReadyH.nil
        go_simp
        refine (HC2.out _ HNc37.out.1).mono ?_
        rintro e38 wc38 ⟨g2, d2, rfl, hs, hgs, hp⟩
        have HNc38 : Hid (w5.grownBy wc38 (some ha) ∧ Row wc38 ha 3 #[.int .i64 64]) := Lib.hid (⟨only_trans HNc37.out.1 (only_of_past hp _), HNc37.out.2.past hp⟩)
        have HS1_38 : Hid (Sl wc38 (some ⟨g1, 0, none⟩) 32 d1 (seg xs 0 32) ∧ g1 ≠ ha ∧ w5.heap.size ≤ g1) := Lib.hid ⟨HS1_37.out.1.past hp, HS1_37.out.2⟩
        have HRc38 : Hid (Row wc38 u 42 privZ ∧ w5.heap.size ≤ u) := Lib.hid ⟨HRc37.out.1.past hp, HRc37.out.2⟩
        have HS2_38 : Hid (Sl wc38 (some ⟨g2, 0, none⟩) 32 d2 (seg xs 32 32) ∧ g2 ≠ ha ∧ w5.heap.size ≤ g2) := Lib.hid ⟨hs, by have := HNc37.out.2.lt; omega, Nat.le_trans HNc37.out.1.size hgs⟩
        clear hs hgs hp
        refine hK.out _ _ (HSS.out _ HNc38.out.1) (fun hH => ?_)
        clear hK K
        (try dsimp only [Act.put])
        (try simp only [List.setIfInBounds_toArray, List.set_cons_zero, List.set_cons_succ])
        refine wpAnyH_ready (rs := [7]) (by kernel_rfl) (by simp) ?_
        refine AllReadyH.cons (by simp only [List.getElem?_toArray, List.getElem?_cons_succ, List.getElem?_cons_zero]; rfl) (fun K hK => ?_) AllReadyH.nil
        go_simp
        have hen := HEN.out
        go_simp
        refine (HT3.out _ HNc38.out.1 HNc38.out.2).mono ?_
        rintro e39 wc39 ⟨rfl, hw⟩
        clear hen
        have HNc39 : Hid (w5.grownBy wc39 (some ha) ∧ Row wc39 ha 3 #[.int .i64 128]) := Lib.hid (by rw [hw]; exact ⟨only_setCell HNc38.out.1 (.inl rfl) _, Row.set HNc38.out.2 0 _⟩)
        have HS1_39 : Hid (Sl wc39 (some ⟨g1, 0, none⟩) 32 d1 (seg xs 0 32) ∧ g1 ≠ ha ∧ w5.heap.size ≤ g1) := Lib.hid ⟨by rw [hw]; exact HS1_38.out.1.setCell (HNc38.out.2.cell 0) (fun x e => by cases e), HS1_38.out.2⟩
        have HS2_39 : Hid (Sl wc39 (some ⟨g2, 0, none⟩) 32 d2 (seg xs 32 32) ∧ g2 ≠ ha ∧ w5.heap.size ≤ g2) := Lib.hid ⟨by rw [hw]; exact HS2_38.out.1.setCell (HNc38.out.2.cell 0) (fun x e => by cases e), HS2_38.out.2⟩
        have HRc39 : Hid (Row wc39 u 42 privZ ∧ w5.heap.size ≤ u) := Lib.hid ⟨by rw [hw]; exact HRc38.out.1.setOther (by have := HRc38.out.2; have := HA5.out.lt; omega) _ _, HRc38.out.2⟩
        clear hw
        refine hK.out _ _ (HSS.out _ HNc39.out.1) (fun hH => ?_)
        clear hK K
        (try dsimp only [Act.put])
        (try simp only [List.setIfInBounds_toArray, List.set_cons_zero, List.set_cons_succ])
        refine wpAnyH_ready (rs := [8]) (by kernel_rfl) (by simp) ?_
        refine AllReadyH.cons (by simp only [List.getElem?_toArray, List.getElem?_cons_succ, List.getElem?_cons_zero]; rfl) (fun K hK => ?_) AllReadyH.nil
        go_simp
        refine (HC3.out _ HNc39.out.1).mono ?_
        rintro e40 wc40 ⟨g3, d3, rfl, hs, hgs, hp⟩
        have HNc40 : Hid (w5.grownBy wc40 (some ha) ∧ Row wc40 ha 3 #[.int .i64 128]) := Lib.hid (⟨only_trans HNc39.out.1 (only_of_past hp _), HNc39.out.2.past hp⟩)
        have HS1_40 : Hid (Sl wc40 (some ⟨g1, 0, none⟩) 32 d1 (seg xs 0 32) ∧ g1 ≠ ha ∧ w5.heap.size ≤ g1) := Lib.hid ⟨HS1_39.out.1.past hp, HS1_39.out.2⟩
        have HS2_40 : Hid (Sl wc40 (some ⟨g2, 0, none⟩) 32 d2 (seg xs 32 32) ∧ g2 ≠ ha ∧ w5.heap.size ≤ g2) := Lib.hid ⟨HS2_39.out.1.past hp, HS2_39.out.2⟩
        have HRc40 : Hid (Row wc40 u 42 privZ ∧ w5.heap.size ≤ u) := Lib.hid ⟨HRc39.out.1.past hp, HRc39.out.2⟩
        have HS3_40 : Hid (Sl wc40 (some ⟨g3, 0, none⟩) 64 d3 (seg xs 64 64) ∧ g3 ≠ ha ∧ w5.heap.size ≤ g3) := Lib.hid ⟨hs, by have := HNc39.out.2.lt; omega, Nat.le_trans HNc39.out.1.size hgs⟩
        clear hs hgs hp
        refine hK.out _ _ (HSS.out _ HNc40.out.1) (fun hH => ?_)
        clear hK K
        (try dsimp only [Act.put])
        (try simp only [List.setIfInBounds_toArray, List.set_cons_zero, List.set_cons_succ])
        refine held_take 9 41 (v := .agg #[.slice (some ⟨g1, 0, none⟩) 32 d1, .slice (some ⟨g2, 0, none⟩) 32 d2, .slice (some ⟨g3, 0, none⟩) 64 d3, nilS, nilS, nilS]) rfl rfl (by kernel_rfl) (by kernel_rfl) (by kernel_rfl) (fun _ _ _ h => h) (Or.inl ⟨by kernel_rfl, fun w _ => by go_simp⟩) hH ?_
        (try simp only [List.setIfInBounds_toArray, List.set_cons_zero, List.set_cons_succ])
        refine wpAnyH_ready (rs := [11]) (by kernel_rfl) (by simp) ?_
        refine AllReadyH.cons (by simp only [List.getElem?_toArray, List.getElem?_cons_succ, List.getElem?_cons_zero]; rfl) (fun K hK => ?_) AllReadyH.nil
        have hrc : Row wc40 u 42 privZ := HRc40.out.1
        refine step_wanted18 rfl ?_
        refine wp_store_row 42 (.tmp 15) (.tmp 41) rfl u #[.slice (some ⟨g1, 0, none⟩) 32 d1, .slice (some ⟨g2, 0, none⟩) 32 d2, .slice (some ⟨g3, 0, none⟩) 64 d3, nilS, nilS, nilS] rfl rfl _ _ hrc (infV _ rfl) rfl (by simp [Value.oneCell']) ?_
        obtain ⟨wc41, hwc⟩ : ∃ w', wc40.setRow u #[.slice (some ⟨g1, 0, none⟩) 32 d1, .slice (some ⟨g2, 0, none⟩) 32 d2, .slice (some ⟨g3, 0, none⟩) 64 d3, nilS, nilS, nilS] = w' := ⟨_, rfl⟩
        have HPT : Hid (PrtP w5 wc41 ha u xs g1 d1 g2 d2 g3 d3) := Lib.hid (prt_mk hwc HNc40.out.1 HNc40.out.2 HRc40.out.1 HRc40.out.2 HA5.out.lt HS1_40.out HS2_40.out HS3_40.out)
        have HNc41 : Hid (w5.grownBy wc41 (some ha) ∧ True) := Lib.hid ⟨HPT.out.1, trivial⟩
        rw [hwc]
        clear hwc hrc
        refine hK.out _ _ (HSS.out _ HNc41.out.1) (fun hH => ?_)
        clear hK K
        (try dsimp only [Act.put])
        (try simp only [List.setIfInBounds_toArray, List.set_cons_zero, List.set_cons_succ])
        refine wpAnyH_done (by kernel_rfl) ?_ _
        go_simp
        go_wp2_with fail
        go_meet
        case rel => exact ⟨_, _, _, _, _, _, _, rfl, HPT⟩
    case rest =>
      obtain ⟨u, g1, d1, g2, d2, g3, d3, rfl, HPT⟩ := hcut
      have HSTA := Lib.hid HPT.out.st
      clear HPT HSS HEN HT1 HT2 HT3 HC1 HC2 HC3
      have hen := HEN3.out
      have HLW := Lib.hid HA5.out.lt
      go_wp2_with fail
      refine (HPS.out _).mono ?_
      rintro e w7 ⟨rfl, hp7⟩
      have HST7 := Lib.hid (HSTA.out.past hp7)
      have HNE7 : Hid (w5.heap.size ≤ w7.heap.size) := Lib.hid HST7.out.gr.size
      have HX7 := Lib.hid (next3_any (eD a : Int) (wD a : Int) ha (ha + 1) w7)
      obtain ⟨h7, hh7⟩ : ∃ h, w7.heap.size = h := ⟨_, rfl⟩
      obtain ⟨w8, hw8⟩ : ∃ W, w7.alloc (.cells (pkV (eD a : Int) (wD a : Int)) 85) = W := ⟨_, rfl⟩
      have hp8 : Past w7 w8 := by rw [← hw8]; exact (Below.refl _ _).alloc (Nat.le_refl _) _
      have HST8 := Lib.hid (HST7.out.past hp8)
      have HR8 : Hid (Row w8 h7 85 (pkV (eD a : Int) (wD a : Int))) := Lib.hid (by rw [← hw8, ← hh7]; exact Row.new _ _ _)
      rw [hh7, hw8] at HX7
      have HH7 : Hid (h7 ≠ ha) := Lib.hid (by have h1 := HNE7.out; have h2 := HLW.out; omega)
      have hz := HZZ.out
      have hnn := HNN.out
      have HL8 := Lib.hid (listed_any hk ha (ha + 1) h7 b o n c 128 (wD a) (lD a) xs (eD a : Int) w8 (HNX.out w8 h7 _ _ HST8.out.gr HR8.out HH7.out) HST8.out.pos (by
        have h1 := hz.1
        have h2 := hnn.2.2.1
        have h3 := Nat.mul_le_mul_left (zD a) (show lD a ≤ kD a + lD a by omega)
        rw [Nat.mul_comm (lD a), ← hz.2.2.2.2]
        omega) hnn.1 (by omega) (by omega) (by omega) (by have := HE2.out; omega) (by omega))
      clear hp7 hp8 hh7 hw8 hz hnn
      go_wp2_with fail
      refine HX7.out.mono ?_
      rintro e w8' ⟨rfl, hw8'⟩
      rw [hw8']
      clear hw8' HX7
      go_wp2_with fail
      refine HL8.out.mono ?_
      intro e w19 hls
      obtain ⟨hgr, hh⟩ := hls
      have HWA : Hid (w.heap.size ≤ ha) := Lib.hid (by have h1 := HBA.out; omega)
      rcases hh with ⟨p1, c1, rfl, hpl, hrow, hply, hpos, hok⟩ | ⟨i, hi, hbad, hlow, rfl⟩
      · have HST19 := Lib.hid (HST8.out.grown HLW.out hgr hpos)
        have HQ1 : Hid (Row w19 p1 57 c1 ∧ w5.heap.size ≤ p1 ∧ p1 ≠ u) := Lib.hid ⟨hrow, Nat.le_trans HST8.out.gr.size hpl, Row.ne hrow HST19.out.row (by decide)⟩
        have HPY1 := Lib.hid hply
        have HOK1 := Lib.hid hok
        have r3 := HST19.out.row.cell 3
        have f3 := HST19.out.row.fr 3
        simp only [List.getElem?_toArray, List.getElem?_cons_succ, List.getElem?_cons_zero] at r3
        obtain ⟨w1t, hwt⟩ : ∃ W, w19.setCell ⟨u, 3, none⟩ (.slice (some ⟨p1, 0, none⟩) (lD a) (lD a)) = W := ⟨_, rfl⟩
        have HST1t := Lib.hid (show St18 w5 w1t ha u xs _ g1 d1 g2 d2 g3 d3 (.slice (some ⟨p1, 0, none⟩) (lD a) (lD a)) nilS nilS from by rw [← hwt]; exact HST19.out.sets HLW.out 3 _ nilS r3 (fun x e => by cases e) rfl)
        have HQ1t : Hid (Row w1t p1 57 c1 ∧ w5.heap.size ≤ p1 ∧ p1 ≠ u) := Lib.hid ⟨by rw [← hwt]; exact HQ1.out.1.setOther HQ1.out.2.2.symm _ _, HQ1.out.2⟩
        have HWT := Lib.hid hwt
        clear hwt hrow hpl hply hpos hok hgr hen
        go_upto_region 13 with (fail)
        rw [HWT.out]
        clear HWT r3 f3
        clear HQ1
        have HQ1 := HQ1t
        clear HQ1t
        have hen := HEN3.out
        go_wp2_with fail
        refine (HPS.out _).mono ?_
        rintro e w27 ⟨rfl, hp7⟩
        have HST7 := Lib.hid (HST1t.out.past hp7)
        have HNE7 : Hid (w5.heap.size ≤ w27.heap.size) := Lib.hid HST7.out.gr.size
        have HX7 := Lib.hid (next3_any (eD a : Int) (wD a : Int) ha (ha + 1) w27)
        obtain ⟨h27, hh7⟩ : ∃ h, w27.heap.size = h := ⟨_, rfl⟩
        obtain ⟨w28, hw8⟩ : ∃ W, w27.alloc (.cells (pkV (eD a : Int) (wD a : Int)) 85) = W := ⟨_, rfl⟩
        have hp8 : Past w27 w28 := by rw [← hw8]; exact (Below.refl _ _).alloc (Nat.le_refl _) _
        have HST28 := Lib.hid (HST7.out.past hp8)
        have HR8 : Hid (Row w28 h27 85 (pkV (eD a : Int) (wD a : Int))) := Lib.hid (by rw [← hw8, ← hh7]; exact Row.new _ _ _)
        rw [hh7, hw8] at HX7
        have HH7 : Hid (h27 ≠ ha) := Lib.hid (by have h1 := HNE7.out; have h2 := HLW.out; omega)
        have hz := HZZ.out
        have hnn := HNN.out
        have HL8 := Lib.hid (listed_any hk ha (ha + 1) h27 b o n c (128 + lD a * zD a) (wD a) (kD a) xs (eD a : Int) w28 (HNX.out w28 h27 _ _ HST28.out.gr HR8.out HH7.out) HST28.out.pos (by
          have h1 := hz.1
          have h2 := hnn.2.2.1
          have h3 : zD a * (kD a + lD a) = kD a * (32 * wD a) + lD a * zD a := by rw [← hz.2.2.2.2, Nat.mul_add, Nat.mul_comm (zD a), Nat.mul_comm (zD a)]
          omega) hnn.1 (by omega) (by omega) (by omega) (by have := HE2.out; omega) (by omega))
        have HQ1_ := Lib.hid (show Row _ _ _ _ ∧ _ ∧ _ from ⟨HQ1.out.1.past (hp7.trans' hp8), HQ1.out.2⟩)
        clear HQ1
        have HQ1 := HQ1_
        clear HQ1_
        clear hp7 hp8 hh7 hw8 hz hnn
        go_wp2_with fail
        refine HX7.out.mono ?_
        rintro e w8' ⟨rfl, hw8'⟩
        rw [hw8']
        clear hw8' HX7
        go_wp2_with fail
        refine HL8.out.mono ?_
        intro e w29 hls
        obtain ⟨hgr, hh⟩ := hls
        rcases hh with ⟨p2, c2, rfl, hpl, hrow, hply, hpos, hok⟩ | ⟨i, hi, hbad, hlow, rfl⟩
        · have HST29 := Lib.hid (HST28.out.grown HLW.out hgr hpos)
          have HQ2 : Hid (Row w29 p2 57 c2 ∧ w5.heap.size ≤ p2 ∧ p2 ≠ u) := Lib.hid ⟨hrow, Nat.le_trans HST28.out.gr.size hpl, Row.ne hrow HST29.out.row (by decide)⟩
          have HPY2 := Lib.hid hply
          have HOK2 := Lib.hid hok
          have HQ1_29 : Hid (Row w29 p1 57 c1 ∧ w5.heap.size ≤ p1 ∧ p1 ≠ u) := Lib.hid ⟨HQ1.out.1.grown hgr (by have h1 := HQ1.out.2.1; have h2 := HLW.out; simp; omega), HQ1.out.2⟩
          have r3 := HST29.out.row.cell 4
          have f3 := HST29.out.row.fr 4
          simp only [List.getElem?_toArray, List.getElem?_cons_succ, List.getElem?_cons_zero] at r3
          obtain ⟨w2t, hwt⟩ : ∃ W, w29.setCell ⟨u, 4, none⟩ (.slice (some ⟨p2, 0, none⟩) (kD a) (kD a)) = W := ⟨_, rfl⟩
          have HST2t := Lib.hid (show St18 w5 w2t ha u xs _ g1 d1 g2 d2 g3 d3 (.slice (some ⟨p1, 0, none⟩) (lD a) (lD a)) (.slice (some ⟨p2, 0, none⟩) (kD a) (kD a)) nilS from by rw [← hwt]; exact HST29.out.sets HLW.out 4 _ nilS r3 (fun x e => by cases e) rfl)
          have HQ2t : Hid (Row w2t p2 57 c2 ∧ w5.heap.size ≤ p2 ∧ p2 ≠ u) := Lib.hid ⟨by rw [← hwt]; exact HQ2.out.1.setOther HQ2.out.2.2.symm _ _, HQ2.out.2⟩
          have HQ1_2t : Hid (Row w2t p1 57 c1 ∧ w5.heap.size ≤ p1 ∧ p1 ≠ u) := Lib.hid ⟨by rw [← hwt]; exact HQ1_29.out.1.setOther HQ1_29.out.2.2.symm _ _, HQ1_29.out.2⟩
          have HWT := Lib.hid hwt
          clear hwt hrow hpl hply hpos hok hgr hen
          go_upto_region 16 with (fail)
          rw [HWT.out]
          clear HWT r3 f3
          clear HQ1 HQ1_29
          have HQ1 := HQ1_2t
          clear HQ1_2t
          clear HQ2
          have HQ2 := HQ2t
          clear HQ2t
          have hen := HEN3.out
          go_wp2_with fail
          refine (HPT0.out _).mono ?_
          rintro e w37 ⟨rfl, hp7⟩
          have HST7 := Lib.hid (HST2t.out.past hp7)
          have HNE7 : Hid (w5.heap.size ≤ w37.heap.size) := Lib.hid HST7.out.gr.size
          have HX7 := Lib.hid (next3_any (4096 : Int) (13 : Int) ha (ha + 1) w37)
          obtain ⟨h37, hh7⟩ : ∃ h, w37.heap.size = h := ⟨_, rfl⟩
          obtain ⟨w38, hw8⟩ : ∃ W, w37.alloc (.cells (pkV (4096 : Int) (13 : Int)) 85) = W := ⟨_, rfl⟩
          have hp8 : Past w37 w38 := by rw [← hw8]; exact (Below.refl _ _).alloc (Nat.le_refl _) _
          have HST38 := Lib.hid (HST7.out.past hp8)
          have HR8 : Hid (Row w38 h37 85 (pkV (4096 : Int) (13 : Int))) := Lib.hid (by rw [← hw8, ← hh7]; exact Row.new _ _ _)
          rw [hh7, hw8] at HX7
          have HH7 : Hid (h37 ≠ ha) := Lib.hid (by have h1 := HNE7.out; have h2 := HLW.out; omega)
          have hz := HZZ.out
          have hnn := HNN.out
          have HL8 := Lib.hid (listed_any hk ha (ha + 1) h37 b o n c (128 + lD a * zD a + kD a * (32 * wD a)) 13 (kD a) xs 4096 w38 (HNX.out w38 h37 4096 13 HST38.out.gr HR8.out HH7.out) HST38.out.pos (by
            have h1 := hz.1
            have h2 := hnn.2.2.1
            have h3 : zD a * (kD a + lD a) = kD a * (32 * wD a) + lD a * zD a := by rw [← hz.2.2.2.2, Nat.mul_add, Nat.mul_comm (zD a), Nat.mul_comm (zD a)]
            omega) hnn.1 (by omega) (by omega) (by omega) (by omega) (by omega))
          have HQ1_ := Lib.hid (show Row _ _ _ _ ∧ _ ∧ _ from ⟨HQ1.out.1.past (hp7.trans' hp8), HQ1.out.2⟩)
          clear HQ1
          have HQ1 := HQ1_
          clear HQ1_
          have HQ2_ := Lib.hid (show Row _ _ _ _ ∧ _ ∧ _ from ⟨HQ2.out.1.past (hp7.trans' hp8), HQ2.out.2⟩)
          clear HQ2
          have HQ2 := HQ2_
          clear HQ2_
          clear hp7 hp8 hh7 hw8 hz hnn
          go_wp2_with fail
          refine HX7.out.mono ?_
          rintro e w8' ⟨rfl, hw8'⟩
          rw [hw8']
          clear hw8' HX7
          go_wp2_with fail
          refine HL8.out.mono ?_
          intro e w39 hls
          obtain ⟨hgr, hh⟩ := hls
          rcases hh with ⟨p3, c3, rfl, hpl, hrow, hply, hpos, hok⟩ | ⟨i, hi, hbad, hlow, rfl⟩
          · have HST39 := Lib.hid (HST38.out.grown HLW.out hgr hpos)
            have HQ3 : Hid (Row w39 p3 57 c3 ∧ w5.heap.size ≤ p3 ∧ p3 ≠ u) := Lib.hid ⟨hrow, Nat.le_trans HST38.out.gr.size hpl, Row.ne hrow HST39.out.row (by decide)⟩
            have HPY3 := Lib.hid hply
            have HOK3 := Lib.hid hok
            have HQ1_39 : Hid (Row w39 p1 57 c1 ∧ w5.heap.size ≤ p1 ∧ p1 ≠ u) := Lib.hid ⟨HQ1.out.1.grown hgr (by have h1 := HQ1.out.2.1; have h2 := HLW.out; simp; omega), HQ1.out.2⟩
            have HQ2_39 : Hid (Row w39 p2 57 c2 ∧ w5.heap.size ≤ p2 ∧ p2 ≠ u) := Lib.hid ⟨HQ2.out.1.grown hgr (by have h1 := HQ2.out.2.1; have h2 := HLW.out; simp; omega), HQ2.out.2⟩
            have r3 := HST39.out.row.cell 5
            have f3 := HST39.out.row.fr 5
            simp only [List.getElem?_toArray, List.getElem?_cons_succ, List.getElem?_cons_zero] at r3
            obtain ⟨w3t, hwt⟩ : ∃ W, w39.setCell ⟨u, 5, none⟩ (.slice (some ⟨p3, 0, none⟩) (kD a) (kD a)) = W := ⟨_, rfl⟩
            have HST3t := Lib.hid (show St18 w5 w3t ha u xs _ g1 d1 g2 d2 g3 d3 (.slice (some ⟨p1, 0, none⟩) (lD a) (lD a)) (.slice (some ⟨p2, 0, none⟩) (kD a) (kD a)) (.slice (some ⟨p3, 0, none⟩) (kD a) (kD a)) from by rw [← hwt]; exact HST39.out.sets HLW.out 5 _ nilS r3 (fun x e => by cases e) rfl)
            have HQ3t : Hid (Row w3t p3 57 c3 ∧ w5.heap.size ≤ p3 ∧ p3 ≠ u) := Lib.hid ⟨by rw [← hwt]; exact HQ3.out.1.setOther HQ3.out.2.2.symm _ _, HQ3.out.2⟩
            have HQ1_3t : Hid (Row w3t p1 57 c1 ∧ w5.heap.size ≤ p1 ∧ p1 ≠ u) := Lib.hid ⟨by rw [← hwt]; exact HQ1_39.out.1.setOther HQ1_39.out.2.2.symm _ _, HQ1_39.out.2⟩
            have HQ2_3t : Hid (Row w3t p2 57 c2 ∧ w5.heap.size ≤ p2 ∧ p2 ≠ u) := Lib.hid ⟨by rw [← hwt]; exact HQ2_39.out.1.setOther HQ2_39.out.2.2.symm _ _, HQ2_39.out.2⟩
            have HWT := Lib.hid hwt
            clear hwt hrow hpl hply hpos hok hgr hen
            go_upto_region 19 with (fail)
            rw [HWT.out]
            clear HWT r3 f3
            clear HQ1 HQ1_39
            have HQ1 := HQ1_3t
            clear HQ1_3t
            clear HQ2 HQ2_39
            have HQ2 := HQ2_3t
            clear HQ2_3t
            clear HQ3
            have HQ3 := HQ3t
            clear HQ3t
            have hen := HEN3.out
            have hru := HST3t.out.row
            have hrk : Row w3t (hk + 1) 42 privZ := HR5.out.grown HST3t.out.gr (by simpa using HK5.out.2.2.2)
            have HGD : Hid (chkD a xs = (0, 0)) := Lib.hid (chkD_good HA.out (HNN.out.2.2.2.trans HNN.out.2.2.1) (fun j hj => by
              by_cases hjl : j < lD a
              · exact HOK1.out j hjl
              · have h2 := HOK2.out (j - lD a) (by omega)
                have e : 128 + lD a * zD a + (j - lD a) * (32 * wD a) = 128 + j * zD a := by
                  have h3 : (j - lD a) * zD a + lD a * zD a = j * zD a := by rw [← Nat.add_mul]; congr 1; omega
                  have h4 : 32 * wD a = zD a := rfl
                  rw [h4]
                  omega
                simp only [e] at h2
                exact h2))
            have HPZ : Hid (Past w w3t) := Lib.hid (past_of_only HP5.out HST3t.out.gr HP5.out.size HWA.out)
            have hlk := HR5.out.lt
            have hgz : w3t.grownBy (w3t.setRow (hk + 1) #[.slice (some ⟨g1, 0, none⟩) 32 d1, .slice (some ⟨g2, 0, none⟩) 32 d2, .slice (some ⟨g3, 0, none⟩) 64 d3, .slice (some ⟨p1, 0, none⟩) (lD a) (lD a), .slice (some ⟨p2, 0, none⟩) (kD a) (kD a), .slice (some ⟨p3, 0, none⟩) (kD a) (kD a)]) (some (hk + 1)) := setRow_grown13 _ _ _
            have n1 : g1 ≠ hk + 1 := sl_row_ne HST3t.out.a1 (by decide) hrk (by simp)
            have n2 : g2 ≠ hk + 1 := sl_row_ne HST3t.out.a2 (by decide) hrk (by simp)
            have n3 : g3 ≠ hk + 1 := sl_row_ne HST3t.out.a3 (by decide) hrk (by simp)
            have HFIN : Hid (Sl (w3t.setRow (hk + 1) #[.slice (some ⟨g1, 0, none⟩) 32 d1, .slice (some ⟨g2, 0, none⟩) 32 d2, .slice (some ⟨g3, 0, none⟩) 64 d3, .slice (some ⟨p1, 0, none⟩) (lD a) (lD a), .slice (some ⟨p2, 0, none⟩) (kD a) (kD a), .slice (some ⟨p3, 0, none⟩) (kD a) (kD a)]) (some ⟨g1, 0, none⟩) 32 d1 (seg xs 0 32) ∧ Sl (w3t.setRow (hk + 1) #[.slice (some ⟨g1, 0, none⟩) 32 d1, .slice (some ⟨g2, 0, none⟩) 32 d2, .slice (some ⟨g3, 0, none⟩) 64 d3, .slice (some ⟨p1, 0, none⟩) (lD a) (lD a), .slice (some ⟨p2, 0, none⟩) (kD a) (kD a), .slice (some ⟨p3, 0, none⟩) (kD a) (kD a)]) (some ⟨g2, 0, none⟩) 32 d2 (seg xs 32 32) ∧ Sl (w3t.setRow (hk + 1) #[.slice (some ⟨g1, 0, none⟩) 32 d1, .slice (some ⟨g2, 0, none⟩) 32 d2, .slice (some ⟨g3, 0, none⟩) 64 d3, .slice (some ⟨p1, 0, none⟩) (lD a) (lD a), .slice (some ⟨p2, 0, none⟩) (kD a) (kD a), .slice (some ⟨p3, 0, none⟩) (kD a) (kD a)]) (some ⟨g3, 0, none⟩) 64 d3 (seg xs 64 64)) :=
              Lib.hid ⟨HST3t.out.a1.far hgz (by simpa using n1), HST3t.out.a2.far hgz (by simpa using n2), HST3t.out.a3.far hgz (by simpa using n3)⟩
            have HRW := Lib.hid (fun p (c : Array Value) cs (h : Row w3t p 57 c ∧ w5.heap.size ≤ p ∧ p ≠ u) => (show Row (w3t.setRow (hk + 1) cs) p 57 c from (setRow_other w3t (hk + 1) p cs (by omega)).trans h.1))
            have HPA1 : Hid (∀ i, i < lD a → PlyAt c1 i (plyD (wD a) (eD a) (seg xs (128 + i * zD a) (zD a)))) := Lib.hid HPY1.out
            have HPA2 : Hid (∀ i, i < kD a → PlyAt c2 i (plyD (wD a) (eD a) (seg xs (128 + (lD a + i) * zD a) (zD a)))) := Lib.hid (fun i hi => by
              rw [Nat.add_mul, ← Nat.add_assoc]
              exact HPY2.out i hi)
            have HPA3 : Hid (∀ i, i < kD a → PlyAt c3 i (plyD 13 4096 (seg xs (128 + (lD a + kD a) * zD a + i * 416) 416))) := Lib.hid (fun i hi => by
              rw [Nat.add_mul, ← Nat.add_assoc]
              exact HPY3.out i hi)
            clear hen hlk hgz n1 n2 n3 HPY1 HPY2 HPY3
            go_wp2_with (first | (refine wpList_load_row rfl 42 _ rfl u rfl _ _ (0, 0) _ hru Tryz.underlying42 rfl (infV _ rfl) ?_) | (refine wpList_store_row rfl 42 _ _ rfl (hk + 1) _ rfl rfl _ _ hrk (infV _ rfl) rfl (by simp [Value.oneCell']) ?_))
            refine bodyPost_ret (results_cr rfl _ _ ⟨hk + 1, 0, none⟩ _ rfl (load_prv _ (hk + 1) _ (setRow_heap _ (hk + 1) _ _ _ _ hrk) rfl)) (by rfl) ?_
            exact ⟨below_setRow HPZ.out (by have := HGS.out; omega) _, .inr ⟨HGD.out, g1, d1, g2, d2, g3, d3, p1, p2, p3, c1, c2, c3, rfl, HFIN.out.1, HFIN.out.2.1, HFIN.out.2.2, HRW.out _ _ _ HQ1.out, HRW.out _ _ _ HQ2.out, HRW.out _ _ _ HQ3.out, HPA1.out, HPA2.out, HPA3.out⟩⟩

          · exact absurd (nrm_t0 _) hbad

        · have HCD : Hid (chkD a xs = (9, ((128 + (lD a + i) * zD a : Nat) : Int))) := Lib.hid (chkD_bad (i := lD a + i) HA.out (HNN.out.2.2.2.trans HNN.out.2.2.1) (by omega) (by rw [Nat.add_mul, ← Nat.add_assoc]; exact hbad) (fun j hj => by
            by_cases hjl : j < lD a
            · exact HOK1.out j hjl
            · have h2 := hlow (j - lD a) (by omega)
              have e : 128 + lD a * zD a + (j - lD a) * (32 * wD a) = 128 + j * zD a := by
                have h3 : (j - lD a) * zD a + lD a * zD a = j * zD a := by rw [← Nat.add_mul]; congr 1; omega
                have h4 : 32 * wD a = zD a := rfl
                rw [h4]
                omega
              simp only [e] at h2
              exact h2))
          obtain ⟨t, v, hv⟩ := errV_shape9 ((128 + lD a * zD a + i * (32 * wD a) : Nat) : Int)
          have HV : Hid (errV (chkD a xs) = .iface t v) := Lib.hid (by rw [HCD.out, ← hv]; rw [Nat.add_mul, ← Nat.add_assoc]; rfl)
          have hrk : Row w29 (hk + 1) 42 privZ := HR5.out.grown (only_trans HST28.out.gr hgr) (by simpa using HK5.out.2.2.2)
          have hru := HST28.out.row.grown hgr (by have h1 := HST28.out.hu; have h2 := HLW.out; simp; omega)
          have hgw := only_trans HST28.out.gr hgr
          have r3 := hru.cell 4
          have f3 := hru.fr 4
          simp only [List.getElem?_toArray, List.getElem?_cons_succ, List.getElem?_cons_zero] at r3
          obtain ⟨wz, hwz⟩ : ∃ W, w29.setCell ⟨u, 4, none⟩ nilS = W := ⟨_, rfl⟩
          have hrz : Row wz (hk + 1) 42 privZ := by rw [← hwz]; exact hrk.setOther (by have h1 := HST28.out.hu; have h2 := HR5.out.lt; omega) _ _
          have hgz : w5.grownBy wz (some ha) := by rw [← hwz]; exact only_setCell hgw (.inr HST28.out.hu) _
          have HPZ : Hid (Past w wz) := Lib.hid (past_of_only HP5.out hgz HP5.out.size HWA.out)
          have HWZ := Lib.hid hwz
          rw [hv]
          have HCN : Hid (chkD a xs ≠ (0, 0)) := Lib.hid (by rw [HCD.out]; intro e; cases e)
          clear hwz hgz hgw hrk hru hv hgr hlow hbad hi hen
          go_upto_region 15 with (fail)
          rw [HWZ.out]
          clear HWZ r3 f3
          go_wp2_with (refine wpList_store_row rfl 42 _ _ rfl (hk + 1) _ rfl rfl _ _ hrz (infV privZ rfl) rfl (by simp [Value.oneCell']) ?_)
          refine bodyPost_ret (results_cr rfl _ _ ⟨hk + 1, 0, none⟩ _ rfl (load_prv _ (hk + 1) _ (setRow_heap _ (hk + 1) _ _ _ _ hrz) rfl)) (by rfl) ?_
          exact ⟨below_setRow HPZ.out (by have := HGS.out; omega) _, .inl ⟨HCN.out, by rw [HV.out]; rfl⟩⟩

      · have HCD : Hid (chkD a xs = (9, ((128 + i * zD a : Nat) : Int))) := Lib.hid (chkD_bad HA.out (HNN.out.2.2.2.trans HNN.out.2.2.1) (by omega) hbad hlow)
        obtain ⟨t, v, hv⟩ := errV_shape9 ((128 + i * (32 * wD a) : Nat) : Int)
        have HV : Hid (errV (chkD a xs) = .iface t v) := Lib.hid (by rw [HCD.out, ← hv]; rfl)
        have hrk : Row w19 (hk + 1) 42 privZ := HR5.out.grown (only_trans HST8.out.gr hgr) (by simpa using HK5.out.2.2.2)
        have hru := HST8.out.row.grown hgr (by have h1 := HST8.out.hu; have h2 := HLW.out; simp; omega)
        have hgw := only_trans HST8.out.gr hgr
        have r3 := hru.cell 3
        have f3 := hru.fr 3
        simp only [List.getElem?_toArray, List.getElem?_cons_succ, List.getElem?_cons_zero] at r3
        obtain ⟨wz, hwz⟩ : ∃ W, w19.setCell ⟨u, 3, none⟩ nilS = W := ⟨_, rfl⟩
        have hrz : Row wz (hk + 1) 42 privZ := by rw [← hwz]; exact hrk.setOther (by have h1 := HST8.out.hu; have h2 := HR5.out.lt; omega) _ _
        have hgz : w5.grownBy wz (some ha) := by rw [← hwz]; exact only_setCell hgw (.inr HST8.out.hu) _
        have HPZ : Hid (Past w wz) := Lib.hid (past_of_only HP5.out hgz HP5.out.size HWA.out)
        have HWZ := Lib.hid hwz
        rw [hv]
        have HCN : Hid (chkD a xs ≠ (0, 0)) := Lib.hid (by rw [HCD.out]; intro e; cases e)
        clear hwz hgz hgw hrk hru hv hgr hlow hbad hi hen
        go_upto_region 12 with (fail)
        rw [HWZ.out]
        clear HWZ r3 f3
        go_wp2_with (refine wpList_store_row rfl 42 _ _ rfl (hk + 1) _ rfl rfl _ _ hrz (infV privZ rfl) rfl (by simp [Value.oneCell']) ?_)
        refine bodyPost_ret (results_cr rfl _ _ ⟨hk + 1, 0, none⟩ _ rfl (load_prv _ (hk + 1) _ (setRow_heap _ (hk + 1) _ _ _ _ hrz) rfl)) (by rfl) ?_
        exact ⟨below_setRow HPZ.out (by have := HGS.out; omega) _, .inl ⟨HCN.out, by rw [HV.out]; rfl⟩⟩

  · have HE : Hid (chkD a xs = R) := Lib.hid (by
      rw [← hR]
      unfold szE chkD at *
      by_cases h : a < 4 ∨ 6 < a
      · rw [if_pos h, if_pos h]
      · rw [if_neg h] at hR ⊢
        rw [if_neg h]
        simp only [(dsa_sizes (in46 h)).2] at hR ⊢
        rw [hl]
        by_cases h2 : (n : Int) ≠ (sD a : Int)
        · rw [if_pos h2, if_pos h2]
        · rw [if_neg h2] at hR
          exact absurd hR.symm hR0)
    have HR0 := Lib.hid hR0
    obtain ⟨E, hE⟩ : ∃ E, errV R = E := ⟨_, rfl⟩
    have HEV := Lib.hid hE
    have HSH : Hid (∃ t v, E = .iface t v) := Lib.hid (by
      rcases errV_shape R with h | h
      · exfalso
        unfold errV at h
        by_cases h1 : R.1 = 0
        · unfold szE at hR
          by_cases h3 : a < 4 ∨ 6 < a
          · rw [if_pos h3] at hR
            rw [← hR] at h1
            cases h1
          · rw [if_neg h3] at hR
            split at hR
            · rw [← hR] at h1
              cases h1
            · exact hR0 hR.symm
        · rw [if_neg h1] at h
          cases h
      · rw [← hE]
        exact h)
    rw [hE] at HCK
    clear hS hn hG hw1 hp1 hk1 hl hR hR0 hE
    go_enter Tryz.func16, Tryz.ntmps16
    go_upto_region 1 with (fail)
    rw [HW1.out]
    try rw [hhk]
    clear HW1 hhk
    go_wp2_with fail
    refine HCK.out.mono ?_
    rintro e w2 ⟨rfl, hp2⟩
    have HP2 := Lib.hid (HP1.out.trans' hp2)
    have hr2 := HR1.out.past hp2
    obtain ⟨t, v, hv⟩ := HSH.out
    rw [hv]
    have HV := Lib.hid hv
    clear hp2 hv k1 HCK HK1 HR1
    go_wp2_with (refine wpList_store_row rfl 42 _ _ rfl (hk + 1) _ rfl rfl _ _ hr2 (infV privZ rfl) rfl (by simp [Value.oneCell']) ?_)
    refine bodyPost_ret (results_cr rfl _ _ ⟨hk + 1, 0, none⟩ _ rfl (load_prv _ (hk + 1) _ (setRow_heap _ (hk + 1) _ _ _ _ hr2) rfl)) (by rfl) ?_
    exact ⟨below_setRow HP2.out (by have := HGS.out; omega) _, .inl ⟨by rw [HE.out]; exact HR0.out, by rw [HE.out, HEV.out, HV.out]; rfl⟩⟩
end Go.Proofs.YteflpbkdnebopaaGreatDoor
