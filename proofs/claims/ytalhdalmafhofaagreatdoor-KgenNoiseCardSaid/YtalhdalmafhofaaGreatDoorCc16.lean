/- slices.Grow of bytes, at nil. slices.Concat of bytes. -/
import Derived.Test.YtalhdalmafhofaaGreatDoorRow16
import Derived.Lib.AppendZerosOnto
import Derived.Laws.AppendOwn
import Derived.Test.YtalhdalmafhofaaGreatDoorSp7A
import Derived.Test.YtalhdalmafhofaaGreatDoorR15A
namespace Go.Proofs.YtalhdalmafhofaaGreatDoor
open Go.RowKit
set_option linter.unusedVariables false
set_option maxRecDepth 100000
set_option maxHeartbeats 2000000

theorem sgrow_zero (w : World) : Calls Tryz.prog 40 #[.slice none 0 0, .int .i64 0] w fun e w' => e = .returned (.slice none 0 0) ∧ w' = w := by
  go_enter Tryz.func40, Tryz.ntmps40
  go_wp2_with fail
  go_ret
  exact ⟨rfl, rfl⟩
theorem sgrow_any (n : Nat) (w : World) (h0 : 0 < n) (hb : n ≤ 100000) :
    Calls Tryz.prog 40 #[.slice none 0 0, .int .i64 (n : Int)] w fun e w' => ∃ c cs, n ≤ c ∧ c ≤ maxLen ∧ cs.size = c ∧ e = .returned (.slice (some ⟨w.heap.size, 0, none⟩) 0 c) ∧ w' = w.drew.alloc (.cells cs 5) := by
  have hi5 : (Tryz.prog.info? 5).map (fun i => (i.zero, i.size, i.bytes)) = some (some (.int .u8 0), 1, 1) := by kernel_rfl
  obtain ⟨i0, hi0, hz⟩ : ∃ i, Tryz.prog.info? 5 = some i ∧ (i.zero, i.size, i.bytes) = (some (.int .u8 0), 1, 1) := by
    cases h : Tryz.prog.info? 5 with
    | none => rw [h] at hi5; cases hi5
    | some i => rw [h] at hi5; exact ⟨i, rfl, Option.some.inj hi5⟩
  have hz0 : i0.zero = some (.int .u8 0) := congrArg (fun x => x.1) hz
  have hs1 : i0.size = 1 := congrArg (fun x => x.2.1) hz
  have hb1 : i0.bytes = 1 := congrArg (fun x => x.2.2) hz
  have hold : (Builtin.firstCells i0.size 0 (.slice none 0 0)).run Tryz.prog w.drew = .ok (#[] : Array Value) w.drew := run_firstCells_none w.drew i0.size 0 0 0
  have hrz : ∀ ty, (Builtin.append_ #[25, 3] ty #[.slice none 0 0, .int .i64 (n : Int)]).run Tryz.prog w =
      .ok (.slice (some ⟨w.heap.size, 0, none⟩) n (grownCap w n 0 5)) (w.drew.alloc (.cells ((#[] : Array Value) ++ Builtin.zeroCells (Value.int .u8 0).cells n ++ Builtin.zeroCells (Value.int .u8 0).cells (grownCap w n 0 5 - n)) 5)) := fun ty => by
    have h := Lib.run_append_grow_zeros w 25 3 ty 5 i0 (.int .u8 0) .i64 .i64 (by kernel_rfl) (by kernel_rfl) hi0 hz0 none 0 0 [] hold n h0 (by omega) (by omega) (by omega) (by rw [hb1]; omega)
      (growslice_fits (by omega) (by rw [hb1]; omega))
    rw [Nat.zero_add] at h
    exact h
  have hGn : n ≤ grownCap w n 0 5 := grownCap_ge w _ _ _
  obtain ⟨G, hG⟩ : ∃ G, G = grownCap w n 0 5 := ⟨_, rfl⟩
  rw [← hG] at hrz hGn
  have hGM : G ≤ maxLen := by rw [hG]; exact grownCap_le_maxLen w n 0 5 (by unfold maxLen; omega)
  have hG63 : G ≤ 9223372036854775807 := by
    have := grownCap_le_maxLen w n 0 5 (by unfold maxLen; omega)
    rw [← hG] at this
    unfold maxLen at this
    omega
  have hcs : ((#[] : Array Value) ++ Builtin.zeroCells (Value.int .u8 0).cells n ++ Builtin.zeroCells (Value.int .u8 0).cells (G - n)).size = G := by
    rw [Array.size_append, Array.size_append, size_zeroCells, size_zeroCells]
    simp [Value.cells]
    omega
  generalize ((#[] : Array Value) ++ Builtin.zeroCells (Value.int .u8 0).cells n ++ Builtin.zeroCells (Value.int .u8 0).cells (G - n)) = cs at *
  have HC := Lib.hid hcs
  clear hold hG hi5 hz hi0 hz0 hs1 hb1 hcs
  have h1 : ¬ ((n : Int) < 0) := by omega
  have h4 : (n : Int) > 0 := by omega
  have h5 : wrap64 ((n : Int) - 0) = (n : Int) := by unfold wrap64; omega
  go_enter Tryz.func40, Tryz.ntmps40
  go_wp2_with (at_builtin; refine Lib.wpList_append_run _ rfl _ _ _ _ rfl _ _ rfl rfl _ _ (hrz _) ?_)
  all_goals (go_ret; exact ⟨G, hGn, hGM, cs, HC.out, rfl, rfl⟩)
end Go.Proofs.YtalhdalmafhofaaGreatDoor

namespace Go.Proofs.YtalhdalmafhofaaGreatDoor
open Go.RowKit
set_option linter.unusedVariables false
set_option maxRecDepth 100000

theorem info_u8 : (Tryz.prog.info? 5).map (fun i => (i.zero, i.size, i.bytes)) = some (some (.int .u8 0), 1, 1) := by kernel_rfl
theorem sgrow_own (n : Nat) (w : World) (hb : n ≤ 100000) :
    Calls Tryz.prog 40 #[.slice none 0 0, .int .i64 (n : Int)] w fun e w' => ∃ v, e = .returned v ∧ w'.ownsRow w.heap.size 5 1 v 0 (([] : List Int).map (Value.int .u8)) ∧ Past w w' := by
  by_cases h0 : n = 0
  · subst h0
    refine (sgrow_zero w).mono fun e w' h => ⟨.slice none 0 0, h.1, ?_, by rw [h.2]; exact Below.refl _ _⟩
    exact ⟨by simp, .inl ⟨rfl, rfl⟩⟩
  · refine (sgrow_any n w (by omega) hb).mono ?_
    rintro e w' ⟨c, cs, h1, hM, h2, h3, rfl⟩
    refine ⟨_, h3, ?_, (Past.drewN (Below.refl _ w) 1).alloc (Nat.le_refl w.heap.size) _⟩
    exact World.ownsRow_made w.drew cs c (Nat.le_refl _) hM (by rw [h2]; omega)
set_option maxHeartbeats 2000000 in
theorem concat_any (P : Option Addr) (n c : Nat) (V : Nat → Option Addr) (C : Nat → Nat) (X : Nat → List Int) (w : World) (h : Sls w P n c V C X) (hn : n ≤ 1000) (hlen : (cat X n).length ≤ 100000) :
    Calls Tryz.prog 24 #[.slice P n c] w (OwnB (cat X n) w) := by
  have hcp := h.cap
  have H := Lib.hid h
  have HRG := Lib.hid (cat_rng X n h.rng)
  have HML : Hid (∀ i, i ≤ n → (cat X i).length ≤ 100000) := Lib.hid fun i hi => Nat.le_trans (cat_len_mono X hi) hlen
  clear h hlen
  go_enter Tryz.func24, Tryz.ntmps24
  go_wp2_with fail
  go_loopg [3, 5, 11] n (fun q s3 _ s11 wx => ∃ i : Nat, i ≤ n ∧ q = n - i ∧ s3 = .int .i64 ((cat X i).length : Int) ∧ s11 = .int .i64 (i : Int) ∧ Hid (Past w wx ∧ wx.heap.size = w.heap.size))
  case atStart => exact ⟨0, Nat.zero_le _, rfl, rfl, rfl, Lib.hid ⟨Below.refl _ _, rfl⟩⟩
  case round =>
    obtain ⟨i, hi, hq, rfl, rfl, HQ⟩ := hrel
    have HGQ := Lib.hid hq
    clear hq
    by_cases hlt : i < n
    · obtain ⟨b, o, rfl, hc⟩ := H.out.cells (by omega)
      have hcell : wr.cell? ⟨b, o + i, none⟩ = some (.slice (V i) (X i).length (C i)) := by
        rw [Below.cell HQ.out.1 (cell_lt (hc i hlt).1)]
        exact (hc i hlt).1
      have hj0 : (0 : Int) ≤ (i : Int) := by omega
      have hj1 : (i : Int) < (n : Int) := by omega
      have HCS : Hid ((cat X (i + 1)).length = (cat X i).length + (X i).length) := Lib.hid (by rw [cat_succ, List.length_append])
      have hm1 := HML.out (i + 1) hlt
      rw [HCS.out] at hm1
      clear hc
      obtain ⟨m, hm⟩ : ∃ m, (X i).length = m := ⟨_, rfl⟩
      obtain ⟨l, hl⟩ : ∃ l, (cat X i).length = l := ⟨_, rfl⟩
      rw [hm] at hcell HCS hm1
      rw [hl] at HCS hm1 ⊢
      generalize V i = Vi at *
      generalize C i = Ci at *
      have hw1 : wrap64 ((l : Int) + (m : Int)) = ((l + m : Nat) : Int) := by unfold wrap64; omega
      have hw2 : IntKind.i64.wrap ((l : Int) + (m : Int)) = ((l + m : Nat) : Int) := by rw [IntKind.wrap_i64]; omega
      have hneg : ¬ (((l + m : Nat) : Int) < 0) := by omega
      clear hm hl
      go_wp2_with fail
      go_roundg (n - (i + 1))
      case rel => exact ⟨i + 1, hlt, rfl, by rw [HCS.out, Int.natCast_add], by go_num, HQ⟩
      case measure => have := HGQ.out; omega
    · obtain rfl : i = n := by omega
      have HL := HML.out i (Nat.le_refl _)
      obtain ⟨L, hL⟩ : ∃ L, (cat X i).length = L := ⟨_, rfl⟩
      rw [hL] at HL ⊢
      have HGR := Lib.hid (sgrow_own L wr HL)
      have HLL := Lib.hid hL
      clear hL HL
      go_wp2_with fail
      refine HGR.out.mono ?_
      rintro e w2 ⟨v, rfl, hown, hp2⟩
      have HP2 := Lib.hid (HQ.out.1.trans' hp2)
      rw [HQ.out.2] at hown
      have HO : Hid (w2.ownsRow w.heap.size 5 1 v (cat X 0).length ((cat X 0).map (Value.int .u8))) := Lib.hid hown
      clear hown hp2 HGR
      go_wp2_with fail
      go_loopg [6, 8, 27] i (fun q s6 _ s27 wx => ∃ j : Nat, j ≤ i ∧ q = i - j ∧ s27 = .int .i64 (j : Int) ∧ Hid (wx.ownsRow w.heap.size 5 1 s6 (cat X j).length ((cat X j).map (Value.int .u8)) ∧ Past w wx))
      case atStart => exact ⟨0, Nat.zero_le _, rfl, rfl, Lib.hid ⟨HO.out, HP2.out⟩⟩
      case round =>
        clear HO HP2 HQ HGQ hlt
        obtain ⟨j, hj, hq, rfl, HR⟩ := hrel
        have HGQ := Lib.hid hq
        clear hq
        by_cases hlt : j < i
        · obtain ⟨b, o, rfl, hc⟩ := H.out.cells (by omega)
          have hcell : wr.cell? ⟨b, o + j, none⟩ = some (.slice (V j) (X j).length (C j)) := by
            rw [Below.cell HR.out.2 (cell_lt (hc j hlt).1)]
            exact (hc j hlt).1
          have HSJ := Lib.hid ((hc j hlt).2.past HR.out.2)
          have hj0 : (0 : Int) ≤ (j : Int) := by omega
          have hj1 : (j : Int) < (i : Int) := by omega
          have HCS : Hid ((cat X (j + 1)).length = (cat X j).length + (X j).length) := Lib.hid (by rw [cat_succ, List.length_append])
          have HM1 := Lib.hid (HML.out (j + 1) hlt)
          rw [HCS.out] at HM1
          have HX : Hid (cat X (j + 1) = cat X j ++ X j) := Lib.hid (cat_succ X j)
          have HOB := Lib.hid (own_block_ge HR.out.1)
          clear hc
          obtain ⟨m, hm⟩ : ∃ m, (X j).length = m := ⟨_, rfl⟩
          rw [hm] at hcell HCS HM1 HSJ
          generalize V j = Vj at *
          generalize C j = Cj at *
          clear hm
          go_wp2_with (at_builtin; refine wpList_append_sl rfl _ _ 25 5 rfl Tryz.underlying25 info_u8 w.heap.size _ (cat X j).length (cat X j) rfl HR.out.1 Vj m Cj (X j) rfl HSJ.out (by have := HM1.out; omega) HR.out.2.size ?_)
          intro v4 w4 hown4 hgrow4
          have HR4 : Hid (w4.ownsRow w.heap.size 5 1 v4 (cat X (j + 1)).length ((cat X (j + 1)).map (Value.int .u8)) ∧ Past w w4) := Lib.hid ⟨by rw [HCS.out, HX.out, List.map_append]; exact hown4, HR.out.2.grown hgrow4 HR.out.2.size HOB.out⟩
          clear hown4 hgrow4
          go_wp2_with fail
          go_roundg (i - (j + 1))
          case rel => exact ⟨j + 1, hlt, rfl, by go_num, HR4⟩
          case measure => have := HGQ.out; omega
        · obtain rfl : j = i := by omega
          go_wp2_with fail
          go_ret
          exact ⟨_, rfl, HR.out.1, HRG.out, HR.out.2⟩
end Go.Proofs.YtalhdalmafhofaaGreatDoor
