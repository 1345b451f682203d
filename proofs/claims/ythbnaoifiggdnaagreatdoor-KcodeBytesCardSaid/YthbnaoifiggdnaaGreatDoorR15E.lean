/- The reference's CheckPublic and CheckPrivate. The reference's CheckPrivate. -/
import Derived.Test.YthbnaoifiggdnaaGreatDoorR15C
import Derived.Deep.RegionHeld
namespace Go.Proofs.YthbnaoifiggdnaaGreatDoor
open Go.RowKit
set_option linter.unusedVariables false
set_option maxRecDepth 100000

theorem Sl.pre {w : World} {A : Option Addr} {n c : Nat} {xs : List Int} (h : Sl w A n c xs) {m : Nat} (hm : m ≤ n) : Sl w A m c (seg xs 0 m) := by
  have hl := h.len
  have hcp := h.cap
  refine ⟨seg_len (by omega), by omega, h.big, fun hm0 => ?_, seg_rng 0 m h.rng, h.nil0⟩
  obtain ⟨b, o, e, hc⟩ := h.bytes (by omega)
  refine ⟨b, o, e, fun i hi => ?_⟩
  rw [hc i (by omega), seg_getD xs 0 m i hi, Nat.zero_add]
def resC (r : Int × Int) : Array Value := #[.int .i64 r.1, .int .i64 r.2]
def chkPub (a : Int) (xs : List Int) : Int × Int :=
  if a < 1 ∨ 3 < a then (8, 0) else if (xs.length : Int) ≠ 384 * (a + 1) + 32 then (6, 0) else
    if 0 ≤ firstX (seg xs 0 (384 * (a + 1)).toNat) then (9, firstX (seg xs 0 (384 * (a + 1)).toNat)) else (0, 0)
theorem inf15 (r : Int × Int) : (Tryz.prog.info? 33).map (·.size) = some (resC r).size := by
  have h : (Tryz.prog.info? 33).map (·.size) = some 2 := by kernel_rfl
  exact h
theorem chkPub_rng (a : Int) (xs : List Int) (hl : xs.length ≤ 10000) : 0 ≤ (chkPub a xs).2 := by
  unfold chkPub
  split
  · exact Int.le_refl _
  · split
    · exact Int.le_refl _
    · split
      · assumption
      · exact Int.le_refl _
set_option maxHeartbeats 1000000 in
theorem rcheckPublic_any (a : Int) (A : Option Addr) (n c : Nat) (xs : List Int) (w : World) (hS : Sl w A n c xs) (hn : n ≤ 10000) :
    Calls Tryz.prog 14 #[.int .i64 a, .slice A n c] w fun e w' => e = .returned (.agg (resC (chkPub a xs))) ∧ Past w w' := by
  have hp0 : ∀ cs : Array Value, Past w (w.alloc (.cells cs 33)) := fun cs => (Below.refl _ _).alloc (Nat.le_refl _) _
  have hr0 : ∀ cs : Array Value, Row (w.alloc (.cells cs 33)) w.heap.size 33 cs := fun cs => Row.new _ _ _
  have HP0 := Lib.hid hp0
  have HR0 := Lib.hid hr0
  clear hp0 hr0
  by_cases h1 : a < 1
  · have e : chkPub a xs = (8, 0) := by unfold chkPub; rw [if_pos (.inl h1)]
    rw [e]
    clear hS hn e
    go_enter Tryz.func14, Tryz.ntmps14
    go_wp2_with fail
    refine bodyPost_ret (results_cell_row rfl _ _ w.heap.size _ (resC (8, 0)) (0, 0) _ rfl (HR0.out _) Tryz.underlying33 rfl (inf15 _)) (by rfl) ?_
    exact ⟨rfl, HP0.out _⟩
  · by_cases h2 : 3 < a
    · have e : chkPub a xs = (8, 0) := by unfold chkPub; rw [if_pos (.inr h2)]
      rw [e]
      clear hS hn e
      go_enter Tryz.func14, Tryz.ntmps14
      go_wp2_with fail
      refine bodyPost_ret (results_cell_row rfl _ _ w.heap.size _ (resC (8, 0)) (0, 0) _ rfl (HR0.out _) Tryz.underlying33 rfl (inf15 _)) (by rfl) ?_
      exact ⟨rfl, HP0.out _⟩
    · have hl := hS.len
      obtain ⟨b, hb⟩ : ∃ b : Nat, a + 1 = (b : Int) := ⟨(a + 1).toNat, by omega⟩
      obtain ⟨N, hN⟩ : ∃ N : Nat, 384 * b = N := ⟨_, rfl⟩
      obtain ⟨M, hM⟩ : ∃ M : Nat, N + 32 = M := ⟨_, rfl⟩
      have HWW : Hid (IntKind.i64.wrap (a + 1) = (b : Int) ∧ wrap64 (b : Int) = (b : Int) ∧ IntKind.i64.wrap (384 * (b : Int)) = (N : Int) ∧ wrap64 (N : Int) = (N : Int) ∧ IntKind.i64.wrap ((N : Int) + 32) = (M : Int) ∧ wrap64 (M : Int) = (M : Int)) := Lib.hid
        ⟨by rw [IntKind.wrap_i64]; omega, IntWalk.wrap64_in _ (by omega), by rw [IntKind.wrap_i64]; omega, IntWalk.wrap64_in _ (by omega), by rw [IntKind.wrap_i64]; omega, IntWalk.wrap64_in _ (by omega)⟩
      have e0 : chkPub a xs = if (n : Int) ≠ (M : Int) then (6, 0) else if 0 ≤ firstX (seg xs 0 N) then (9, firstX (seg xs 0 N)) else (0, 0) := by
        unfold chkPub
        rw [if_neg (by omega), show (384 * (a + 1)).toNat = N by omega, show 384 * (a + 1) + 32 = (M : Int) by omega, hl]
      rw [e0]
      by_cases h3 : n = M
      · rw [if_neg (by omega)]
        have HF := Lib.hid (fun w' (h : Past w w') => rfirst_any A N c (seg xs 0 N) w' ((hS.past h).pre (by omega)) (by omega))
        have hfr := firstX_rng (seg xs 0 N)
        have hcp := hS.cap
        obtain ⟨r, hr⟩ : ∃ r, firstX (seg xs 0 N) = r := ⟨_, rfl⟩
        rw [hr] at HF hfr
        rw [hr]
        have HSZ := Lib.hid hfr
        obtain ⟨R, hR⟩ : ∃ R, (if 0 ≤ r then ((9 : Int), r) else (0, 0)) = R := ⟨_, rfl⟩
        rw [hR]
        have HR := Lib.hid hR
        clear hR
        have hNc : (N : Int) ≤ (c : Int) := by omega
        have hnM : (n : Int) = (M : Int) := by omega
        clear hS hn hl hb hN hM e0 hr hfr
        obtain ⟨hw1, hw2, hw3, hw4, hw5, hw6⟩ := HWW.out
        go_enter Tryz.func14, Tryz.ntmps14
        go_wp2_with fail
        refine (HF.out _ (HP0.out _)).mono ?_
        rintro e w1 ⟨rfl, hp1⟩
        have HR1 := Lib.hid ((HR0.out (resC (0, 0))).past hp1)
        have HP1 := Lib.hid ((HP0.out _).trans' hp1)
        clear hp1
        by_cases h4 : 0 ≤ r
        · have HRR : Hid (R = (9, r)) := Lib.hid (by rw [← HR.out, if_pos h4])
          have hr1 := HR1.out
          have hi2 := inf15 (9, r)
          have hs2 : (resC (0, 0)).size = (resC (9, r)).size := rfl
          have ho2 : (resC (9, r)).all (·.oneCell') = true := by simp [resC, Value.oneCell']
          go_wp2_with (refine wpList_store_row rfl 33 _ _ rfl w.heap.size _ rfl rfl _ _ hr1 hi2 (by rfl) ho2 ?_)
          refine bodyPost_ret (results_cell_row rfl _ _ w.heap.size _ (resC (9, r)) (0, 0) _ rfl (setRow_heap _ w.heap.size _ (resC (9, r)) _ _ hr1) Tryz.underlying33 rfl hi2) (by rfl) ?_
          exact ⟨by rw [HRR.out], below_setRow HP1.out (Nat.le_refl _) _⟩
        · have HRR : Hid (R = (0, 0)) := Lib.hid (by rw [← HR.out, if_neg h4])
          have hr1 := HR1.out
          have hi2 := inf15 (0, 0)
          have hs2 : (resC (0, 0)).size = (resC (0, 0)).size := rfl
          have ho2 : (resC (0, 0)).all (·.oneCell') = true := by simp [resC, Value.oneCell']
          go_wp2_with (refine wpList_store_row rfl 33 _ _ rfl w.heap.size _ rfl rfl _ _ hr1 hi2 (by rfl) ho2 ?_)
          refine bodyPost_ret (results_cell_row rfl _ _ w.heap.size _ (resC (0, 0)) (0, 0) _ rfl (setRow_heap _ w.heap.size _ (resC (0, 0)) _ _ hr1) Tryz.underlying33 rfl hi2) (by rfl) ?_
          exact ⟨by rw [HRR.out], below_setRow HP1.out (Nat.le_refl _) _⟩
      · rw [if_pos (by omega)]
        have h3' : ¬ (n : Int) = (M : Int) := by omega
        clear hS hn hl hb hN hM e0 h3
        obtain ⟨hw1, hw2, hw3, hw4, hw5, hw6⟩ := HWW.out
        go_enter Tryz.func14, Tryz.ntmps14
        go_wp2_with fail
        refine bodyPost_ret (results_cell_row rfl _ _ w.heap.size _ (resC (6, 0)) (0, 0) _ rfl (HR0.out _) Tryz.underlying33 rfl (inf15 _)) (by rfl) ?_
        exact ⟨rfl, HP0.out _⟩
theorem cutlh (A : Option Addr) (n c L H m d : Nat) (h1 : L + m = H) (h2 : H ≤ c) (h3 : L + d = c) (w : World) :
    (Instr.slice 25 (.slice A n c) (some (.int .i64 (L : Int))) (some (.int .i64 (H : Int))) none).run Tryz.prog w = .ok (.slice (if c = L then A else A.map (·.add L)) m d) w := by
  rw [run_slice_lh w 25 A n c Tryz.underlying25 .i64 .i64 (L : Int) (H : Int) (by omega) (by omega) (by omega)]
  have hs : (sizeOf (Tryz.prog.elem 25)).run Tryz.prog w = .ok 1 w := by kernel_rfl
  rw [hs]
  simp only [Result.andThen, sliced, Int.toNat_natCast, Nat.mul_one]
  obtain rfl : H = L + m := h1.symm
  obtain rfl : d = c - L := by omega
  rw [Nat.add_sub_cancel_left]
theorem cutAtlh (A : Option Addr) (n c L H m d : Nat) (h1 : L + m = H) (h2 : H ≤ c) (h3 : L + d = c) (w : World) :
    (Instr.sliceAt 25 (.slice A n c) (some (.int .i64 (L : Int))) (some (.int .i64 (H : Int))) none).run Tryz.prog w = .ok (.slice (if c = L then A else A.map (·.add L)) m d) w := by
  rw [run_sliceAt_slice w 25 _ _ _ _ Tryz.underlying25]
  exact cutlh A n c L H m d h1 h2 h3 w
/-- A part of two indexes, its address told by a name alone. -/
theorem Sl.lh {w : World} {A : Option Addr} {n c : Nat} {xs : List Int} (h : Sl w A n c xs) {L m d : Nat} (hm : L + m ≤ n) (hd : L + d = c) :
    ∃ B, (∀ w' : World, (Instr.slice 25 (.slice A n c) (some (.int .i64 (L : Int))) (some (.int .i64 ((L + m : Nat) : Int))) none).run Tryz.prog w' = .ok (.slice B m d) w') ∧
      (∀ w' : World, (Instr.sliceAt 25 (.slice A n c) (some (.int .i64 (L : Int))) (some (.int .i64 ((L + m : Nat) : Int))) none).run Tryz.prog w' = .ok (.slice B m d) w') ∧ Sl w B m d (seg xs L m) := by
  have hcp := h.cap
  refine ⟨_, fun w' => cutlh A n c L (L + m) m d rfl (by omega) hd w', fun w' => cutAtlh A n c L (L + m) m d rfl (by omega) hd w', ?_⟩
  have := h.cut2 (i := L) (m := m) hm
  rw [show c - L = d by omega] at this
  exact this
theorem Sl.at2 {w : World} {b o n c : Nat} {xs : List Int} (h : Sl w (some ⟨b, o, none⟩) n c xs) {L H m : Nat} (hm : L + m = H) (hH : H ≤ n) (hc : ¬ c = L) : Sl w (some ⟨b, o + L, none⟩) (H - L) (c - L) (seg xs L m) := by
  have := h.cut2 (i := L) (m := m) (by omega)
  rw [if_neg hc, Option.map_some, add_none] at this
  rw [show H - L = m by omega]
  exact this
def chkPriv (a : Int) (xs : List Int) : Int × Int :=
  if a < 1 ∨ 3 < a then (8, 0) else if (xs.length : Int) ≠ 2 * (384 * (a + 1)) + 96 then (6, 0) else
    if 0 ≤ firstX (seg xs 0 (384 * (a + 1)).toNat) then (9, firstX (seg xs 0 (384 * (a + 1)).toNat)) else
    if 0 ≤ firstX (seg xs (384 * (a + 1)).toNat (384 * (a + 1)).toNat) then (9, 384 * (a + 1) + firstX (seg xs (384 * (a + 1)).toNat (384 * (a + 1)).toNat)) else
    if sameB (shaL (seg xs (384 * (a + 1)).toNat ((384 * (a + 1)).toNat + 32))) (seg xs (2 * (384 * (a + 1)).toNat + 32) 32) = false then (11, 2 * (384 * (a + 1)) + 32) else (0, 0)
end Go.Proofs.YthbnaoifiggdnaaGreatDoor

namespace Go.Proofs.YthbnaoifiggdnaaGreatDoor
open Go.RowKit
set_option linter.unusedVariables false
set_option maxRecDepth 100000

set_option maxHeartbeats 2000000 in
theorem rcheckPrivate_any (a : Int) (A : Option Addr) (n c : Nat) (xs : List Int) (w : World) (hS : Sl w A n c xs) (hn : n ≤ 10000) :
    Calls Tryz.prog 16 #[.int .i64 a, .slice A n c] w fun e w' => e = .returned (.agg (resC (chkPriv a xs))) ∧ Past w w' := by
  have HP0 := Lib.hid (fun cs : Array Value => show Past w (w.alloc (.cells cs 33)) from (Below.refl _ _).alloc (Nat.le_refl _) _)
  have HR0 := Lib.hid (fun cs : Array Value => show Row (w.alloc (.cells cs 33)) w.heap.size 33 cs from Row.new _ _ _)
  by_cases h1 : a < 1
  · have e : chkPriv a xs = (8, 0) := by unfold chkPriv; rw [if_pos (.inl h1)]
    rw [e]
    clear hS hn e
    go_enter Tryz.func16, Tryz.ntmps16
    go_wp2_with fail
    refine bodyPost_ret (results_cell_row rfl _ _ w.heap.size _ (resC (8, 0)) (0, 0) _ rfl (HR0.out _) Tryz.underlying33 rfl (inf15 _)) (by rfl) ?_
    exact ⟨rfl, HP0.out _⟩
  · by_cases h2 : 3 < a
    · have e : chkPriv a xs = (8, 0) := by unfold chkPriv; rw [if_pos (.inr h2)]
      rw [e]
      clear hS hn e
      go_enter Tryz.func16, Tryz.ntmps16
      go_wp2_with fail
      refine bodyPost_ret (results_cell_row rfl _ _ w.heap.size _ (resC (8, 0)) (0, 0) _ rfl (HR0.out _) Tryz.underlying33 rfl (inf15 _)) (by rfl) ?_
      exact ⟨rfl, HP0.out _⟩
    · have hl := hS.len
      have hcp := hS.cap
      obtain ⟨b, hb⟩ : ∃ b : Nat, a + 1 = (b : Int) := ⟨(a + 1).toNat, by omega⟩
      obtain ⟨N, hN⟩ : ∃ N : Nat, 384 * b = N := ⟨_, rfl⟩
      obtain ⟨N2, hN2⟩ : ∃ M : Nat, N + N = M := ⟨_, rfl⟩
      obtain ⟨M, hM⟩ : ∃ M : Nat, N2 + 96 = M := ⟨_, rfl⟩
      obtain ⟨P, hP⟩ : ∃ M : Nat, N2 + 32 = M := ⟨_, rfl⟩
      obtain ⟨Q, hQ⟩ : ∃ M : Nat, N2 + 64 = M := ⟨_, rfl⟩
      have HWW : Hid (IntKind.i64.wrap (a + 1) = (b : Int) ∧ wrap64 (b : Int) = (b : Int) ∧ IntKind.i64.wrap (384 * (b : Int)) = (N : Int) ∧ wrap64 (N : Int) = (N : Int) ∧ IntKind.i64.wrap (2 * (N : Int)) = (N2 : Int) ∧ wrap64 (N2 : Int) = (N2 : Int)
          ∧ IntKind.i64.wrap ((N2 : Int) + 96) = (M : Int) ∧ wrap64 (M : Int) = (M : Int) ∧ IntKind.i64.wrap ((N2 : Int) + 32) = (P : Int) ∧ wrap64 (P : Int) = (P : Int) ∧ IntKind.i64.wrap ((N2 : Int) + 64) = (Q : Int) ∧ wrap64 (Q : Int) = (Q : Int)) := Lib.hid
        ⟨by rw [IntKind.wrap_i64]; omega, IntWalk.wrap64_in _ (by omega), by rw [IntKind.wrap_i64]; omega, IntWalk.wrap64_in _ (by omega), by rw [IntKind.wrap_i64]; omega, IntWalk.wrap64_in _ (by omega), by rw [IntKind.wrap_i64]; omega, IntWalk.wrap64_in _ (by omega), by rw [IntKind.wrap_i64]; omega, IntWalk.wrap64_in _ (by omega), by rw [IntKind.wrap_i64]; omega, IntWalk.wrap64_in _ (by omega)⟩
      have e0 : chkPriv a xs = if (n : Int) ≠ (M : Int) then (6, 0) else if 0 ≤ firstX (seg xs 0 N) then (9, firstX (seg xs 0 N)) else
          if 0 ≤ firstX (seg xs N N) then (9, (N : Int) + firstX (seg xs N N)) else if sameB (shaL (seg xs N (N + 32))) (seg xs P 32) = false then (11, (P : Int)) else (0, 0) := by
        unfold chkPriv
        rw [if_neg (by omega), show (384 * (a + 1)).toNat = N by omega, show 384 * (a + 1) = (N : Int) by omega, show 2 * (N : Int) + 96 = (M : Int) by omega, hl, show 2 * N + 32 = P by omega, show 2 * (N : Int) + 32 = (P : Int) by omega]
      rw [e0]
      by_cases h3 : n = M
      · rw [if_neg (by omega)]
        obtain ⟨b0, o0, rfl, _⟩ := hS.bytes (by omega)
        have hcN : ¬ c = N := by omega
        have hcP : ¬ c = P := by omega
        have hS1 := hS.at2 (L := N) (H := N2) (m := N) (by omega) (by omega) (by omega)
        have hS2 := hS.at2 (L := N) (H := P) (m := N + 32) (by omega) (by omega) (by omega)
        have hS3 := hS.at2 (L := P) (H := Q) (m := 32) (by omega) (by omega) (by omega)
        have HF1 := Lib.hid (fun w' (h : Past w w') => rfirst_any _ N c (seg xs 0 N) w' ((hS.past h).pre (by omega)) (by omega))
        have HF2 := Lib.hid (fun w' (h : Past w w') => rfirst_any _ (N2 - N) (c - N) (seg xs N N) w' (hS1.past h) (by omega))
        have HSH := Lib.hid (fun w' (h : Past w w') => rsha256_any _ (P - N) (c - N) (seg xs N (N + 32)) w' (hS2.past h) (by omega))
        change Hid (∀ w', _ → Calls _ _ _ w' fun e w' => ∃ B d, e = _ ∧ Sl w' B 32 d (shaL (seg xs N (N + 32))) ∧ _) at HSH
        have HSM := Lib.hid (fun w' (h : Past w w') B d (h2 : Sl w' B 32 d (shaL (seg xs N (N + 32)))) => rsame_any B _ 32 (Q - P) d (c - P) _ _ w' h2 (hS3.past h))
        obtain ⟨r1, hr1⟩ : ∃ r, firstX (seg xs 0 N) = r := ⟨_, rfl⟩
        obtain ⟨r2, hr2⟩ : ∃ r, firstX (seg xs N N) = r := ⟨_, rfl⟩
        have hf2 := firstX_rng (seg xs N N)
        rw [seg_len (by omega), hr2] at hf2
        rw [hr1] at HF1
        rw [hr2] at HF2
        rw [hr1, hr2]
        generalize shaL (seg xs N (N + 32)) = hs at *
        generalize seg xs P 32 = ys at *
        obtain ⟨ok, hok⟩ : ∃ ok, sameB hs ys = ok := ⟨_, rfl⟩
        rw [hok] at HSM
        rw [hok]
        obtain ⟨R, hR⟩ : ∃ R, (if 0 ≤ r1 then ((9 : Int), r1) else if 0 ≤ r2 then (9, (N : Int) + r2) else if ok = false then (11, (P : Int)) else (0, 0)) = R := ⟨_, rfl⟩
        rw [hR]
        obtain ⟨r3, hr3⟩ : ∃ r3, (N : Int) + r2 = r3 := ⟨_, rfl⟩
        rw [hr3] at hR
        have HR := Lib.hid hR
        have HWR : Hid (IntKind.i64.wrap ((N : Int) + r2) = r3 ∧ wrap64 r3 = r3) := Lib.hid ⟨by rw [IntKind.wrap_i64]; omega, IntWalk.wrap64_in _ (by omega)⟩
        have hNc : (N : Int) ≤ (c : Int) := by omega
        have hnM : (n : Int) = (M : Int) := by omega
        have HBB : Hid ((N : Int) ≤ (N2 : Int) ∧ (N2 : Int) ≤ (c : Int) ∧ (N : Int) ≤ (P : Int) ∧ (P : Int) ≤ (c : Int) ∧ (P : Int) ≤ (Q : Int) ∧ (Q : Int) ≤ (c : Int)) := Lib.hid ⟨by omega, by omega, by omega, by omega, by omega, by omega⟩
        have HCC := Lib.hid (And.intro hcN hcP)
        clear hR hS hn hl hb hN hM e0 hr1 hr2 hf2 hok hS1 hS2 hS3 hN2 hP hQ hcp hr3 hcN hcP
        obtain ⟨hw1, hw2, hw3, hw4, hw5, hw6, hw7, hw8, _⟩ := HWW.out
        go_enter Tryz.func16, Tryz.ntmps16
        go_wp2_with fail
        clear hw1 hw2 hw3 hw4 hw5 hw6 hw7 hw8
        refine (HF1.out _ (HP0.out _)).mono ?_
        rintro e w1 ⟨rfl, hp1⟩
        have HR1 := Lib.hid ((HR0.out (resC (0, 0))).past hp1)
        have HP1 := Lib.hid ((HP0.out _).trans' hp1)
        clear hp1
        by_cases h4 : 0 ≤ r1
        · have HRR : Hid (R = (9, r1)) := Lib.hid (by rw [← HR.out, if_pos (by omega)])
          have hr1 := HR1.out
          have hi2 := inf15 (9, r1)
          have hs2 : (resC (0, 0)).size = (resC (9, r1)).size := rfl
          have ho2 : (resC (9, r1)).all (·.oneCell') = true := by simp [resC, Value.oneCell']
          go_wp2_with (refine wpList_store_row rfl 33 _ _ rfl w.heap.size _ rfl rfl _ _ hr1 hi2 (by rfl) ho2 ?_)
          refine bodyPost_ret (results_cell_row rfl _ _ w.heap.size _ (resC (9, r1)) (0, 0) _ rfl (setRow_heap _ w.heap.size _ (resC (9, r1)) _ _ hr1) Tryz.underlying33 rfl hi2) (by rfl) ?_
          exact ⟨by rw [HRR.out], below_setRow HP1.out (Nat.le_refl _) _⟩
        · obtain ⟨_, _, _, _, hw5, hw6, _⟩ := HWW.out
          obtain ⟨hb1, hb2, _⟩ := HBB.out
          obtain ⟨hcN, hcP⟩ := HCC.out
          go_wp2_with fail
          clear hw5 hw6 hb1 hb2 hcN hcP
          refine (HF2.out _ HP1.out).mono ?_
          rintro e w2 ⟨rfl, hp2⟩
          have HR2 := Lib.hid (HR1.out.past hp2)
          have HP2 := Lib.hid (HP1.out.trans' hp2)
          clear hp2
          by_cases h5 : 0 ≤ r2
          · have HRR : Hid (R = (9, r3)) := Lib.hid (by rw [← HR.out, if_neg (by omega), if_pos (by omega)])
            have hr1 := HR2.out
            have hi2 := inf15 (9, r3)
            have hs2 : (resC (0, 0)).size = (resC (9, r3)).size := rfl
            have ho2 : (resC (9, r3)).all (·.oneCell') = true := by simp [resC, Value.oneCell']
            obtain ⟨hwa, hwb⟩ := HWR.out
            go_wp2_with (refine wpList_store_row rfl 33 _ _ rfl w.heap.size _ rfl rfl _ _ hr1 hi2 (by rfl) ho2 ?_)
            refine bodyPost_ret (results_cell_row rfl _ _ w.heap.size _ (resC (9, r3)) (0, 0) _ rfl (setRow_heap _ w.heap.size _ (resC (9, r3)) _ _ hr1) Tryz.underlying33 rfl hi2) (by rfl) ?_
            exact ⟨by rw [HRR.out], below_setRow HP2.out (Nat.le_refl _) _⟩
          · have HWN2 : Hid (IntKind.i64.wrap (2 * (N : Int)) = (N2 : Int) ∧ wrap64 (N2 : Int) = (N2 : Int)) := Lib.hid ⟨HWW.out.2.2.2.2.1, HWW.out.2.2.2.2.2.1⟩
            have HWP : Hid (IntKind.i64.wrap ((N2 : Int) + 32) = (P : Int) ∧ wrap64 (P : Int) = (P : Int)) := Lib.hid ⟨HWW.out.2.2.2.2.2.2.2.2.1, HWW.out.2.2.2.2.2.2.2.2.2.1⟩
            have HWQ : Hid (IntKind.i64.wrap ((N2 : Int) + 64) = (Q : Int) ∧ wrap64 (Q : Int) = (Q : Int)) := Lib.hid ⟨HWW.out.2.2.2.2.2.2.2.2.2.2.1, HWW.out.2.2.2.2.2.2.2.2.2.2.2⟩
            go_upto_region 12 with (fail)
            have HPD : Hid (Past w w2.drew) := Lib.hid (HP2.out.drewN 1)
            have HRD : Hid (Row w2.drew w.heap.size 33 (resC (0, 0))) := Lib.hid (HR2.out.drewN 1)
            refine wp_region_held_drew (S := fun _ => True) (by kernel_rfl) trivial (fun hH => ?_)
            refine held_take 0 44 (v := .slice (some ⟨b0, o0, none⟩) M c) rfl rfl (by kernel_rfl) (by kernel_rfl) (by kernel_rfl) (fun _ _ _ h => h) (Or.inl ⟨by kernel_rfl, fun w _ => by go_simp⟩) hH ?_
            (try simp only [List.setIfInBounds_toArray, List.set_cons_zero, List.set_cons_succ])
            refine held_take 1 45 (v := .int .i64 (N : Int)) rfl rfl (by kernel_rfl) (by kernel_rfl) (by kernel_rfl) (fun _ _ _ h => h) (Or.inl ⟨by kernel_rfl, fun w _ => by go_simp⟩) hH ?_
            (try simp only [List.setIfInBounds_toArray, List.set_cons_zero, List.set_cons_succ])
            refine held_take 2 46 (v := .int .i64 (N : Int)) rfl rfl (by kernel_rfl) (by kernel_rfl) (by kernel_rfl) (fun _ _ _ h => h) (Or.inl ⟨by kernel_rfl, fun w _ => by go_simp⟩) hH ?_
            (try simp only [List.setIfInBounds_toArray, List.set_cons_zero, List.set_cons_succ])
            refine held_take 3 47 (v := .int .i64 (N2 : Int)) rfl rfl (by kernel_rfl) (by kernel_rfl) (by kernel_rfl) (fun _ _ _ h => h) (Or.inl ⟨by kernel_rfl, fun w _ => by have hwa := HWN2.out.1; have hwb := HWN2.out.2; go_simp⟩) hH ?_
            (try simp only [List.setIfInBounds_toArray, List.set_cons_zero, List.set_cons_succ])
            refine held_take 4 48 (v := .int .i64 (P : Int)) rfl rfl (by kernel_rfl) (by kernel_rfl) (by kernel_rfl) (fun _ _ _ h => h) (Or.inl ⟨by kernel_rfl, fun w _ => by have hwa := HWP.out.1; have hwb := HWP.out.2; go_simp⟩) hH ?_
            (try simp only [List.setIfInBounds_toArray, List.set_cons_zero, List.set_cons_succ])
            refine held_take 5 49 (v := .slice (some ⟨b0, o0 + N, none⟩) (P - N) (c - N)) rfl rfl (by kernel_rfl) (by kernel_rfl) (by kernel_rfl) (fun _ _ _ h => h) (Or.inl ⟨by kernel_rfl, fun w _ => by have hcN := HCC.out.1; have hb3 := HBB.out.2.2.1; have hb4 := HBB.out.2.2.2.1; go_simp⟩) hH ?_
            (try simp only [List.setIfInBounds_toArray, List.set_cons_zero, List.set_cons_succ])
            refine held_take 7 51 (v := .slice (some ⟨b0, o0, none⟩) M c) rfl rfl (by kernel_rfl) (by kernel_rfl) (by kernel_rfl) (fun _ _ _ h => h) (Or.inl ⟨by kernel_rfl, fun w _ => by go_simp⟩) hH ?_
            (try simp only [List.setIfInBounds_toArray, List.set_cons_zero, List.set_cons_succ])
            refine held_take 8 52 (v := .int .i64 (N : Int)) rfl rfl (by kernel_rfl) (by kernel_rfl) (by kernel_rfl) (fun _ _ _ h => h) (Or.inl ⟨by kernel_rfl, fun w _ => by go_simp⟩) hH ?_
            (try simp only [List.setIfInBounds_toArray, List.set_cons_zero, List.set_cons_succ])
            refine held_take 9 53 (v := .int .i64 (N2 : Int)) rfl rfl (by kernel_rfl) (by kernel_rfl) (by kernel_rfl) (fun _ _ _ h => h) (Or.inl ⟨by kernel_rfl, fun w _ => by have hwa := HWN2.out.1; have hwb := HWN2.out.2; go_simp⟩) hH ?_
            (try simp only [List.setIfInBounds_toArray, List.set_cons_zero, List.set_cons_succ])
            refine held_take 10 54 (v := .int .i64 (P : Int)) rfl rfl (by kernel_rfl) (by kernel_rfl) (by kernel_rfl) (fun _ _ _ h => h) (Or.inl ⟨by kernel_rfl, fun w _ => by have hwa := HWP.out.1; have hwb := HWP.out.2; go_simp⟩) hH ?_
            (try simp only [List.setIfInBounds_toArray, List.set_cons_zero, List.set_cons_succ])
            refine held_take 11 55 (v := .int .i64 (N : Int)) rfl rfl (by kernel_rfl) (by kernel_rfl) (by kernel_rfl) (fun _ _ _ h => h) (Or.inl ⟨by kernel_rfl, fun w _ => by go_simp⟩) hH ?_
            (try simp only [List.setIfInBounds_toArray, List.set_cons_zero, List.set_cons_succ])
            refine held_take 12 56 (v := .int .i64 (N2 : Int)) rfl rfl (by kernel_rfl) (by kernel_rfl) (by kernel_rfl) (fun _ _ _ h => h) (Or.inl ⟨by kernel_rfl, fun w _ => by have hwa := HWN2.out.1; have hwb := HWN2.out.2; go_simp⟩) hH ?_
            (try simp only [List.setIfInBounds_toArray, List.set_cons_zero, List.set_cons_succ])
            refine held_take 13 57 (v := .int .i64 (Q : Int)) rfl rfl (by kernel_rfl) (by kernel_rfl) (by kernel_rfl) (fun _ _ _ h => h) (Or.inl ⟨by kernel_rfl, fun w _ => by have hwa := HWQ.out.1; have hwb := HWQ.out.2; go_simp⟩) hH ?_
            (try simp only [List.setIfInBounds_toArray, List.set_cons_zero, List.set_cons_succ])
            refine held_take 14 58 (v := .slice (some ⟨b0, o0 + P, none⟩) (Q - P) (c - P)) rfl rfl (by kernel_rfl) (by kernel_rfl) (by kernel_rfl) (fun _ _ _ h => h) (Or.inl ⟨by kernel_rfl, fun w _ => by have hcP := HCC.out.2; have hb5 := HBB.out.2.2.2.2.1; have hb6 := HBB.out.2.2.2.2.2; go_simp⟩) hH ?_
            (try simp only [List.setIfInBounds_toArray, List.set_cons_zero, List.set_cons_succ])
            refine wpAnyH_ready (rs := [6]) (by kernel_rfl) (by simp) ?_
            refine AllReadyH.cons rfl (fun K hK => ?_) AllReadyH.nil
            go_simp
            refine (HSH.out _ HPD.out).mono ?_
            rintro e w3 ⟨B4, d4, rfl, hS4, hp3⟩
            have HR3 := Lib.hid (HRD.out.past hp3)
            have HP3 := Lib.hid (HPD.out.trans' hp3)
            have HS4 := Lib.hid hS4
            clear hp3 hS4
            refine hK.out _ _ trivial (fun hH => ?_)
            clear hK K
            refine wpAnyH_ready (rs := [15]) (by kernel_rfl) (by simp) ?_
            refine AllReadyH.cons rfl (fun K hK => ?_) AllReadyH.nil
            go_simp
            refine (HSM.out _ HP3.out _ _ HS4.out).mono ?_
            rintro e w4 ⟨rfl, m4, hw4'⟩
            have HR4 : Hid (Row w4 w.heap.size 33 (resC (0, 0))) := Lib.hid (by rw [hw4']; exact HR3.out.drewN m4)
            have HP4 : Hid (Past w w4) := Lib.hid (by rw [hw4']; exact HP3.out.drewN m4)
            clear hw4'
            refine hK.out _ _ trivial (fun hH => ?_)
            clear hK K
            refine held_take 16 60 (v := .bool (!ok)) rfl rfl (by kernel_rfl) (by kernel_rfl) (by kernel_rfl) (fun _ _ _ h => h) (Or.inl ⟨by kernel_rfl, fun w _ => by go_simp⟩) hH ?_
            refine wpAnyH_done (by kernel_rfl) ?_ _
            go_simp
            cases ok with
            | false =>
              have HRR : Hid (R = (11, (P : Int))) := Lib.hid (by rw [← HR.out, if_neg (by omega), if_neg (by omega), if_pos rfl])
              have hr1 := HR4.out
              obtain ⟨hwn1, hwn2⟩ := HWN2.out
              obtain ⟨hwp1, hwp2⟩ := HWP.out
              have hi2 := inf15 (11, (P : Int))
              have hs2 : (resC (0, 0)).size = (resC (11, (P : Int))).size := rfl
              have ho2 : (resC (11, (P : Int))).all (·.oneCell') = true := by simp [resC, Value.oneCell']
              go_wp2_with (refine wpList_store_row rfl 33 _ _ rfl w.heap.size _ rfl rfl _ _ hr1 hi2 (by rfl) ho2 ?_)
              refine bodyPost_ret (results_cell_row rfl _ _ w.heap.size _ (resC (11, (P : Int))) (0, 0) _ rfl (setRow_heap _ w.heap.size _ (resC (11, (P : Int))) _ _ hr1) Tryz.underlying33 rfl hi2) (by rfl) ?_
              exact ⟨by rw [HRR.out], below_setRow HP4.out (Nat.le_refl _) _⟩
            | true =>
              have HRR : Hid (R = (0, 0)) := Lib.hid (by rw [← HR.out, if_neg (by omega), if_neg (by omega), if_neg (by decide)])
              have hr1 := HR4.out
              have hi2 := inf15 (0, 0)
              have hs2 : (resC (0, 0)).size = (resC (0, 0)).size := rfl
              have ho2 : (resC (0, 0)).all (·.oneCell') = true := by simp [resC, Value.oneCell']
              go_wp2_with (refine wpList_store_row rfl 33 _ _ rfl w.heap.size _ rfl rfl _ _ hr1 hi2 (by rfl) ho2 ?_)
              refine bodyPost_ret (results_cell_row rfl _ _ w.heap.size _ (resC (0, 0)) (0, 0) _ rfl (setRow_heap _ w.heap.size _ (resC (0, 0)) _ _ hr1) Tryz.underlying33 rfl hi2) (by rfl) ?_
              exact ⟨by rw [HRR.out], below_setRow HP4.out (Nat.le_refl _) _⟩
      · rw [if_pos (by omega)]
        have h3' : ¬ (n : Int) = (M : Int) := by omega
        clear hS hn hl hb hN hM e0 h3 hN2 hP hQ hcp
        obtain ⟨hw1, hw2, hw3, hw4, hw5, hw6, hw7, hw8, _⟩ := HWW.out
        go_enter Tryz.func16, Tryz.ntmps16
        go_upto_region 4 with (fail)
        clear hw1 hw2 hw3 hw4
        go_upto_region 5 with (fail)
        clear hw5 hw6 hw7 hw8
        go_wp2_with fail
        refine bodyPost_ret (results_cell_row rfl _ _ w.heap.size _ (resC (6, 0)) (0, 0) _ rfl (HR0.out _) Tryz.underlying33 rfl (inf15 _)) (by rfl) ?_
        exact ⟨rfl, HP0.out _⟩
end Go.Proofs.YthbnaoifiggdnaaGreatDoor
