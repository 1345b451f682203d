/- Two polynomials in a slice, as they are read. Small slices in memory. Bytes of an array, and parts of a slice. -/
import Derived.Test.YtalhdalmafhofaaGreatDoorRow16B
import Derived.Test.YtalhdalmafhofaaGreatDoorMx16
namespace Go.Proofs.YtalhdalmafhofaaGreatDoor
open Go.RowKit
set_option maxRecDepth 100000
set_option linter.unusedVariables false

theorem lst_length (f : Nat → Int) : (lst f).length = 256 := by unfold lst; simp
/-- Two polynomials lie at the head of block g. -/
def PL (w : World) (g : Nat) (F : Nat → Nat → Int) : Prop := (∀ i, R16 (F i)) ∧ g < w.heap.size ∧ ∀ i, i < 2 → w.rangeAt g (256 * i) (lst (F i))
theorem PL.past {w w' : World} {g : Nat} {F : Nat → Nat → Int} (h : PL w g F) (hp : Past w w') : PL w' g F := by
  obtain ⟨h0, h1, h2⟩ := h
  refine ⟨h0, Nat.lt_of_lt_of_le h1 hp.size, fun i hi j v hj => ?_⟩
  rw [(bcell hp).1 _ _ h1]
  exact h2 i hi j v hj
theorem RowsP.pl {base : Nat} {w : World} {v : Value} (h : RowsP base w v 2) : ∃ g c F, v = .slice (some ⟨g, 0, none⟩) 2 c ∧ PL w g F ∧ base ≤ g := by
  obtain ⟨F, hF, hlen, h⟩ := h
  rcases h with ⟨_, h⟩ | ⟨g, cap, cur, hv, hb, hg, hn, hc, hs, ht⟩
  · omega
  · refine ⟨g, cap, F, hv, ⟨hF, ?_, fun i hi j v hj => ?_⟩, hb⟩
    · exact Row.lt (t := 30) (cs := cur) hg
    · have hr : Row w g 30 cur := hg
      rw [hr.cell]
      have hcells : cellsP F 2 = lst (F 0) ++ lst (F 1) := by simp [cellsP]
      rw [hcells] at ht
      have hj2 : j < 256 := by
        have := (List.getElem?_eq_some_iff.1 hj).1
        rw [lst_length] at this
        exact this
      have h1 : (cur.toList.take (2 * 256))[256 * i + j]? = some v := by
        rw [ht]
        rcases (show i = 0 ∨ i = 1 by omega) with rfl | rfl
        · rw [List.getElem?_append_left (by rw [lst_length]; omega)]
          simpa using hj
        · rw [List.getElem?_append_right (by rw [lst_length]; omega), lst_length]
          simpa using hj
      rw [List.getElem?_take_of_lt (by omega)] at h1
      simpa using h1
end Go.Proofs.YtalhdalmafhofaaGreatDoor

namespace Go.Proofs.YtalhdalmafhofaaGreatDoor
open Go.RowKit
set_option linter.unusedVariables false
set_option maxRecDepth 100000

theorem sl_one16 (w : World) (x : Int) (hx : 0 ≤ x ∧ x < 256) : Sl (w.alloc (.cells #[.int .u8 x] 5)) (some ⟨w.heap.size, 0, none⟩) 1 1 [x] := by
  have ho := World.ownsRow_lit (base := w.heap.size) (e := 5) (size := 1) w #[.int .u8 x] 1 (Nat.le_refl _) (by unfold maxLen; omega) rfl
  refine Sl.of_own (xs := [x]) ho ?_
  intro y hy
  simp at hy
  rw [hy]
  exact hx
/-- Slices in a row. -/
theorem sls_row (w : World) (k : Nat) (L : List (Option Addr × Nat × Nat × List Int)) (hk : L.length = k) (hb : k ≤ 100) (e : TypeId) (hL : ∀ x ∈ L, Sl w x.1 x.2.1 x.2.2.1 x.2.2.2) (hpos : 0 < k) :
    ∃ V C X, Sls (w.alloc (.cells (L.map fun x => Value.slice x.1 x.2.1 x.2.2.1).toArray e)) (some ⟨w.heap.size, 0, none⟩) k k V C X ∧ cat X k = (L.map fun x => x.2.2.2).flatten := by
  obtain ⟨w2, hw2⟩ : ∃ w', w.alloc (.cells (L.map fun x => Value.slice x.1 x.2.1 x.2.2.1).toArray e) = w' := ⟨_, rfl⟩
  have hp2 : Past w w2 := by rw [← hw2]; exact (Below.refl _ _).alloc (Nat.le_refl _) _
  have hr2 : Row w2 w.heap.size e (L.map fun x => Value.slice x.1 x.2.1 x.2.2.1).toArray := by rw [← hw2]; exact Row.new _ _ _
  rw [hw2]
  refine ⟨fun i => (L.getD i default).1, fun i => (L.getD i default).2.2.1, fun i => (L.getD i default).2.2.2, ⟨Nat.le_refl _, by unfold maxLen; omega, (fun e => by cases e), fun _ => ⟨_, 0, rfl, fun i hi => ?_⟩⟩, ?_⟩
  · have hi' : i < L.length := by omega
    have hm : L.getD i default ∈ L := by rw [List.getD_eq_getElem?_getD, List.getElem?_eq_getElem hi']; exact List.getElem_mem _
    have hs := hL _ hm
    refine ⟨?_, ?_⟩
    · rw [hr2.cell, Nat.zero_add]
      have hlen := hs.len
      rw [List.getD_eq_getElem?_getD, List.getElem?_eq_getElem hi'] at hlen ⊢
      simp only [Option.getD_some] at hlen ⊢
      simp [hi', hlen]
    · have hlen := hs.len
      show Sl w2 (L.getD i default).1 (L.getD i default).2.2.2.length (L.getD i default).2.2.1 (L.getD i default).2.2.2
      rw [hlen]
      exact hs.past hp2
  · unfold cat
    congr 1
    apply List.ext_getElem?
    intro i
    by_cases hi : i < k
    · simp [hi, hk]
    · simp [hi, hk]
end Go.Proofs.YtalhdalmafhofaaGreatDoor

namespace Go.Proofs.YtalhdalmafhofaaGreatDoor
open Go.RowKit
set_option linter.unusedVariables false
set_option maxRecDepth 100000

theorem sl_arr {w : World} {g n : Nat} {t : TypeId} {f : Nat → Int} (h : Row w g t (arr .u8 n f)) (hf : ∀ j, 0 ≤ f j ∧ f j < 256) (hn : n ≤ 1000) : Sl w (some ⟨g, 0, none⟩) n n (bl f n) := by
  have ho : w.ownsRow 0 t 1 (.slice (some ⟨g, 0, none⟩) n n) n ((bl f n).map (Value.int .u8)) := by
    refine ⟨by simp [bl_len], .inr ⟨g, n, _, rfl, Nat.zero_le _, h, Nat.le_refl _, by unfold maxLen; omega, by simp [arr_size], ?_⟩⟩
    unfold arr bl
    rw [Nat.mul_one, List.map_map]
    rw [List.take_of_length_le (by simp)]
    rfl
  exact Sl.of_own ho (bl_rng _ _ hf)
/-- The head of a slice, with its capacity. -/
theorem sl_head {w : World} {A : Option Addr} {n c : Nat} {xs : List Int} (h : Sl w A n c xs) {m : Nat} (hm : m ≤ n) : Sl w A m c (xs.take m) := by
  have hl := h.len
  have hcp := h.cap
  refine ⟨by rw [List.length_take]; omega, by omega, h.big, fun hm0 => ?_, fun x hx => h.rng x (List.mem_of_mem_take hx), h.nil0⟩
  obtain ⟨b, o, e, hc⟩ := h.bytes (by omega)
  refine ⟨b, o, e, fun i hi => ?_⟩
  rw [hc i (by omega), List.getD_eq_getElem?_getD, List.getD_eq_getElem?_getD, List.getElem?_take_of_lt hi]
/-- The rest of a slice. -/
theorem sl_tail {w : World} {b o n c : Nat} {xs : List Int} (h : Sl w (some ⟨b, o, none⟩) n c xs) {L m : Nat} (hm : L + m = n) (hc : ¬ c = L) : Sl w (some ⟨b, o + L, none⟩) m (c - L) ((xs.drop L).take m) := by
  have := h.cut2 (i := L) (m := m) (by omega)
  rw [if_neg hc, Option.map_some, add_none] at this
  exact this
end Go.Proofs.YtalhdalmafhofaaGreatDoor
