/- The fixed results that the laws ask for first: the contract of awake. -/
import Derived.Test.YtdclkhnmpkbgaaaImp5D
namespace Go.Proofs.Ytdclkhnmpkbgaaa
open Go.RowKit

theorem past_alloc (w : World) (o : Obj) : Past w (w.alloc o) := (Below.refl _ _).alloc (Nat.le_refl _) _
theorem lit_slK (w : World) (e : TypeId) (k : IntKind) (xs : List Int) (cs : Array Value) (hc : cs = (xs.map (Value.int k)).toArray) (hx : xs.length ≤ 1000) :
    SlK k (w.alloc (.cells cs e)) (some ⟨w.heap.size, 0, none⟩) xs.length xs.length xs := by
  refine ⟨rfl, Nat.le_refl _, by unfold maxLen; omega, fun _ => ⟨w.heap.size, 0, rfl, fun i hi => ?_⟩, fun e => by cases e⟩
  rw [Nat.zero_add, (Row.new w e cs).cell, hc]
  simp [List.getD, hi]
theorem lit_sl (w : World) (e : TypeId) (xs : List Int) (cs : Array Value) (hc : cs = (xs.map (Value.int .u8)).toArray) (hx : xs.length ≤ 1000) (hr : ∀ x ∈ xs, 0 ≤ x ∧ x < 256) :
    Sl (w.alloc (.cells cs e)) (some ⟨w.heap.size, 0, none⟩) xs.length xs.length xs := by
  have h := lit_slK w e .u8 xs cs hc hx
  exact ⟨h.len, h.cap, h.big, h.cells, hr, h.nil0⟩

theorem fits4 : fits 4 3 = true := by decide
theorem pack_123 : rpack 4 [1, 2, 3] = some [33, 3] := by
  have h := rpack_some_of (D := 4) (ls := [1, 2, 3]) (n := 3) rfl (by decide) (by decide +kernel)
  have e : packs 4 [1, 2, 3] (nbytes 4 3) = [33, 3] := by decide +kernel
  rw [e] at h
  exact h
theorem unpack_123 : runpack 4 3 [33, 3] = some [1, 2, 3] := by
  have h := runpack_some_of (D := 4) (N := 3) (r := 4) (xs := [33, 3]) (by decide) (by decide +kernel) (by decide) (by decide +kernel)
  have e : nums 4 [33, 3] 3 = [1, 2, 3] := by decide +kernel
  rw [e] at h
  exact h
theorem unpack_no : runpack 4 3 [33, 19] = none := runpack_none_bits (D := 4) (N := 3) (r := 4) (xs := [33, 19]) (by decide) (by decide +kernel)
theorem pack_no : rpack 4 [16] = none := rpack_none_of (n := 1) rfl (by decide) (fun i => by
    by_cases h : i = 0
    · subst h
      decide
    · rw [List.getD_eq_getElem?_getD, List.getElem?_eq_none (by simp; omega)]
      exact Int.le_refl _) (.inr (by decide +kernel))
theorem rng_of {ls : List Int} (h : ∀ x ∈ ls, 0 ≤ x ∧ x < 4294967296) (i : Nat) : 0 ≤ ls.getD i 0 ∧ ls.getD i 0 < 4294967296 := by
  rw [List.getD_eq_getElem?_getD]
  by_cases hi : i < ls.length
  · rw [List.getElem?_eq_getElem hi]
    exact h _ (List.getElem_mem hi)
  · rw [List.getElem?_eq_none (by omega)]
    exact ⟨by decide, by decide⟩

set_option maxHeartbeats 2000000 in
theorem awake_any (w : World) : Calls Try.prog 8 #[] w fun e w' => e = .returned (.bool true) ∧ Past w w' := by
  have HP1 := Lib.hid (ppack_any 4 (some ⟨w.heap.size, 0, none⟩) 3 3 [1, 2, 3] _ (lit_slK w 35 .u32 [1, 2, 3] #[.int .u32 1, .int .u32 2, .int .u32 3] rfl (by decide)) (rng_of (by decide)) (by decide))
  rw [pack_123] at HP1
  go_enter Try.func8, Try.ntmps8
  go_wp2_with fail
  refine HP1.out.mono ?_
  rintro e w1 ⟨B, nb, cb, rfl, hb, hp⟩
  obtain rfl : nb = 2 := hb.len.symm
  have H := Lib.hid (And.intro hb ((past_alloc _ _).trans' hp))
  clear hb hp HP1
  go_wp2_with fail
  have HP1 := punpack_any 4 3 _ 2 2 [33, 3] _ (lit_sl w1 5 [33, 3] #[.int .u8 33, .int .u8 3] rfl (by decide) (by decide)) (by decide)
  rw [unpack_123] at HP1
  replace HP1 := Lib.hid HP1
  refine HP1.out.mono ?_
  rintro e w2 ⟨L, nl, cl, rfl, hl, hp⟩
  obtain rfl : nl = 3 := hl.len.symm
  replace H := Lib.hid (And.intro hl (And.intro (H.out.1.past ((past_alloc _ _).trans' hp)) (H.out.2.trans' ((past_alloc _ _).trans' hp))))
  clear hl hp HP1
  go_wp2_with fail
  have HP1 := punpack_any 4 3 _ 2 2 [33, 19] _ (lit_sl w2 5 [33, 19] #[.int .u8 33, .int .u8 19] rfl (by decide) (by decide)) (by decide)
  rw [unpack_no] at HP1
  replace HP1 := Lib.hid HP1
  refine HP1.out.mono ?_
  rintro e w3 ⟨rfl, hp⟩
  replace H := Lib.hid (And.intro (H.out.1.past ((past_alloc _ _).trans' hp)) (And.intro (H.out.2.1.past ((past_alloc _ _).trans' hp)) (H.out.2.2.trans' ((past_alloc _ _).trans' hp))))
  clear hp HP1
  go_wp2_with fail
  have HP1 := ppack_any 4 _ 1 1 [16] _ (lit_slK w3 35 .u32 [16] #[.int .u32 16] rfl (by decide)) (rng_of (by decide)) (by decide)
  rw [pack_no] at HP1
  replace HP1 := Lib.hid HP1
  refine HP1.out.mono ?_
  rintro e w4 ⟨rfl, hp⟩
  replace H := Lib.hid (And.intro (H.out.1.past ((past_alloc _ _).trans' hp)) (And.intro (H.out.2.1.past ((past_alloc _ _).trans' hp)) (H.out.2.2.trans' ((past_alloc _ _).trans' hp))))
  clear hp HP1
  go_wp2_with fail
  have HP1 := pbitat_any 9 _ 2 2 [0, 2] _ (lit_sl w4 5 [0, 2] #[.int .u8 0, .int .u8 2] rfl (by decide) (by decide)) (by decide) (by decide)
  have e1 : bitV [0, 2] 2 9 = 1 := by decide +kernel
  have e2 : bitB 2 9 = true := by decide
  rw [e1, e2] at HP1
  replace HP1 := Lib.hid HP1
  clear e1 e2
  refine HP1.out.mono ?_
  rintro e w5 ⟨rfl, hw5⟩
  replace H : Hid (SlK .u32 w5 L 3 cl [1, 2, 3] ∧ Sl w5 B 2 cb [33, 3] ∧ Past w w5) := by
    rw [← hw5]
    exact ⟨H.out.1.past (past_alloc _ _), H.out.2.1.past (past_alloc _ _), H.out.2.2.trans' (past_alloc _ _)⟩
  clear hw5 HP1
  go_wp2_with fail
  have HP1 := Lib.hid (rsame_self B _ 2 cb 2 [33, 3] _ (H.out.2.1.past (past_alloc _ _)) (lit_sl w5 5 [33, 3] #[.int .u8 33, .int .u8 3] rfl (by decide) (by decide)))
  refine HP1.out.mono ?_
  rintro e w6 ⟨rfl, m, hw6⟩
  replace H : Hid (SlK .u32 w6 L 3 cl [1, 2, 3] ∧ Past w w6) := by
    rw [hw6]
    exact ⟨(H.out.1.past (past_alloc _ _)).drewN m, (H.out.2.2.trans' (past_alloc _ _)).drewN m⟩
  clear hw6 HP1
  go_wp2_with fail
  have HP1 := Lib.hid (rsame5_self L _ 3 cl 3 [1, 2, 3] _ (H.out.1.past (past_alloc _ _)) (lit_slK w6 35 .u32 [1, 2, 3] #[.int .u32 1, .int .u32 2, .int .u32 3] rfl (by decide)))
  refine HP1.out.mono ?_
  rintro e w7 ⟨rfl, m2, hw7⟩
  replace H : Hid (Past w w7) := by
    rw [hw7]
    exact (H.out.2.trans' (past_alloc _ _)).drewN m2
  clear hw7 HP1
  go_wp2_with fail
  have HP1 := fun W => Lib.hid (psize_any 4 3 W)
  have e1 : sizeI 4 3 = 2 := by decide
  simp only [e1] at HP1
  refine (HP1 _).out.mono ?_
  rintro e w' ⟨rfl, rfl⟩
  clear HP1 e1
  go_wp2_with fail
  have HP1 := fun W => Lib.hid (pleast_any 255 W (by decide) (by decide))
  have e1 : leastN (255 : Int).toNat = 8 := by decide +kernel
  simp only [e1] at HP1
  refine (HP1 _).out.mono ?_
  rintro e w' ⟨rfl, rfl⟩
  clear HP1 e1
  go_wp2_with fail
  go_ret
  exact ⟨rfl, H.out⟩

end Go.Proofs.Ytdclkhnmpkbgaaa
