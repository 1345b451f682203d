/- What is written, in its box. -/
import Derived.Lib.ConvBytes
import Derived.Test.YtnnonidiogoffaaGreatDoorPm12N
namespace Go.Proofs.YtnnonidiogoffaaGreatDoor
open Go.RowKit Go.Shelf
set_option linter.unusedVariables false

theorem mk_bytes (N : Nat) (hN : N ≤ 1048576) (w : World) : ∃ w', (Instr.makeSlice 22 (.int .i64 0) (.int .i64 (N : Int))).run Tryz.prog w = .ok (.slice (some ⟨w.heap.size, 0, none⟩) 0 N) w' ∧
    w'.ownsRow w.heap.size 5 1 (.slice (some ⟨w.heap.size, 0, none⟩) 0 N) 0 [] ∧ Past w w' := by
  obtain ⟨i0, hi, hz0, hz1, hz2⟩ := info_parts info8
  obtain ⟨w', h1, h2, h3⟩ := run_make_own (P := Tryz.prog) w w.heap.size 22 5 i0 (.int .u8 0) 1 Tryz.underlying22 hi hz0 hz1 .i64 .i64 N (by rw [hz2]; omega) (by unfold maxLen; omega) (Nat.le_refl _)
  exact ⟨w', h1, h2, ⟨h3.os, h3.tape, h3.output, h3.size, fun i hi => h3.block i hi (by simp)⟩⟩
theorem ob_lt {W : World} {B N k : Nat} {L : List Value} {base : Nat} (h : W.ownsRow base 5 1 (.slice (some ⟨B, 0, none⟩) k N) k L) : B < W.heap.size ∧ k ≤ N ∧ N ≤ maxLen ∧ base ≤ B := by
  rcases h.2 with ⟨e1, _⟩ | ⟨g, cap, cur, e1, e2, e3, e4, e5, e6, e7⟩
  · cases e1
  · injection e1 with a1 a2 a3
    injection a1 with a1
    injection a1 with a1
    subst a1 a3
    exact ⟨(Array.getElem?_eq_some_iff.1 e3).1, e4, e5, e2⟩
/-- The slice that is being written lies at B, its box at G. -/
structure En (w : World) (B G N k : Nat) (L : List Int) (W : World) : Prop where
  past : Past w W
  box : Boxed W G 22 (.slice (some ⟨B, 0, none⟩) k N)
  own : W.ownsRow B 5 1 (.slice (some ⟨B, 0, none⟩) k N) k (L.map (Value.int .u8))
  len : L.length = k
  rng : ∀ x ∈ L, 0 ≤ x ∧ x < 256
  base : w.heap.size ≤ B
  baseG : w.heap.size ≤ G
theorem En.ne {w W : World} {B G N k : Nat} {L : List Int} (h : En w B G N k L W) : G ≠ B := fun e => h.box.not_row (by decide) h.own (by rw [e]; rfl)
theorem En.kept {w W W' : World} {B G N k : Nat} {L : List Int} (h : En w B G N k L W) {row : Option Nat} {Z : Nat} (hg : W.grownBy W' row) (hr : ∀ r, row = some r → Z ≤ r ∧ ∃ o : Obj, W.heap[r]? = some o ∧ o.isCells = false) (hZ : w.heap.size ≤ Z) : En w B G N k L W' := by
  refine ⟨h.past.grown hg h.past.size fun k e => Nat.le_trans hZ (hr k e).1, row_kept h.box hg (fun r e => (hr r e).2), h.own.kept hg ?_, h.len, h.rng, h.base, h.baseG⟩
  rcases h.own.2 with ⟨e, _⟩ | ⟨k, cap, cur, e, _, hgb, _⟩
  · cases e
  · refine .inr fun e' => ?_
    rw [e] at e'
    obtain ⟨o, ho, hc⟩ := (hr k (by simpa [Value.ownBlock] using e'.symm)).2
    rw [hgb] at ho
    cases ho
    cases hc
theorem En.past' {w W W' : World} {B G N k : Nat} {L : List Int} (h : En w B G N k L W) (hp : Past W W') : En w B G N k L W' := h.kept (only_of_past hp none) (fun r e => by cases e) (Nat.le_refl _)
/-- What an append and the store behind it do. -/
structure Stp (B G : Nat) (W W' : World) : Prop where
  keep : KeepsOthers W W'
  at_ : ∀ k, k < W.heap.size → k ≠ B → k ≠ G → W'.heap[k]? = W.heap[k]?
theorem Stp.trans {B G : Nat} {X Y Z : World} (h : Stp B G X Y) (k : Stp B G Y Z) : Stp B G X Z := ⟨h.keep.trans k.keep, fun i hi h1 h2 => (k.at_ i (Nat.lt_of_lt_of_le hi h.keep.size) h1 h2).trans (h.at_ i hi h1 h2)⟩
theorem Sl.stp {W W' : World} {b o m c B G : Nat} {ys : List Int} (h : Sl W (some ⟨b, o, none⟩) m c ys) (hg : Stp B G W W') (hne : b ≠ B) (hne2 : b ≠ G) : Sl W' (some ⟨b, o, none⟩) m c ys :=
  ⟨h.len, h.cap, h.big, fun hn => by
    obtain ⟨b', o', e, hc⟩ := h.bytes hn
    injection e with e
    injection e with e1 e2 e3
    subst e1 e2
    refine ⟨b, o, rfl, fun i hi => ?_⟩
    have hb : b < W.heap.size := cell_lt (hc i hi)
    rw [World.cell?_of_block (a := ⟨b, o + i, none⟩) (hg.at_ b hb hne hne2)]
    exact hc i hi, h.rng, h.nil0⟩
theorem En.step {w W W1 : World} {B G N k m : Nat} {L M : List Int} (h : En w B G N k L W) (hM : ∀ x ∈ M, 0 ≤ x ∧ x < 256) (hm : M.length = m) (h1 : Ob W1 B N (L ++ M)) (h2 : W.grownBy W1 (some B)) :
    Boxed W1 G 22 (.slice (some ⟨B, 0, none⟩) k N) ∧ En w B G N (k + m) (L ++ M) (W1.setCell ⟨G, 0, none⟩ (.slice (some ⟨B, 0, none⟩) (k + m) N)) ∧ Stp B G W (W1.setCell ⟨G, 0, none⟩ (.slice (some ⟨B, 0, none⟩) (k + m) N)) := by
  have hne := h.ne
  have hl : (L ++ M).length = k + m := by rw [List.length_append, h.len, hm]
  unfold Ob at h1
  rw [hl] at h1
  have hb1 : Boxed W1 G 22 (.slice (some ⟨B, 0, none⟩) k N) := h.box.kept h2 (fun e => hne (by cases e; rfl))
  refine ⟨hb1, ⟨?_, hb1.set _, h1.kept (grownBy_setCell' W1 G _) (.inr (fun e => hne (by injection e with e; exact e.symm))), hl, ?_, h.base, h.baseG⟩, ⟨?_, ?_⟩⟩
  · exact (h.past.grown h2 h.past.size fun k e => by cases e; exact h.base).grown (grownBy_setCell' W1 G _) (Nat.le_trans h.past.size h2.size) fun k e => by cases e; exact h.baseG
  · intro x hx
    rcases List.mem_append.1 hx with hx | hx
    · exact h.rng x hx
    · exact hM x hx
  · refine (KeepsOthers.of_grownBy h2 fun j o ej hj => ?_).trans (KeepsOthers.setCell _ _ _)
    cases ej
    rcases h.own.2 with ⟨e, _⟩ | ⟨g, cap, cur, e, _, hgb, _⟩
    · cases e
    · injection e with e
      injection e with e
      injection e with e
      subst e
      rw [hgb] at hj
      cases hj
      rfl
  · intro i hi n1 n2
    rw [Below.heap_setCell W1 ⟨G, 0, none⟩ _ i n2]
    exact h2.block i hi (fun e => n1 (by cases e; rfl))
/-- A text is appended. -/
theorem en_str {w W : World} {B G N k : Nat} {L : List Int} (h : En w B G N k L W) (S : ByteArray) (h0 : 0 < N) (hr : k + S.size ≤ N) (ty : TypeId) :
    ∃ W1, (Builtin.append_ #[22, 9] ty #[.slice (some ⟨B, 0, none⟩) k N, .string S]).run Tryz.prog W = .ok (.slice (some ⟨B, 0, none⟩) (k + S.size) N) W1 ∧
      Boxed W1 G 22 (.slice (some ⟨B, 0, none⟩) k N) ∧ En w B G N (k + S.size) (L ++ ints S) (W1.setCell ⟨G, 0, none⟩ (.slice (some ⟨B, 0, none⟩) (k + S.size) N)) ∧ Stp B G W (W1.setCell ⟨G, 0, none⟩ (.slice (some ⟨B, 0, none⟩) (k + S.size) N)) ∧ Ob W1 B N (L ++ ints S) ∧ W.grownBy W1 (some B) := by
  have hob : Ob W B N L := by
    unfold Ob
    rw [h.len]
    exact h.own
  obtain ⟨W1, h1, h2, h3⟩ := ob_str W B N L S hob h0 (by rw [h.len]; exact hr) ty
  rw [h.len] at h1
  obtain ⟨q1, q2, q3⟩ := h.step (m := S.size) (ints_rngs S) (ints_len S) h2 h3
  exact ⟨W1, h1, q1, q2, q3, h2, h3⟩
/-- A slice is appended. -/
theorem en_sl {w W : World} {B G N k : Nat} {L : List Int} (h : En w B G N k L W) (A : Addr) (m c : Nat) (ys : List Int) (hS : Sl W (some A) m c ys) (hm : 0 < m) (h0 : 0 < N) (hr : k + m ≤ N) (ty : TypeId) :
    ∃ W1, (Builtin.append_ #[22, 22] ty #[.slice (some ⟨B, 0, none⟩) k N, .slice (some A) m c]).run Tryz.prog W = .ok (.slice (some ⟨B, 0, none⟩) (k + m) N) W1 ∧
      Boxed W1 G 22 (.slice (some ⟨B, 0, none⟩) k N) ∧ En w B G N (k + m) (L ++ ys) (W1.setCell ⟨G, 0, none⟩ (.slice (some ⟨B, 0, none⟩) (k + m) N)) ∧ Stp B G W (W1.setCell ⟨G, 0, none⟩ (.slice (some ⟨B, 0, none⟩) (k + m) N)) := by
  have hob : Ob W B N L := by
    unfold Ob
    rw [h.len]
    exact h.own
  obtain ⟨W1, h1, h2, h3⟩ := ob_sl W B N L A m c ys hob hS hm h0 (by rw [h.len]; exact hr) ty
  rw [h.len] at h1
  obtain ⟨q1, q2, q3⟩ := h.step (m := m) hS.rng hS.len h2 h3
  exact ⟨W1, h1, q1, q2, q3⟩
theorem past_bytes12 (w : World) (s : ByteArray) : Past w (Lib.bytesWorld w 5 s) :=
  ⟨rfl, rfl, rfl, by rw [Lib.bytesWorld_size]; exact Nat.le_succ _, fun i hi => Lib.bytesWorld_at_old w _ s i hi⟩
theorem sl_bytes12 (w : World) (s : ByteArray) (hs : s.size ≤ maxLen) : Sl (Lib.bytesWorld w 5 s) (some ⟨w.heap.size, 0, none⟩) s.size (grownCap w s.size 0 5) (ints s) := by
  refine ⟨ints_len s, grownCap_ge _ _ _ _, grownCap_le_maxLen _ _ _ _ hs, fun _ => ⟨w.heap.size, 0, rfl, fun i hi => ?_⟩, ints_rngs s, fun e => by cases e⟩
  rw [Nat.zero_add, Lib.bytesWorld_cell w _ s i hi]
  congr 2
  unfold ints
  have h' : i < s.data.toList.length := by
    rw [Array.length_toList]
    exact hi
  rw [List.getD_eq_getElem?_getD, List.getD_eq_getElem?_getD, List.getElem?_map, List.getElem?_eq_getElem h']
  rfl
/-- What is written, as a slice. -/
theorem En.sl {w W : World} {B G N k : Nat} {L : List Int} (hown : W.ownsRow B 5 1 (.slice (some ⟨B, 0, none⟩) k N) k (L.map (Value.int .u8))) (hl : L.length = k) (hr : ∀ x ∈ L, 0 ≤ x ∧ x < 256) : Sl W (some ⟨B, 0, none⟩) k N L := by
  obtain ⟨_, h2, h3, _⟩ := ob_lt hown
  refine ⟨hl, h2, h3, fun hn => ⟨B, 0, rfl, fun i hi => ?_⟩, hr, fun e => by cases e⟩
  have := hown.cells (g := B) rfl i (.int .u8 (L.getD i 0)) (by rw [List.getElem?_map, List.getD_eq_getElem?_getD, List.getElem?_eq_getElem (by omega)]; rfl)
  rw [add_none] at this
  exact this
end Go.Proofs.YtnnonidiogoffaaGreatDoor
