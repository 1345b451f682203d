/- The program's Split: its parts, and what it returns. -/
import Derived.Test.YteflpbkdnebopaaGreatDoorD18G
namespace Go.Proofs.YteflpbkdnebopaaGreatDoor
open Go.RowKit
set_option linter.unusedVariables false
set_option maxRecDepth 100000

theorem next3_any (top D : Int) (ha ht : Nat) (w : World) :
    Calls Tryz.prog 35 #[.agg (pkV top D), .pointer (some ⟨ha, 0, none⟩), .pointer (some ⟨ht, 0, none⟩)] w fun e w' =>
      e = .returned (.func (.func 36) #[] #[.pointer (some ⟨ha, 0, none⟩), .pointer (some ⟨w.heap.size, 0, none⟩), .pointer (some ⟨ht, 0, none⟩)]) ∧ w' = w.alloc (.cells (pkV top D) 85) := by
  generalize pkV top D = cs
  go_enter Tryz.func35, Tryz.ntmps35
  go_wp2_with fail
  go_ret
  exact ⟨rfl, rfl⟩
abbrev nilS : Value := .slice none 0 0
abbrev privZ : Array Value := #[nilS, nilS, nilS, nilS, nilS, nilS]
/-- What a call of bytes.Clone leaves: bytes in a block of their own. -/
theorem clone_any (b o L n m c : Nat) (xs : List Int) (w : World) (hS : Sl w (some ⟨b, o + L, none⟩) m c xs) (hn : m ≤ 10000) (h0 : 0 < m) :
    Calls Tryz.prog 40 #[.slice (some ⟨b, o + L, none⟩) m c] w fun e w' => ∃ g d, e = .returned (.slice (some ⟨g, 0, none⟩) m d) ∧ Sl w' (some ⟨g, 0, none⟩) m d xs ∧ w.heap.size ≤ g ∧ Past w w' := by
  obtain ⟨b1, o1, e1, hc1⟩ := hS.bytes h0
  simp only [Option.some.injEq, Addr.mk.injEq, and_true] at e1
  obtain ⟨rfl, rfl⟩ := e1
  refine (Tryz.bytes_Clone_at ⟨b, o + L, none⟩ m c xs w hS.len (by omega) (fun i hi => by rw [add_none]; exact hc1 i hi)).mono ?_
  rintro e w' ⟨v, rfl, hown, _, hp⟩
  obtain ⟨g, d, rfl, hg, _, _⟩ := own_some hown h0
  exact ⟨g, d, rfl, Sl.of_own hown hS.rng, hg, hp⟩
/-- The parts of the key that are taken first, in a block u. -/
def PrtP (w0 wx : World) (ha u : Nat) (xs : List Int) (g1 d1 g2 d2 g3 d3 : Nat) : Prop :=
  w0.grownBy wx (some ha) ∧ Row wx ha 3 #[.int .i64 128] ∧ w0.heap.size ≤ u ∧
  Row wx u 42 #[.slice (some ⟨g1, 0, none⟩) 32 d1, .slice (some ⟨g2, 0, none⟩) 32 d2, .slice (some ⟨g3, 0, none⟩) 64 d3, nilS, nilS, nilS] ∧
  (Sl wx (some ⟨g1, 0, none⟩) 32 d1 (seg xs 0 32) ∧ g1 ≠ ha ∧ g1 ≠ u) ∧ (Sl wx (some ⟨g2, 0, none⟩) 32 d2 (seg xs 32 32) ∧ g2 ≠ ha ∧ g2 ≠ u) ∧ (Sl wx (some ⟨g3, 0, none⟩) 64 d3 (seg xs 64 64) ∧ g3 ≠ ha ∧ g3 ≠ u)
theorem sl_row_ne {w : World} {g n c u : Nat} {xs : List Int} {t : TypeId} {cs : Array Value} (h : Sl w (some ⟨g, 0, none⟩) n c xs) (hn : 0 < n) (hr : Row w u t cs) (h0 : cs[0]? ≠ some (.int .u8 (xs.getD 0 0))) : g ≠ u := by
  intro e
  subst e
  obtain ⟨b, o, e1, hc⟩ := h.bytes hn
  simp only [Option.some.injEq, Addr.mk.injEq, and_true] at e1
  obtain ⟨rfl, rfl⟩ := e1
  have := hc 0 hn
  rw [Nat.add_zero, hr.cell] at this
  exact h0 this
theorem infV (cs : Array Value) (h : cs.size = 6) : (Tryz.prog.info? 42).map (·.size) = some cs.size := by rw [h]; kernel_rfl
theorem prt_mk {w5 w wx : World} {ha u g1 d1 g2 d2 g3 d3 : Nat} {xs : List Int} (hw : w.setRow u #[.slice (some ⟨g1, 0, none⟩) 32 d1, .slice (some ⟨g2, 0, none⟩) 32 d2, .slice (some ⟨g3, 0, none⟩) 64 d3, nilS, nilS, nilS] = wx)
    (hg : w5.grownBy w (some ha)) (hA : Row w ha 3 #[.int .i64 128]) (hR : Row w u 42 privZ) (hu : w5.heap.size ≤ u) (hl : ha < w5.heap.size)
    (s1 : Sl w (some ⟨g1, 0, none⟩) 32 d1 (seg xs 0 32) ∧ g1 ≠ ha ∧ w5.heap.size ≤ g1) (s2 : Sl w (some ⟨g2, 0, none⟩) 32 d2 (seg xs 32 32) ∧ g2 ≠ ha ∧ w5.heap.size ≤ g2) (s3 : Sl w (some ⟨g3, 0, none⟩) 64 d3 (seg xs 64 64) ∧ g3 ≠ ha ∧ w5.heap.size ≤ g3) :
    PrtP w5 wx ha u xs g1 d1 g2 d2 g3 d3 := by
  have hgr : w.grownBy wx (some u) := by
    rw [← hw]
    exact ⟨rfl, rfl, rfl, by simp, fun i hi hne => setRow_other w u i _ (fun e => hne (by rw [e]))⟩
  have n1 : g1 ≠ u := sl_row_ne s1.1 (by decide) hR (by simp)
  have n2 : g2 ≠ u := sl_row_ne s2.1 (by decide) hR (by simp)
  have n3 : g3 ≠ u := sl_row_ne s3.1 (by decide) hR (by simp)
  refine ⟨by rw [← hw]; exact grown_setRow18 hg hu _, (by rw [← hw]; exact (setRow_other w u ha _ (by omega)).trans hA), hu, by rw [← hw]; exact setRow_heap _ _ _ _ _ _ hR, ⟨s1.1.far hgr (by simpa using n1), s1.2.1, n1⟩, ⟨s2.1.far hgr (by simpa using n2), s2.2.1, n2⟩, ⟨s3.1.far hgr (by simpa using n3), s3.2.1, n3⟩⟩
/-- What Split keeps: the closures' block, the parts, the result's lists so far. -/
structure St18 (w5 W : World) (ha u : Nat) (xs : List Int) (at_ : Nat) (g1 d1 g2 d2 g3 d3 : Nat) (s4 s5 s6 : Value) : Prop where
  gr : w5.grownBy W (some ha)
  pos : Row W ha 3 #[.int .i64 (at_ : Int)]
  hu : w5.heap.size ≤ u
  row : Row W u 42 #[.slice (some ⟨g1, 0, none⟩) 32 d1, .slice (some ⟨g2, 0, none⟩) 32 d2, .slice (some ⟨g3, 0, none⟩) 64 d3, s4, s5, s6]
  a1 : Sl W (some ⟨g1, 0, none⟩) 32 d1 (seg xs 0 32)
  a2 : Sl W (some ⟨g2, 0, none⟩) 32 d2 (seg xs 32 32)
  a3 : Sl W (some ⟨g3, 0, none⟩) 64 d3 (seg xs 64 64)
  n1 : g1 ≠ ha
  n2 : g2 ≠ ha
  n3 : g3 ≠ ha
theorem PrtP.st {w5 W : World} {ha u : Nat} {xs : List Int} {g1 d1 g2 d2 g3 d3 : Nat} (h : PrtP w5 W ha u xs g1 d1 g2 d2 g3 d3) : St18 w5 W ha u xs 128 g1 d1 g2 d2 g3 d3 nilS nilS nilS :=
  ⟨h.1, h.2.1, h.2.2.1, h.2.2.2.1, h.2.2.2.2.1.1, h.2.2.2.2.2.1.1, h.2.2.2.2.2.2.1, h.2.2.2.2.1.2.1, h.2.2.2.2.2.1.2.1, h.2.2.2.2.2.2.2.1⟩
section
variable {w5 W W' : World} {ha u : Nat} {xs : List Int} {at_ at' : Nat} {g1 d1 g2 d2 g3 d3 : Nat} {s4 s5 s6 : Value}
theorem St18.past (h : St18 w5 W ha u xs at_ g1 d1 g2 d2 g3 d3 s4 s5 s6) (hp : Past W W') : St18 w5 W' ha u xs at_ g1 d1 g2 d2 g3 d3 s4 s5 s6 :=
  ⟨only_trans h.gr (only_of_past hp _), h.pos.past hp, h.hu, h.row.past hp, h.a1.past hp, h.a2.past hp, h.a3.past hp, h.n1, h.n2, h.n3⟩
theorem St18.grown (h : St18 w5 W ha u xs at_ g1 d1 g2 d2 g3 d3 s4 s5 s6) (hl : ha < w5.heap.size) (hg : W.grownBy W' (some ha)) (hp : Row W' ha 3 #[.int .i64 (at' : Int)]) : St18 w5 W' ha u xs at' g1 d1 g2 d2 g3 d3 s4 s5 s6 :=
  ⟨only_trans h.gr hg, hp, h.hu, h.row.grown hg (by have := h.hu; simp; omega), h.a1.far hg (by simpa using h.n1), h.a2.far hg (by simpa using h.n2), h.a3.far hg (by simpa using h.n3), h.n1, h.n2, h.n3⟩
theorem St18.sets (h : St18 w5 W ha u xs at_ g1 d1 g2 d2 g3 d3 s4 s5 s6) (hl : ha < w5.heap.size) (i : Nat) (v old : Value) (ho : W.cell? ⟨u, i, none⟩ = some old) (hn : ∀ x, old ≠ .int .u8 x) {s4' s5' s6' : Value}
    (hr : (#[.slice (some ⟨g1, 0, none⟩) 32 d1, .slice (some ⟨g2, 0, none⟩) 32 d2, .slice (some ⟨g3, 0, none⟩) 64 d3, s4, s5, s6] : Array Value).setIfInBounds i v = #[.slice (some ⟨g1, 0, none⟩) 32 d1, .slice (some ⟨g2, 0, none⟩) 32 d2, .slice (some ⟨g3, 0, none⟩) 64 d3, s4', s5', s6']) :
    St18 w5 (W.setCell ⟨u, i, none⟩ v) ha u xs at_ g1 d1 g2 d2 g3 d3 s4' s5' s6' := by
  refine ⟨only_setCell h.gr (.inr h.hu) _, h.pos.setOther (by have := h.hu; omega) _ _, h.hu, ?_, h.a1.setCell ho hn, h.a2.setCell ho hn, h.a3.setCell ho hn, h.n1, h.n2, h.n3⟩
  rw [← hr]
  exact Row.set h.row i v
end
theorem chkD_bad {a : Int} {xs : List Int} {i : Nat} (ha : a = 4 ∨ a = 5 ∨ a = 6) (hl : xs.length = sD a) (hi : i < kD a + lD a) (hb : ¬ nrmQ (plyD (wD a) (eD a) (seg xs (128 + i * zD a) (zD a))) 256 ≤ (eD a : Int)) (hlow : ∀ j, j < i → nrmQ (plyD (wD a) (eD a) (seg xs (128 + j * zD a) (zD a))) 256 ≤ (eD a : Int)) :
    chkD a xs = (9, ((128 + i * zD a : Nat) : Int)) := by
  have h1 : badD a xs i = true := by
    cases h : badD a xs i with
    | true => rfl
    | false =>
      have := (nrm_bad ha xs i).2 h
      rw [Nat.mul_comm] at this
      exact absurd this hb
  have h2 : ∀ j, j < i → badD a xs j = false := fun j hj => (nrm_bad ha xs j).1 (by rw [Nat.mul_comm]; exact hlow j hj)
  have h3 : fbD a xs = (i : Int) := fstI_at _ _ i (by omega) (by unfold bad4; rw [if_pos h1]; decide) (fun j hj => bad4_le.2 (h2 j hj))
  unfold chkD
  rw [if_neg (by omega), if_neg (by rw [hl]; simp), h3, if_pos (by omega)]
  congr 1
  rw [Int.natCast_add, Int.natCast_mul, Int.mul_comm]
  rfl
theorem chkD_good {a : Int} {xs : List Int} (ha : a = 4 ∨ a = 5 ∨ a = 6) (hl : xs.length = sD a) (h : ∀ j, j < kD a + lD a → nrmQ (plyD (wD a) (eD a) (seg xs (128 + j * zD a) (zD a))) 256 ≤ (eD a : Int)) : chkD a xs = (0, 0) := by
  have h3 : fbD a xs = -1 := fstI_low _ _ fun j hj => bad4_le.2 ((nrm_bad ha xs j).1 (by rw [Nat.mul_comm]; exact h j hj))
  unfold chkD
  rw [if_neg (by omega), if_neg (by rw [hl]; simp), h3, if_neg (by decide)]
end Go.Proofs.YteflpbkdnebopaaGreatDoor
