/- A list of changes as it comes in, opened; the errors that a key can have. -/
import Derived.Test.YteflpbkdnebopaaGreatDoorFrame18
import Derived.Test.YteflpbkdnebopaaGreatDoorCh18
import Derived.Deep.Slices
import Derived.ChangeSame
namespace Go.Proofs.YteflpbkdnebopaaGreatDoor
open Go.RowKit Go.ChangeShapes Go.WideShapes Go.ChangeAt Go.Deep
set_option linter.unusedVariables false
set_option maxRecDepth 100000

theorem kInt15 : Tryz.prog.cellsOf 3 = 1 := by kernel_rfl
theorem kU815 : Tryz.prog.cellsOf 5 = 1 := by kernel_rfl
theorem kChg15 : Tryz.prog.cellsOf 65 = 3 := by kernel_rfl
theorem fields3 {H : Type} {enc : TypeId × Value → H} {P : Program} {w : World} {base : Nat} {sp : Nat → Bool} {hd : Bool} {fuel : Nat} {t : TypeId} {f0 f1 f2 : Field} {cs : List Value} {x : DataW H × List MemPlace}
    (hs : P.underlying t = some (.struct #[f0, f1, f2])) (hC : P.cellsOf t = 3) (o0 : f0.offset = 0) (k0 : P.cellsOf f0.type = 1) (o1 : f1.offset = 1) (k1 : P.cellsOf f1.type = 1) (o2 : f2.offset = 2) (k2 : P.cellsOf f2.type = 1) (h : DataW.trod enc P w base sp hd fuel t cs = some x) :
    ∃ (v0 v1 v2 : Value) (y0 y1 y2 : DataW H × List MemPlace) (n : Nat), cs = [v0, v1, v2] ∧ DataW.trod enc P w base sp hd n f0.type [v0] = some y0 ∧ DataW.trod enc P w base sp hd n f1.type [v1] = some y1 ∧ DataW.trod enc P w base sp hd n f2.type [v2] = some y2 := by
  obtain ⟨xs, n, _, _, hl, hxl, hg⟩ := DataW.trod_struct hs h
  rw [hC] at hl
  match cs, hl, xs, hxl with
  | [c0, c1, c2], _, [y0, y1, y2], _ => exact ⟨c0, c1, c2, y0, y1, y2, n, rfl, by simpa [o0, k0] using hg 0 f0 rfl, by simpa [o1, k1] using hg 1 f1 rfl, by simpa [o2, k2] using hg 2 f2 rfl⟩
section
variable {H : Type} {enc : TypeId × Value → H} {W : World}
theorem chg_of {n : Nat} {cs : List Value} {x : DataW H × List MemPlace} (h : DataW.trod enc Tryz.prog W 0 (fun _ => true) true n 65 cs = some x) :
    ∃ (k b l : Int), cs = [.int .i64 k, .int .u8 b, .int .u8 l] ∧ (0 ≤ b ∧ b < 256) ∧ 0 ≤ l ∧ l < 256 := by
  obtain ⟨c0, c1, c2, y0, y1, y2, m, rfl, g0, g1, g2⟩ := fields3 Tryz.underlying65 kChg15 rfl kInt15 rfl kU815 rfl kU815 h
  obtain ⟨k, e0, _, _⟩ := DataW.trod_int Tryz.underlying3 g0
  obtain ⟨b, e1, _, w1⟩ := DataW.trod_int Tryz.underlying5 g1
  obtain ⟨l, e2, _, w2⟩ := DataW.trod_int Tryz.underlying5 g2
  simp at e0 e1 e2
  have b1 := bounds_u8 w1
  have b2 := bounds_u8 w2
  exact ⟨k, b, l, by rw [e0, e1, e2], by omega, by omega, by omega⟩
theorem chs_of {n : Nat} {c : Value} {x : DataW H × List MemPlace} (h : DataW.trod enc Tryz.prog W 0 (fun _ => true) true n 23 [c] = some x) :
    ∃ A l cap V, c = .slice A l cap ∧ l ≤ maxLen ∧ Chs W A l V := by
  rcases open_slice Tryz.underlying23 h with ⟨hcs, _⟩ | ⟨a, len, cap, m, n', D, Pl, hcs, _, hl, hm, hmm, _, hx⟩
  · simp at hcs
    exact ⟨none, 0, 0, fun _ => (0, 0, 0), hcs, by unfold maxLen; omega, ⟨fun h => absurd h (Nat.lt_irrefl 0), fun i hi => absurd hi (Nat.not_lt_zero _)⟩⟩
  · simp only [if_true] at hmm
    subst hmm
    have each : ∀ i, i < m → ∃ q : Int × Int × Int, W.cell? (a.add (i * 3)) = some (.int .i64 q.1) ∧ W.cell? (a.add (i * 3 + 1)) = some (.int .u8 q.2.1) ∧ W.cell? (a.add (i * 3 + 2)) = some (.int .u8 q.2.2) ∧ (0 ≤ q.2.1 ∧ q.2.1 < 256) ∧ 0 ≤ q.2.2 ∧ q.2.2 < 256 := by
      intro i hi
      obtain ⟨cs', h1, h2⟩ := hx i hi
      obtain ⟨k, p, b, rfl, hr⟩ := chg_of h2
      rw [kChg15] at h1
      obtain ⟨_, _, hcell⟩ := World.cells?_some h1
      have e0 := hcell 0 (by omega)
      have e1 := hcell 1 (by omega)
      have e2 := hcell 2 (by omega)
      rw [Go.Deep.add_add] at e0 e1 e2
      exact ⟨(k, p, b), by simpa using e0, by simpa using e1, by simpa using e2, hr⟩
    obtain ⟨q, hq⟩ := choose_lt each
    refine ⟨some a, len, m, q, by simpa using hcs, by omega, ⟨fun hn => ?_, fun i hi => (hq i (by omega)).2.2.2⟩⟩
    obtain ⟨b, o, s⟩ := a
    obtain rfl : s = none := by
      have h := (hq 0 (by omega)).1
      simpa [Addr.add] using World.cell?_spot h
    refine ⟨b, o, rfl, fun i hi => ?_⟩
    obtain ⟨h1, h2, h3, _⟩ := hq i (by omega)
    rw [add_none] at h1 h2 h3
    exact ⟨h1, by rw [Nat.add_assoc]; exact h2, by rw [Nat.add_assoc]; exact h3⟩
end
end Go.Proofs.YteflpbkdnebopaaGreatDoor
