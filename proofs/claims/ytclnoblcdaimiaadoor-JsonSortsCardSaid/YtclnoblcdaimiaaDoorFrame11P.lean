/- A slice of pairs that came in as an argument, opened. -/
import Derived.Test.YtclnoblcdaimiaaDoorFrame11
import Derived.Deep.Slices
import Derived.ChangeSame
import Derived.Stop.Joined
namespace Go.Proofs.YtclnoblcdaimiaaDoor
open Go.RowKit Go.ChangeShapes Go.WideShapes Go.Deep

theorem kStr11 : Tryd.prog.cellsOf 9 = 1 := by kernel_rfl
theorem kPair11 : Tryd.prog.cellsOf 48 = 2 := by kernel_rfl
theorem fields2 {H : Type} {enc : TypeId × Value → H} {P : Program} {w : World} {base : Nat} {sp : Nat → Bool} {hd : Bool} {fuel : Nat} {t : TypeId} {f0 f1 : Field} {cs : List Value} {x : DataW H × List MemPlace}
    (hs : P.underlying t = some (.struct #[f0, f1])) (hC : P.cellsOf t = 2) (o0 : f0.offset = 0) (k0 : P.cellsOf f0.type = 1) (o1 : f1.offset = 1) (k1 : P.cellsOf f1.type = 1) (h : DataW.trod enc P w base sp hd fuel t cs = some x) :
    ∃ (v0 v1 : Value) (y0 y1 : DataW H × List MemPlace) (n : Nat), cs = [v0, v1] ∧ DataW.trod enc P w base sp hd n f0.type [v0] = some y0 ∧ DataW.trod enc P w base sp hd n f1.type [v1] = some y1 := by
  obtain ⟨xs, n, _, _, hl, hxl, hg⟩ := DataW.trod_struct hs h
  rw [hC] at hl
  match cs, hl, xs, hxl with
  | [c0, c1], _, [y0, y1], _ => exact ⟨c0, c1, y0, y1, n, rfl, by simpa [o0, k0] using hg 0 f0 rfl, by simpa [o1, k1] using hg 1 f1 rfl⟩

section
variable {H : Type} {enc : TypeId × Value → H} {W : World}
theorem pair_of {n : Nat} {cs : List Value} {x : DataW H × List MemPlace} (h : DataW.trod enc Tryd.prog W 0 (fun _ => true) true n 48 cs = some x) :
    ∃ p q : ByteArray, cs = [.string p, .string q] := by
  obtain ⟨c0, c1, y0, y1, m, rfl, g0, g1⟩ := fields2 Tryd.underlying48 kPair11 rfl kStr11 rfl kStr11 h
  obtain ⟨p, e0, _, _⟩ := DataW.trod_string Tryd.underlying9 g0
  obtain ⟨q, e1, _, _⟩ := DataW.trod_string Tryd.underlying9 g1
  simp at e0 e1
  exact ⟨p, q, by rw [e0, e1]⟩

theorem pairs_of {v : Value} {d : DataW H} {pl : List MemPlace} (h : DataW.Trod enc Tryd.prog W 0 (fun _ => true) true 29 v d pl) (hv : ∃ A n c, v = .slice A n c) :
    ∃ A n c l, v = .slice A n c ∧ Ps W A n c l := by
  obtain ⟨A0, n0, c0, rfl⟩ := hv
  obtain ⟨fuel, hf⟩ := h
  rcases open_slice Tryd.underlying29 hf with ⟨hcs, _⟩ | ⟨a, len, cap, m, n', D, Pl, hcs, _, hl, hm, hmm, _, hx⟩
  · simp [Value.cells] at hcs
    obtain ⟨rfl, rfl, rfl⟩ := hcs
    exact ⟨none, 0, 0, [], rfl, Ps.nil W⟩
  · simp only [if_true] at hmm
    subst hmm
    simp [Value.cells] at hcs
    obtain ⟨rfl, rfl, rfl⟩ := hcs
    have each : ∀ i, i < c0 → ∃ q : P2, W.cell? (a.add (i * 2)) = some (.string q.1) ∧ W.cell? (a.add (i * 2 + 1)) = some (.string q.2) := by
      intro i hi
      obtain ⟨cs', h1, h2⟩ := hx i hi
      obtain ⟨k, p, rfl⟩ := pair_of h2
      rw [kPair11] at h1
      obtain ⟨_, _, hcell⟩ := World.cells?_some h1
      have e0 := hcell 0 (by omega)
      have e1 := hcell 1 (by omega)
      rw [Go.Deep.add_add] at e0 e1
      exact ⟨(k, p), by simpa using e0, by simpa using e1⟩
    obtain ⟨q, hq⟩ := choose_lt each
    refine ⟨some a, n0, c0, (List.range n0).map q, rfl, by simp, hl, hm, fun hn => ?_, fun e => by cases e⟩
    obtain ⟨b, o, s⟩ := a
    obtain rfl : s = none := by
      have h := (hq 0 (by omega)).1
      simpa [Addr.add] using World.cell?_spot h
    refine ⟨b, o, rfl, fun i hi => ?_⟩
    obtain ⟨h1, h2⟩ := hq i (by omega)
    rw [add_none] at h1 h2
    have e : ((List.range n0).map q).getD i default = q i := by
      rw [List.getD_eq_getElem?_getD, List.getElem?_map, List.getElem?_range (by omega)]
      rfl
    rw [e]
    exact ⟨h1, by rw [Nat.add_assoc]; exact h2⟩
end

end Go.Proofs.YtclnoblcdaimiaaDoor
