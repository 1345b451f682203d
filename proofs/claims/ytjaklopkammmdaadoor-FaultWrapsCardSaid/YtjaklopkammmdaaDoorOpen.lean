/- The description of an error as it comes in, opened; and the variables of the program and of the library, as the row lists them or as the world's shape tells. -/
import Derived.Test.YtjaklopkammmdaaDoorAwake2
import Derived.Deep.Slices
import Derived.ChangeSame
import Derived.OpenShut
import Derived.Stop.Joined
import Derived.LaidHandle
namespace Go.Proofs.YtjaklopkammmdaaDoor
open Go.RowKit Go.ChangeShapes Go.WideShapes Go.Deep

theorem kBool : Tryd.prog.cellsOf 4 = 1 := by kernel_rfl
theorem kInt : Tryd.prog.cellsOf 3 = 1 := by kernel_rfl
theorem kStr : Tryd.prog.cellsOf 9 = 1 := by kernel_rfl
theorem kWs : Tryd.prog.cellsOf 22 = 1 := by kernel_rfl
theorem kWrap : Tryd.prog.cellsOf 51 = 3 := by kernel_rfl
theorem kErr : Tryd.prog.cellsOf 24 = 5 := by kernel_rfl

theorem fields3 {H : Type} {enc : TypeId × Value → H} {P : Program} {w : World} {base : Nat} {sp : Nat → Bool} {hd : Bool} {fuel : Nat} {t : TypeId} {f0 f1 f2 : Field} {cs : List Value} {x : DataW H × List MemPlace}
    (hs : P.underlying t = some (.struct #[f0, f1, f2])) (hC : P.cellsOf t = 3) (o0 : f0.offset = 0) (k0 : P.cellsOf f0.type = 1) (o1 : f1.offset = 1) (k1 : P.cellsOf f1.type = 1) (o2 : f2.offset = 2) (k2 : P.cellsOf f2.type = 1) (h : DataW.trod enc P w base sp hd fuel t cs = some x) :
    ∃ (v0 v1 v2 : Value) (y0 y1 y2 : DataW H × List MemPlace) (n : Nat), cs = [v0, v1, v2] ∧ DataW.trod enc P w base sp hd n f0.type [v0] = some y0 ∧ DataW.trod enc P w base sp hd n f1.type [v1] = some y1 ∧ DataW.trod enc P w base sp hd n f2.type [v2] = some y2 := by
  obtain ⟨xs, n, _, _, hl, hxl, hg⟩ := DataW.trod_struct hs h
  rw [hC] at hl
  match cs, hl, xs, hxl with
  | [c0, c1, c2], _, [y0, y1, y2], _ => exact ⟨c0, c1, c2, y0, y1, y2, n, rfl, by simpa [o0, k0] using hg 0 f0 rfl, by simpa [o1, k1] using hg 1 f1 rfl, by simpa [o2, k2] using hg 2 f2 rfl⟩

theorem fields5 {H : Type} {enc : TypeId × Value → H} {P : Program} {w : World} {base : Nat} {sp : Nat → Bool} {hd : Bool} {fuel : Nat} {t : TypeId} {f0 f1 f2 f3 f4 : Field} {cs : List Value} {x : DataW H × List MemPlace}
    (hs : P.underlying t = some (.struct #[f0, f1, f2, f3, f4])) (hC : P.cellsOf t = 5) (o0 : f0.offset = 0) (k0 : P.cellsOf f0.type = 1) (o1 : f1.offset = 1) (k1 : P.cellsOf f1.type = 1) (o2 : f2.offset = 2) (k2 : P.cellsOf f2.type = 1) (o3 : f3.offset = 3) (k3 : P.cellsOf f3.type = 1) (o4 : f4.offset = 4) (k4 : P.cellsOf f4.type = 1) (h : DataW.trod enc P w base sp hd fuel t cs = some x) :
    ∃ (v0 v1 v2 v3 v4 : Value) (y0 y1 y2 y3 y4 : DataW H × List MemPlace) (n : Nat), cs = [v0, v1, v2, v3, v4] ∧ DataW.trod enc P w base sp hd n f0.type [v0] = some y0 ∧ DataW.trod enc P w base sp hd n f1.type [v1] = some y1 ∧ DataW.trod enc P w base sp hd n f2.type [v2] = some y2 ∧ DataW.trod enc P w base sp hd n f3.type [v3] = some y3 ∧ DataW.trod enc P w base sp hd n f4.type [v4] = some y4 := by
  obtain ⟨xs, n, _, _, hl, hxl, hg⟩ := DataW.trod_struct hs h
  rw [hC] at hl
  match cs, hl, xs, hxl with
  | [c0, c1, c2, c3, c4], _, [y0, y1, y2, y3, y4], _ => exact ⟨c0, c1, c2, c3, c4, y0, y1, y2, y3, y4, n, rfl, by simpa [o0, k0] using hg 0 f0 rfl, by simpa [o1, k1] using hg 1 f1 rfl, by simpa [o2, k2] using hg 2 f2 rfl, by simpa [o3, k3] using hg 3 f3 rfl, by simpa [o4, k4] using hg 4 f4 rfl⟩

section
variable {H : Type} {enc : TypeId × Value → H} {W : World}
theorem wrap_of {n : Nat} {cs : List Value} {x : DataW H × List MemPlace} (h : DataW.trod enc Tryd.prog W 0 (fun _ => true) true n 51 cs = some x) :
    ∃ (k : Int) (p : ByteArray) (b : Int), cs = [.int .i64 k, .string p, .int .i64 b] := by
  obtain ⟨c0, c1, c2, y0, y1, y2, m, rfl, g0, g1, g2⟩ := fields3 Tryd.underlying51 kWrap rfl kInt rfl kStr rfl kInt h
  obtain ⟨k, e0, _, _⟩ := DataW.trod_int Tryd.underlying3 g0
  obtain ⟨p, e1, _, _⟩ := DataW.trod_string Tryd.underlying9 g1
  obtain ⟨b, e2, _, _⟩ := DataW.trod_int Tryd.underlying3 g2
  simp at e0 e1 e2
  exact ⟨k, p, b, by rw [e0, e1, e2]⟩

theorem wraps_of {n : Nat} {c : Value} {x : DataW H × List MemPlace} (h : DataW.trod enc Tryd.prog W 0 (fun _ => true) true n 22 [c] = some x) :
    ∃ A l cap K P B, c = .slice A l cap ∧ l ≤ maxLen ∧ Ws W A l K P B := by
  rcases open_slice Tryd.underlying22 h with ⟨hcs, _⟩ | ⟨a, len, cap, m, n', D, Pl, hcs, _, hl, hm, hmm, _, hx⟩
  · simp at hcs
    exact ⟨none, 0, 0, fun _ => 0, fun _ => ByteArray.empty, fun _ => 0, hcs, by unfold maxLen; omega, ⟨fun h => absurd h (Nat.lt_irrefl 0)⟩⟩
  · simp only [if_true] at hmm
    subst hmm
    have each : ∀ i, i < m → ∃ q : Int × ByteArray × Int, W.cell? (a.add (i * 3)) = some (.int .i64 q.1) ∧ W.cell? (a.add (i * 3 + 1)) = some (.string q.2.1) ∧ W.cell? (a.add (i * 3 + 2)) = some (.int .i64 q.2.2) := by
      intro i hi
      obtain ⟨cs', h1, h2⟩ := hx i hi
      obtain ⟨k, p, b, rfl⟩ := wrap_of h2
      rw [kWrap] at h1
      obtain ⟨_, _, hcell⟩ := World.cells?_some h1
      have e0 := hcell 0 (by omega)
      have e1 := hcell 1 (by omega)
      have e2 := hcell 2 (by omega)
      rw [Go.Deep.add_add] at e0 e1 e2
      exact ⟨(k, p, b), by simpa using e0, by simpa using e1, by simpa using e2⟩
    obtain ⟨q, hq⟩ := choose_lt each
    refine ⟨some a, len, m, fun i => (q i).1, fun i => (q i).2.1, fun i => (q i).2.2, by simpa using hcs, by omega, ⟨fun hn => ?_⟩⟩
    obtain ⟨b, o, s⟩ := a
    obtain rfl : s = none := by
      have h := (hq 0 (by omega)).1
      simpa [Addr.add] using World.cell?_spot h
    refine ⟨b, o, rfl, fun i hi => ?_⟩
    obtain ⟨h1, h2, h3⟩ := hq i (by omega)
    rw [add_none] at h1 h2 h3
    exact ⟨h1, by rw [Nat.add_assoc]; exact h2, by rw [Nat.add_assoc]; exact h3⟩

set_option maxRecDepth 100000 in
theorem err_of {base : Nat} {v : Value} {d : DataW H} {p : List MemPlace} (hv : Value.okWide Tryd.prog W .any base 24 v)
    (h : DataW.Trod enc Tryd.prog W 0 (fun _ => true) true 24 v d p) :
    ∃ (nl : Bool) (A : Option Addr) (n cap : Nat) (c a : Int) (fl : Bool) (K : Nat → Int) (P : Nat → ByteArray) (B : Nat → Int), v = .agg #[.bool nl, .slice A n cap, .int .i64 c, .int .i64 a, .bool fl] ∧ n ≤ maxLen ∧ Ws W A n K P B ∧ -9223372036854775808 ≤ c ∧ c ≤ 9223372036854775807 := by
  obtain ⟨cs, rfl, hsz⟩ := okWide_struct Tryd.underlying24 hv
  obtain ⟨fuel, hf⟩ := h
  obtain ⟨c0, c1, c2, c3, c4, y0, y1, y2, y3, y4, m, hcs, g0, g1, g2, g3, g4⟩ := fields5 Tryd.underlying24 kErr rfl kBool rfl kWs rfl kInt rfl kInt rfl kBool hf
  have hcs' : cs = #[c0, c1, c2, c3, c4] := by
    have h : cs.toList = [c0, c1, c2, c3, c4] := hcs
    exact Array.toList_inj.1 h
  subst hcs'
  obtain ⟨nl, e0, _⟩ := DataW.trod_bool Tryd.underlying4 g0
  obtain ⟨A, len, cap, K, P, B, e1, hl, hW⟩ := wraps_of (c := c1) g1
  obtain ⟨c, e2, _, hc⟩ := DataW.trod_int Tryd.underlying3 g2
  obtain ⟨a, e3, _, _⟩ := DataW.trod_int Tryd.underlying3 g3
  obtain ⟨fl, e4, _⟩ := DataW.trod_bool Tryd.underlying4 g4
  have hb := bounds_i64 hc
  simp at e0 e2 e3 e4
  exact ⟨nl, A, len, cap, c, a, fl, K, P, B, by rw [e0, e1, e2, e3, e4], hl, hW, hb.1, hb.2⟩
end

end Go.Proofs.YtjaklopkammmdaaDoor
