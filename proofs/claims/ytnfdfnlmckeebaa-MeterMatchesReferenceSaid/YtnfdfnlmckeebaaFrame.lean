/- What the rows of this seat share: the knob of the program, its layout, and how a slice of bytes that came in is read. -/
import Derived.Test.YtnfdfnlmckeebaaAwake
import Derived.ProofKit
import Derived.OpenShut
import Derived.ShutString
import Derived.ChangeOld
import Derived.Below
namespace Go.Proofs.Ytnfdfnlmckeebaa
open Go.RowKit Go.ChangeShapes Go.WideShapes Go.ChangeAt

theorem own : ownKnob Try.prog.godebug = none := by kernel_rfl
theorem laidOut : laidOutB Try.prog = true := by kernel_rfl

/-- A slice of integers that came in: nil, or a row of cap cells with the numbers zs, of which the first len are its elements. -/
def IsRow (k : IntKind) (w : World) (a : Option Addr) (len cap : Nat) (zs : List Int) : Prop :=
  (a = none ∧ len = 0 ∧ cap = 0 ∧ zs = []) ∨
  ∃ x, a = some x ∧ len ≤ cap ∧ cap ≤ maxLen ∧ zs.length = cap ∧ (∀ i, i < zs.length → w.cell? (x.add i) = some (.int k (zs.getD i 0))) ∧ ∀ n ∈ zs, (Lit.int k n).wf = true

theorem Sl.of_row {w : World} {a : Option Addr} {len cap : Nat} {zs : List Int} (h : IsRow .u8 w a len cap zs) : Sl w a len cap (zs.take len) := by
  rcases h with ⟨rfl, rfl, rfl, rfl⟩ | ⟨x, rfl, hl, hm, hz, hc, hw⟩
  · exact Sl.nil w
  · refine ⟨by simp; omega, hl, hm, fun hn => ?_, fun y hy => ?_, fun e => by cases e⟩
    · obtain ⟨b, o, s⟩ := x
      obtain rfl : s = none := by simpa [Addr.add] using World.cell?_spot (hc 0 (by omega))
      refine ⟨b, o, rfl, fun i hi => ?_⟩
      have h := hc i (by omega)
      rw [add_none] at h
      rw [h]
      simp [List.getD, hi]
    · have h := bounds_u8 (hw y (List.mem_of_mem_take hy))
      omega

/-- A slice of int64 that came in. -/
structure L64 (w : World) (A : Option Addr) (n c : Nat) (xs : List Int) : Prop where
  len : xs.length = n
  cap : n ≤ c
  big : c ≤ maxLen
  cells : 0 < n → ∃ b o, A = some ⟨b, o, none⟩ ∧ ∀ i, i < n → w.cell? ⟨b, o + i, none⟩ = some (.int .i64 (xs.getD i 0))
  rng : ∀ i, -9223372036854775808 ≤ xs.getD i 0 ∧ xs.getD i 0 ≤ 9223372036854775807
theorem L64.of_row {w : World} {a : Option Addr} {len cap : Nat} {zs : List Int} (h : IsRow .i64 w a len cap zs) : L64 w a len cap (zs.take len) := by
  rcases h with ⟨rfl, rfl, rfl, rfl⟩ | ⟨x, rfl, hl, hm, hz, hc, hw⟩
  · exact ⟨rfl, Nat.le_refl _, by unfold maxLen; omega, fun h => absurd h (Nat.lt_irrefl 0), fun i => by simp⟩
  · refine ⟨by simp; omega, hl, hm, fun hn => ?_, fun i => ?_⟩
    · obtain ⟨b, o, s⟩ := x
      obtain rfl : s = none := by simpa [Addr.add] using World.cell?_spot (hc 0 (by omega))
      refine ⟨b, o, rfl, fun i hi => ?_⟩
      have h := hc i (by omega)
      rw [add_none] at h
      rw [h]
      simp [List.getD, hi]
    · by_cases hi : i < len ∧ i < zs.length
      · have h := bounds_i64 (hw (zs.getD i 0) (by simp [List.getD, List.getElem?_eq_getElem hi.2]))
        have e : (zs.take len).getD i 0 = zs.getD i 0 := by simp [List.getD, hi.1]
        rw [e]
        omega
      · have e : (zs.take len).getD i 0 = 0 := by
          rw [List.getD, List.getElem?_eq_none (by simp; omega)]
          rfl
        rw [e]
        omega
theorem L64.past {w w' : World} {A : Option Addr} {n c : Nat} {xs : List Int} (h : L64 w A n c xs) (hp : Past w w') : L64 w' A n c xs :=
  ⟨h.len, h.cap, h.big, fun hn => by
    obtain ⟨b, o, rfl, hc⟩ := h.cells hn
    exact ⟨b, o, rfl, fun i hi => by rw [Below.cell hp (cell_lt (hc i hi))]; exact hc i hi⟩, h.rng⟩

/-- Two meters of a call's own, with one budget. -/
def Two (w0 w : World) (g h : Nat) (B c d : Int) : Prop := Own w0 w g B c ∧ Own w0 w h B d ∧ g ≠ h
section
variable {w0 w w' : World} {g h : Nat} {B c d n : Int}
theorem Two.later (t : Two w0 w g h B c d) (hp : Past w w') : Two w0 w' g h B c d := ⟨t.1.later hp, t.2.1.later hp, t.2.2⟩
theorem Two.drewN (t : Two w0 w g h B c d) (m : Nat) : Two w0 (w.drewN m) g h B c d := ⟨t.1.drewN m, t.2.1.drewN m, t.2.2⟩
theorem Own.far (t : Own w0 w g B c) (hh : w0.heap.size ≤ h) (hne : h ≠ g) (v : Value) : Own w0 (w.setCell ⟨h, 0, none⟩ v) g B c :=
  ⟨t.1.setCell hh v, t.2.1.far hne v, t.2.2⟩
theorem Two.add1_ok (t : Two w0 w g h B c d) (hp : 0 ≤ n) (hn : n ≤ B - c) :
    Calls Try.prog 10 #[.pointer (some ⟨g, 0, none⟩), .int .i64 n] w fun e w' => e = .returned (.bool true) ∧ Two w0 w' g h B (c + n) d := by
  obtain ⟨⟨h1, h2, h3, h4, h5, h6⟩, t2, t3⟩ := t
  refine (_root_.Go.Proofs.Ytnfdfnlmckeebaa.add_ok h2 h4 h5 h6 hp hn).mono ?_
  rintro e w' ⟨rfl, rfl⟩
  exact ⟨rfl, ⟨h1.setCell h3 _, h2.set _, h3, by omega, by omega, h6⟩, t2.far h3 t3 _, t3⟩
theorem Two.add2_ok (t : Two w0 w g h B c d) (hp : 0 ≤ n) (hn : n ≤ B - d) :
    Calls Try.prog 10 #[.pointer (some ⟨h, 0, none⟩), .int .i64 n] w fun e w' => e = .returned (.bool true) ∧ Two w0 w' g h B c (d + n) := by
  obtain ⟨t1, ⟨h1, h2, h3, h4, h5, h6⟩, t3⟩ := t
  refine (_root_.Go.Proofs.Ytnfdfnlmckeebaa.add_ok h2 h4 h5 h6 hp hn).mono ?_
  rintro e w' ⟨rfl, rfl⟩
  exact ⟨rfl, t1.far h3 t3.symm _, ⟨h1.setCell h3 _, h2.set _, h3, by omega, by omega, h6⟩, t3⟩
end

end Go.Proofs.Ytnfdfnlmckeebaa
