/- What the rows of this seat share: the knob of the program, its layout, and how a slice of bytes that came in is read. -/
import Derived.Test.YtdclkhnmpkbgaaaAwake
import Derived.ProofKit
import Derived.OpenShut
import Derived.ShutString
import Derived.ChangeOld
import Derived.Below
namespace Go.Proofs.Ytdclkhnmpkbgaaa
open Go.RowKit Go.ChangeShapes Go.WideShapes Go.ChangeAt

theorem own : ownKnob Try.prog.godebug = none := by kernel_rfl
theorem laidOut : laidOutB Try.prog = true := by kernel_rfl

/-- A slice of integers that came in: nil, or a row of cap cells with the numbers zs, of which the first len are its elements. -/
def IsRow (k : IntKind) (w : World) (a : Option Addr) (len cap : Nat) (zs : List Int) : Prop :=
  (a = none ∧ len = 0 ∧ cap = 0 ∧ zs = []) ∨
  ∃ x, a = some x ∧ len ≤ cap ∧ cap ≤ maxLen ∧ zs.length = cap ∧ (∀ i, i < zs.length → w.cell? (x.add i) = some (.int k (zs.getD i 0))) ∧ ∀ n ∈ zs, (Lit.int k n).wf = true

theorem Sl.of_row {w : World} {a : Option Addr} {len cap : Nat} {zs : List Int} (h : IsRow .u8 w a len cap zs) : Sl w a len cap (zs.take len) := by
  rcases h with ⟨rfl, rfl, rfl, rfl⟩ | ⟨x, rfl, hl, hm, hz, hc, hw⟩
  · exact Sl.nil w
  · refine ⟨by simp; omega, hl, hm, fun hn => ?_, fun y hy => ?_, fun e => by cases e⟩
    · obtain ⟨b, o, s⟩ := x
      obtain rfl : s = none := by simpa [Addr.add] using World.cell?_spot (hc 0 (by omega))
      refine ⟨b, o, rfl, fun i hi => ?_⟩
      have h := hc i (by omega)
      rw [add_none] at h
      rw [h]
      simp [List.getD, hi]
    · have h := bounds_u8 (hw y (List.mem_of_mem_take hy))
      omega

theorem SlK.of_row {w : World} {a : Option Addr} {len cap : Nat} {zs : List Int} (h : IsRow .u32 w a len cap zs) : SlK .u32 w a len cap (zs.take len) ∧ ∀ i, 0 ≤ (zs.take len).getD i 0 ∧ (zs.take len).getD i 0 < 4294967296 := by
  rcases h with ⟨rfl, rfl, rfl, rfl⟩ | ⟨x, rfl, hl, hm, hz, hc, hw⟩
  · exact ⟨SlK.nil .u32 w, fun i => by simp⟩
  · refine ⟨⟨by simp; omega, hl, hm, fun hn => ?_, fun e => by cases e⟩, rng_of fun y hy => ?_⟩
    · obtain ⟨b, o, s⟩ := x
      obtain rfl : s = none := by simpa [Addr.add] using World.cell?_spot (hc 0 (by omega))
      refine ⟨b, o, rfl, fun i hi => ?_⟩
      have h := hc i (by omega)
      rw [add_none] at h
      rw [h]
      simp [List.getD, hi]
    · have h := bounds_u32 (hw y (List.mem_of_mem_take hy))
      omega

end Go.Proofs.Ytdclkhnmpkbgaaa
