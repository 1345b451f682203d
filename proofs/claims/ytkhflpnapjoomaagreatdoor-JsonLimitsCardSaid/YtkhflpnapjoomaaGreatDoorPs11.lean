/- A slice of pairs of strings in memory. -/
import Derived.Test.YtkhflpnapjoomaaGreatDoorRows
import Derived.Test.YtkhflpnapjoomaaGreatDoorBase
import Derived.Deep.QuietTactic
import Derived.BigQuiet
import Derived.Deep.LoopGhost
import Derived.Laws.AppendOwn
import Derived.Outline
namespace Go.Proofs.YtkhflpnapjoomaaGreatDoor
open Go.RowKit
set_option linter.unusedVariables false

theorem past_alloc8 (w : World) (o : Obj) : Past w (w.alloc o) := (Below.refl _ _).alloc (Nat.le_refl _) _
abbrev P2 : Type := ByteArray × ByteArray
instance : Inhabited P2 := ⟨(⟨#[]⟩, ⟨#[]⟩)⟩
/-- The slice holds these pairs: two cells each. -/
structure Ps (w : World) (A : Option Addr) (n c : Nat) (l : List P2) : Prop where
  len : l.length = n
  cap : n ≤ c
  big : c ≤ maxLen
  cells : 0 < n → ∃ b o, A = some ⟨b, o, none⟩ ∧ ∀ i, i < n → w.cell? ⟨b, o + i * 2, none⟩ = some (.string (l.getD i default).1) ∧ w.cell? ⟨b, o + i * 2 + 1, none⟩ = some (.string (l.getD i default).2)
  nilz : A = none → c = 0
theorem Ps.nil (w : World) : Ps w none 0 0 [] := ⟨rfl, Nat.le_refl _, Nat.zero_le _, fun h => absurd h (Nat.lt_irrefl 0), fun _ => rfl⟩
theorem Ps.past {w w' : World} {A : Option Addr} {n c : Nat} {l : List P2} (h : Ps w A n c l) (hp : Past w w') : Ps w' A n c l := by
  refine ⟨h.len, h.cap, h.big, fun hn => ?_, h.nilz⟩
  obtain ⟨b, o, e, hc⟩ := h.cells hn
  refine ⟨b, o, e, fun i hi => ?_⟩
  obtain ⟨h1, h2⟩ := hc i hi
  exact ⟨by rw [Below.cell hp (cell_lt h1)]; exact h1, by rw [Below.cell hp (cell_lt h2)]; exact h2⟩

/-- Which bytes may be in a name, and in a value. -/
def letB (c : Int) : Bool := decide (97 ≤ c ∧ c ≤ 122)
def plainB (c : Int) : Bool := decide (32 ≤ c ∧ c ≤ 126 ∧ c ≠ 34 ∧ c ≠ 92)
/-- Whether the byte at a place is a certain one. -/
def isB (xs : List Int) (p : Nat) (c : Int) : Bool := decide (p < xs.length ∧ xs.getD p 0 = c)
end Go.Proofs.YtkhflpnapjoomaaGreatDoor
