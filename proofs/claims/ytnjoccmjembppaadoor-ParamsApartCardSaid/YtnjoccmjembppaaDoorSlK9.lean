/- Slices of numbers of one kind; bytes that are appended to what a call owns. -/
import Derived.Test.YtnjoccmjembppaaDoorRows
import Derived.Test.YtnjoccmjembppaaDoorBase
import Derived.Deep.QuietTactic
import Derived.BigQuiet
import Derived.Deep.LoopGhost
import Derived.Laws.AppendOwn
import Derived.Outline
namespace Go.Proofs.YtnjoccmjembppaaDoor
open Go.RowKit

theorem info8 : (Tryd.prog.info? 5).map (fun i => (i.zero, i.size, i.bytes)) = some (some (.int .u8 0), 1, 1) := by kernel_rfl
/-- A slice value with n numbers xs of kind k: address A (nil possible), capacity c. -/
structure SlK (k : IntKind) (w : World) (A : Option Addr) (n c : Nat) (xs : List Int) : Prop where
  len : xs.length = n
  cap : n ≤ c
  big : c ≤ maxLen
  cells : 0 < n → ∃ b o, A = some ⟨b, o, none⟩ ∧ ∀ i, i < n → w.cell? ⟨b, o + i, none⟩ = some (.int k (xs.getD i 0))
  nil0 : A = none → c = 0
theorem SlK.past {k : IntKind} {w w' : World} {A : Option Addr} {n c : Nat} {xs : List Int} (h : SlK k w A n c xs) (hp : Past w w') : SlK k w' A n c xs :=
  ⟨h.len, h.cap, h.big, fun hn => by
    obtain ⟨b, o, e, hc⟩ := h.cells hn
    exact ⟨b, o, e, fun i hi => (hp.cell (cell_lt (hc i hi))).trans (hc i hi)⟩, h.nil0⟩
theorem SlK.drewN {k : IntKind} {w : World} {A : Option Addr} {n c : Nat} {xs : List Int} (h : SlK k w A n c xs) (m : Nat) : SlK k (w.drewN m) A n c xs := ⟨h.len, h.cap, h.big, h.cells, h.nil0⟩

theorem getD_rngK {xs : List Int} {m : Int} (hm : 0 < m) (h : ∀ x ∈ xs, 0 ≤ x ∧ x < m) (i : Nat) : 0 ≤ xs.getD i 0 ∧ xs.getD i 0 < m := by
  rw [List.getD_eq_getElem?_getD]
  by_cases hi : i < xs.length
  · rw [List.getElem?_eq_getElem hi]
    exact h _ (List.getElem_mem hi)
  · rw [List.getElem?_eq_none (by omega)]
    exact ⟨Int.le_refl _, hm⟩
theorem past_alloc9 (w : World) (o : Obj) : Past w (w.alloc o) := (Below.refl _ _).alloc (Nat.le_refl _) _

end Go.Proofs.YtnjoccmjembppaaDoor
