/- Pairs of strings in a block that is sorted: their cells, the order of their names. -/
import Derived.Test.YtclnoblcdaimiaaDoorPs11
import Derived.Test.YtclnoblcdaimiaaDoorSt11B
import Derived.Shelf.SlSortCmp.KitK
import Derived.Laws.Cover1
namespace Go.Proofs.YtclnoblcdaimiaaDoor
open Go.RowKit Go.Sort Go.Shelf Go.Lib
set_option linter.unusedVariables false

def encP (x : P2) : List Value := [.string x.1, .string x.2]
/-- The order of the names: -1, 0, 1. -/
def cfP (x y : P2) : Int := if Go.Op.bytesLess x.1.toList y.1.toList = true then -1 else if (Go.Op.bytesLess x.1.toList y.1.toList || x.1.toList == y.1.toList) = true then 0 else 1
def clsP (x : P2) : List UInt8 := x.1.toList
theorem ltP_eq (x y : P2) : ltOf cfP x y = ltStr (clsP x) (clsP y) := by
  have e : ltStr (clsP x) (clsP y) = Go.Op.bytesLess x.1.toList y.1.toList := (bytesLess_eq _ _).symm
  rw [e]
  unfold ltOf cfP
  by_cases h : Go.Op.bytesLess x.1.toList y.1.toList = true
  · rw [if_pos h, h]; rfl
  · rw [if_neg h]
    have h : Go.Op.bytesLess x.1.toList y.1.toList = false := by simpa using h
    rw [h]
    split <;> rfl
theorem swoP : SWO (ltOf cfP) where
  irrefl := fun x => by rw [ltP_eq]; exact swo_ltStr.irrefl _
  trans := fun x y z => by rw [ltP_eq, ltP_eq, ltP_eq]; exact swo_ltStr.trans _ _ _
  ntrans := fun x y z => by rw [ltP_eq, ltP_eq, ltP_eq]; exact swo_ltStr.ntrans _ _ _
theorem clsP_ne (x y : P2) (h : ltOf cfP x y = true) : clsP x ≠ clsP y := fun e => by
  rw [ltP_eq, e, swo_ltStr.irrefl] at h
  cases h
theorem clsP_eq (x y : P2) (h : clsP x = clsP y) : ltOf cfP x y = false := by
  rw [ltP_eq, h]
  exact swo_ltStr.irrefl _
theorem clsP_tot (x y : P2) (h : ltOf cfP x y = false) (g : ltOf cfP y x = false) : clsP x = clsP y := by
  rw [ltP_eq] at h g
  have h1 : ¬ (clsP x < clsP y) := by simpa [ltStr] using h
  have h2 : ¬ (clsP y < clsP x) := by simpa [ltStr] using g
  exact List.le_antisymm (List.not_lt.1 h2) (List.not_lt.1 h1)
theorem encP_k (x : P2) : (encP x).length = 2 := rfl
theorem encP_one (x : P2) : ∀ v ∈ encP x, v.oneCell' = true := by
  intro v hv
  unfold encP at hv
  simp at hv
  rcases hv with rfl | rfl <;> rfl
/-- The pairs' cells. -/
theorem holdsP {w : World} {blk off : Nat} {d : Array P2} (h : HoldsK encP 2 w blk off d) (i : Nat) (hi : i < d.size) :
    w.cell? ⟨blk, off + i * 2, none⟩ = some (.string d[i]!.1) ∧ w.cell? ⟨blk, off + i * 2 + 1, none⟩ = some (.string d[i]!.2) ∧ w.frozen? ⟨blk, off + i * 2, none⟩ = false ∧ w.frozen? ⟨blk, off + i * 2 + 1, none⟩ = false := by
  have h0 := h.cell hi (c := 0) (by decide)
  have h1 := h.cell hi (c := 1) (by decide)
  exact ⟨h0.1, h1.1, h0.2, h1.2⟩
/-- Behind the sort only the row and new blocks have turned. -/
theorem swk_past {w wc W : World} {blk off : Nat} {d : Array P2} (hp : Past w wc) (hb : w.heap.size ≤ blk) (h : SWK encP 2 wc blk off d W) : Past w W := by
  obtain ⟨n, os, rfl⟩ := h
  unfold sortWorldK putRowK
  refine ⟨hp.os, hp.tape, hp.output, ?_, fun k hk => ?_⟩
  · have := hp.size
    simp [grow, putRow, mapBlock, Sort.ahead]
    omega
  · rw [heap_grow_old _ _ (by have := hp.size; simp [putRow, mapBlock, Sort.ahead]; omega)]
    have hne : blk ≠ k := by omega
    rw [← hp.block k hk]
    simp [putRow, mapBlock, Sort.ahead, Array.getElem?_modify, hne]
/-- The contract of a comparison in the sort's worlds. -/
theorem swk_set {W : World} {blk o : Nat} {x : P2} : W.setCells blk o (encP x) = (W.setCell ⟨blk, o, none⟩ (.string x.1)).setCell ⟨blk, o + 1, none⟩ (.string x.2) := rfl
end Go.Proofs.YtclnoblcdaimiaaDoor
