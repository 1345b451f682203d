/- The reference's Same: lists of pairs are compared. -/
import Derived.Test.YtkhflpnapjoomaaGreatDoorRef11A
import Derived.Deep.Cut
import Derived.WideShapes
import Derived.Lib.Bytes
import Derived.Deep.DeepCutAuto
namespace Go.Proofs.YtkhflpnapjoomaaGreatDoor
open Go.RowKit
set_option linter.unusedVariables false

instance : DecidableEq P2 := inferInstanceAs (DecidableEq (ByteArray × ByteArray))
theorem toList_inj11 {a b : ByteArray} (h : a.toList = b.toList) : a = b := by
  rw [Lib.toList_data, Lib.toList_data] at h
  exact Go.WideShapes.bytes_inj h
theorem bneS {a b : ByteArray} (h : ¬ a = b) : (a.toList == b.toList) = false := by
  simp only [beq_eq_false_iff_ne, ne_eq]
  exact fun e => h (toList_inj11 e)
def sameP (l k : List P2) : Bool := decide (l = k)
theorem same_all {l k : List P2} (hl : l.length = k.length) (h : ∀ j, j < l.length → l.getD j default = k.getD j default) : l = k := by
  refine List.ext_getElem hl fun i h1 h2 => ?_
  have := h i h1
  rwa [List.getD_eq_getElem?_getD, List.getD_eq_getElem?_getD, List.getElem?_eq_getElem h1, List.getElem?_eq_getElem h2] at this

end Go.Proofs.YtkhflpnapjoomaaGreatDoor
