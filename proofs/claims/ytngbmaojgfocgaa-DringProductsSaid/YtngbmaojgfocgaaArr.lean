/- Blocks that hold an array of integers of one kind, told by a function of the index. -/
import Derived.Test.YtngbmaojgfocgaaRows
import Derived.Test.YtngbmaojgfocgaaBase
import Derived.Deep.QuietTactic
import Derived.BigQuiet
import Derived.Deep.LoopGhost
import Derived.Laws.AppendOwn
import Derived.Laws.Rows
import Derived.Laws.Tables
import Derived.Outline
namespace Go.Proofs.Ytngbmaojgfocgaa
open Go.RowKit

/-- The cells of n numbers. -/
def arr (k : IntKind) (n : Nat) (f : Nat → Int) : Array Value := ((List.range n).map fun i => Value.int k (f i)).toArray
theorem arr_size (k : IntKind) (n : Nat) (f : Nat → Int) : (arr k n f).size = n := by simp [arr]
theorem arr_get (k : IntKind) (n : Nat) (f : Nat → Int) (i : Nat) (h : i < n) : (arr k n f)[i]? = some (.int k (f i)) := by simp [arr, h]
theorem arr_ext {k : IntKind} {n : Nat} {f g : Nat → Int} (h : ∀ i, i < n → f i = g i) : arr k n f = arr k n g := by
  unfold arr
  congr 1
  exact List.map_congr_left fun i hi => by rw [h i (List.mem_range.1 hi)]
theorem arr_of {k : IntKind} {n : Nat} {cs : Array Value} (f : Nat → Int) (hs : cs.size = n) (h : ∀ i, i < n → cs[i]? = some (.int k (f i))) : cs = arr k n f := by
  refine Array.ext (by rw [arr_size, hs]) fun i h1 h2 => ?_
  have e1 := h i (by omega)
  have e2 := arr_get k n f i (by omega)
  rw [Array.getElem?_eq_getElem h1] at e1
  rw [Array.getElem?_eq_getElem h2] at e2
  exact Option.some.inj (e1.trans e2.symm)
def upd (f : Nat → Int) (i : Nat) (v : Int) : Nat → Int := fun j => if j = i then v else f j
theorem upd_at (f : Nat → Int) (i : Nat) (v : Int) : upd f i v i = v := if_pos rfl
theorem upd_ne (f : Nat → Int) {i j : Nat} (v : Int) (h : j ≠ i) : upd f i v j = f j := if_neg h
theorem arr_set (k : IntKind) (n : Nat) (f : Nat → Int) (i : Nat) (v : Int) (h : i < n) : (arr k n f).setIfInBounds i (.int k v) = arr k n (upd f i v) := by
  refine arr_of _ (by simp [arr_size]) fun j hj => ?_
  by_cases e : j = i
  · subst e
    rw [Array.getElem?_setIfInBounds_self_of_lt (by rw [arr_size]; exact h), upd_at]
  · rw [Array.getElem?_setIfInBounds_ne (by omega), arr_get k n f j hj, upd_ne f v e]
theorem arr_one (k : IntKind) (n : Nat) (f : Nat → Int) : (arr k n f).all (·.oneCell') = true := by
  rw [Array.all_eq_true]
  intro i hi
  have h := arr_get k n f i (by rwa [arr_size] at hi)
  rw [Array.getElem?_eq_getElem hi] at h
  rw [Option.some.inj h]
  rfl

/-- Block g holds just n numbers, f i at place i. -/
abbrev LM (k : IntKind) (w : World) (g : Nat) (t : TypeId) (n : Nat) (f : Nat → Int) : Prop := Row w g t (arr k n f)
section
variable {k : IntKind} {w w' : World} {g : Nat} {t : TypeId} {n : Nat} {f f' : Nat → Int}
theorem LM.at (h : LM k w g t n f) (i : Nat) (hi : i < n) : w.cell? ⟨g, i, none⟩ = some (.int k (f i)) := by
  rw [Row.cell h, arr_get k n f i hi]
theorem LM.put (h : LM k w g t n f) (i : Nat) (hi : i < n) (v : Int) : LM k (w.setCell ⟨g, i, none⟩ (.int k v)) g t n (upd f i v) := by
  have := Row.set h i (.int k v)
  rwa [arr_set k n f i v hi] at this
theorem LM.same (h : LM k w g t n f) (he : ∀ i, i < n → f i = f' i) : LM k w g t n f' := by
  have := arr_ext (k := k) he
  unfold LM at h ⊢
  rwa [this] at h
end
theorem Row.setOther {w : World} {g h : Nat} {t : TypeId} {cs : Array Value} (r : Row w g t cs) (hne : h ≠ g) (o : Nat) (v : Value) : Row (w.setCell ⟨h, o, none⟩ v) g t cs := by
  unfold Row at r ⊢
  simp [World.setCell, Array.getElem?_modify, hne, r]
theorem Row.drewN {w : World} {g : Nat} {t : TypeId} {cs : Array Value} (r : Row w g t cs) (m : Nat) : Row (w.drewN m) g t cs := r
theorem Past.set {a w : World} (h : Past a w) {p : Addr} (hp : a.heap.size ≤ p.block) (v : Value) : Past a (w.setCell p v) := Below.setCell h hp v
/-- A load of a whole array. -/
theorem load_arr {P : Program} {w : World} {g : Nat} {t ty : TypeId} {cs : Array Value} {d : TypeDesc} (h : Row w g t cs) (hu : P.underlying ty = some d) (hd : (match d with | .struct _ | .array _ _ => true | _ => false) = true) (hi : (P.info? ty).map (·.size) = some cs.size) :
    (loadVar ty ⟨g, 0, none⟩).run P w = .ok (.agg cs) w := run_loadVar_row w g t ty cs (0, 0) d h hu hd hi

end Go.Proofs.Ytngbmaojgfocgaa
