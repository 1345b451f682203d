/- Blocks that hold an array of integers of one kind, told by a function of the index. Arrays of numbers that are compared as a whole. -/
import Derived.Test.YteflpbkdnebopaaGreatDoorRows
import Derived.Test.YteflpbkdnebopaaGreatDoorBase
import Derived.Deep.QuietTactic
import Derived.BigQuiet
import Derived.Deep.LoopGhost
import Derived.Laws.AppendOwn
import Derived.Laws.Rows
import Derived.Laws.Tables
import Derived.Outline
import Derived.ChangeKeysEq
import Derived.Laws.StructEq
import Derived.BigFrame
import Derived.Deep.MidRow
import Derived.OrdersHeld
namespace Go.Proofs.YteflpbkdnebopaaGreatDoor
open Go.RowKit

/-- The cells of n numbers. -/
def arr (k : IntKind) (n : Nat) (f : Nat → Int) : Array Value := ((List.range n).map fun i => Value.int k (f i)).toArray
theorem arr_size (k : IntKind) (n : Nat) (f : Nat → Int) : (arr k n f).size = n := by simp [arr]
theorem arr_get (k : IntKind) (n : Nat) (f : Nat → Int) (i : Nat) (h : i < n) : (arr k n f)[i]? = some (.int k (f i)) := by simp [arr, h]
theorem arr_ext {k : IntKind} {n : Nat} {f g : Nat → Int} (h : ∀ i, i < n → f i = g i) : arr k n f = arr k n g := by
  unfold arr
  congr 1
  exact List.map_congr_left fun i hi => by rw [h i (List.mem_range.1 hi)]
theorem arr_of {k : IntKind} {n : Nat} {cs : Array Value} (f : Nat → Int) (hs : cs.size = n) (h : ∀ i, i < n → cs[i]? = some (.int k (f i))) : cs = arr k n f := by
  refine Array.ext (by rw [arr_size, hs]) fun i h1 h2 => ?_
  have e1 := h i (by omega)
  have e2 := arr_get k n f i (by omega)
  rw [Array.getElem?_eq_getElem h1] at e1
  rw [Array.getElem?_eq_getElem h2] at e2
  exact Option.some.inj (e1.trans e2.symm)
def upd (f : Nat → Int) (i : Nat) (v : Int) : Nat → Int := fun j => if j = i then v else f j
theorem upd_at (f : Nat → Int) (i : Nat) (v : Int) : upd f i v i = v := if_pos rfl
theorem upd_ne (f : Nat → Int) {i j : Nat} (v : Int) (h : j ≠ i) : upd f i v j = f j := if_neg h
theorem arr_set (k : IntKind) (n : Nat) (f : Nat → Int) (i : Nat) (v : Int) (h : i < n) : (arr k n f).setIfInBounds i (.int k v) = arr k n (upd f i v) := by
  refine arr_of _ (by simp [arr_size]) fun j hj => ?_
  by_cases e : j = i
  · subst e
    rw [Array.getElem?_setIfInBounds_self_of_lt (by rw [arr_size]; exact h), upd_at]
  · rw [Array.getElem?_setIfInBounds_ne (by omega), arr_get k n f j hj, upd_ne f v e]
theorem arr_one (k : IntKind) (n : Nat) (f : Nat → Int) : (arr k n f).all (·.oneCell') = true := by
  rw [Array.all_eq_true]
  intro i hi
  have h := arr_get k n f i (by rwa [arr_size] at hi)
  rw [Array.getElem?_eq_getElem hi] at h
  rw [Option.some.inj h]
  rfl

/-- Block g holds just n numbers, f i at place i. -/
abbrev LM (k : IntKind) (w : World) (g : Nat) (t : TypeId) (n : Nat) (f : Nat → Int) : Prop := Row w g t (arr k n f)
section
variable {k : IntKind} {w w' : World} {g : Nat} {t : TypeId} {n : Nat} {f f' : Nat → Int}
theorem LM.at (h : LM k w g t n f) (i : Nat) (hi : i < n) : w.cell? ⟨g, i, none⟩ = some (.int k (f i)) := by
  rw [Row.cell h, arr_get k n f i hi]
theorem LM.put (h : LM k w g t n f) (i : Nat) (hi : i < n) (v : Int) : LM k (w.setCell ⟨g, i, none⟩ (.int k v)) g t n (upd f i v) := by
  have := Row.set h i (.int k v)
  rwa [arr_set k n f i v hi] at this
theorem LM.same (h : LM k w g t n f) (he : ∀ i, i < n → f i = f' i) : LM k w g t n f' := by
  have := arr_ext (k := k) he
  unfold LM at h ⊢
  rwa [this] at h
end
theorem Row.setOther {w : World} {g h : Nat} {t : TypeId} {cs : Array Value} (r : Row w g t cs) (hne : h ≠ g) (o : Nat) (v : Value) : Row (w.setCell ⟨h, o, none⟩ v) g t cs := by
  unfold Row at r ⊢
  simp [World.setCell, Array.getElem?_modify, hne, r]
theorem Row.drewN {w : World} {g : Nat} {t : TypeId} {cs : Array Value} (r : Row w g t cs) (m : Nat) : Row (w.drewN m) g t cs := r
theorem Past.set {a w : World} (h : Past a w) {p : Addr} (hp : a.heap.size ≤ p.block) (v : Value) : Past a (w.setCell p v) := Below.setCell h hp v
/-- A load of a whole array. -/
theorem load_arr {P : Program} {w : World} {g : Nat} {t ty : TypeId} {cs : Array Value} {d : TypeDesc} (h : Row w g t cs) (hu : P.underlying ty = some d) (hd : (match d with | .struct _ | .array _ _ => true | _ => false) = true) (hi : (P.info? ty).map (·.size) = some cs.size) :
    (loadVar ty ⟨g, 0, none⟩).run P w = .ok (.agg cs) w := run_loadVar_row w g t ty cs (0, 0) d h hu hd hi

end Go.Proofs.YteflpbkdnebopaaGreatDoor

namespace Go.Proofs.YteflpbkdnebopaaGreatDoor
open Go.RowKit

/-- Whether two arrays of n numbers are the same. -/
def eqB (n : Nat) (f g : Nat → Int) : Bool := (List.range n).all fun i => f i == g i
theorem eqB_true {n : Nat} {f g : Nat → Int} (h : ∀ i, i < n → f i = g i) : eqB n f g = true := by
  unfold eqB
  rw [List.all_eq_true]
  intro i hi
  simpa using h i (List.mem_range.1 hi)
theorem eqB_false {n i : Nat} {f g : Nat → Int} (hi : i < n) (h : f i ≠ g i) : eqB n f g = false := by
  unfold eqB
  rw [List.all_eq_false]
  exact ⟨i, List.mem_range.2 hi, by simpa using h⟩
section
variable {P : Program} (w : World) {k : IntKind} {n : Nat} {f g : Nat → Int} {t e : TypeId}
theorem run_part_arr (he : P.underlying e = some (.int k)) (j : Nat) (hj : j < n) : (part e (arr k n f) (j * 1)).run P w = .ok (.int k (f j)) w := by
  have ha : (isAgg e).run P w = .ok false w := by simp [isAgg, run_underlying he]
  simp [part, ha, arr_get k n f j hj]
theorem run_eqItems_arr (d : Nat) (he : P.underlying e = some (.int k)) : ∀ is : List Nat, (∀ j ∈ is, j < n) →
    (Op.eqItems (d + 1) e 1 (arr k n f) (arr k n g) is).run P w = .ok (is.all fun j => f j == g j) w
  | [], _ => by simp [Op.eqItems]
  | j :: is, h => by
    have hj := h j (List.mem_cons_self)
    simp only [Op.eqItems, Sem.run_bind, run_part_arr w he j hj, run_equalIn_int w d e k k _ _ he, Result.andThen_ok, List.all_cons]
    cases hc : (f j == g j)
    · simp
    · simpa using run_eqItems_arr d he is fun x hx => h x (List.mem_cons_of_mem j hx)
theorem run_eq_arr (ht : P.underlying t = some (.array n e)) (he : P.underlying e = some (.int k)) {i : TypeInfo} (hi : P.info? e = some i) (hz : i.size = 1) :
    (Op.equalIn 10000 t (.agg (arr k n f)) (.agg (arr k n g))).run P w = .ok (eqB n f g) w := by
  have hc : P.cellsOf e = 1 := by simp [Program.cellsOf, hi, hz]
  rw [show (10000 : Nat) = 9999 + 1 from rfl, run_equalIn_array w 9999 _ _ ht hi, hc]
  exact run_eqItems_arr w 9998 he (List.range n) fun j hj => List.mem_range.1 hj
end

/-- A cell of an array that is held as a value. -/
theorem run_index_cells {P : Program} (w : World) {t e : TypeId} {n : Nat} {k : IntKind} {cs : Array Value} {v : Value} {i : TypeInfo} (ht : P.underlying t = some (.array n e)) (he : P.underlying e = some (.int k)) (hi : P.info? e = some i) (hz : i.size = 1)
    (j : Int) (h0 : 0 ≤ j) (h1 : j < (n : Int)) (hx : cs[j.toNat]? = some v) : (Instr.index t (.agg cs) (.int .i64 j)).run P w = .ok v w := by
  have ha : (isAgg e).run P w = .ok false w := by simp [isAgg, run_underlying he]
  have hc : P.cellsOf e = 1 := by simp [Program.cellsOf, hi, hz]
  simp [Instr.index, asIntOf, run_underlying ht, h0, h1, run_sizeOf w hi, hc, part, ha, hx]

/-- A load of a whole array under a guard that is met. -/
theorem wpList_load_row_want {P : Program} {ops : Array Oper} {rest : List Oper} {o : Oper} {a : Act} {w : World} {Q : Exit → Act → World → Prop} (hw : Region.wanted o (yielded ops a.tmps) = true) (ty : TypeId) (x : Operand) (ho : o.op = .load ty x)
    (g : Nat) (hx : a.eval x = .pointer (some ⟨g, 0, none⟩)) (t : TypeId) (cs : Array Value) (fr : Nat × Nat) (d : TypeDesc) (hg : w.heap[g]? = some (.cells cs t fr))
    (hu : P.underlying ty = some d) (hd : (match d with | .struct _ | .array _ _ => true | _ => false) = true) (hi : (P.info? ty).map (·.size) = some cs.size)
    (h : wpList P ops Q rest (a.put o.dst (.agg cs)) w) : wpList P ops Q (o :: rest) a w :=
  BigFrame.wpList_want hw fun _ hK => wp_load_row ty x ho g hx t cs fr d hg hu hd hi (hK _ _ h)

/-- A step of a region that draws its order, with the slot that it writes told: so that the frame stays written out. -/
theorem held_take {P : Program} {md : Region.Mode} {ops : Array Oper} {Q : Exit → Act → World → Prop} {S : World → Prop} {oi : Oper} {v : Value} {fuel : Nat} {listed : Array Bool} {a : Act} {w : World} (i d : Nat) (hi : ops[i]? = some oi) (hd : oi.dst = some d)
    (hs : Region.noSelect ops = true) (hf : Region.free md ops listed i = true) (hr : (Region.ready md ops listed).contains i = true)
    (hQ : ∀ c a w, Q (.panic c) (a.put oi.dst v) w → Q (.panic c) a w) (hy : YieldsIf P ops S oi v a) (hS : S w)
    (h : wpAnyH P md ops Q S fuel (listed.setIfInBounds i true) { a with tmps := a.tmps.setIfInBounds d v } w) : wpAnyH P md ops Q S (fuel + 1) listed a w :=
  wpAnyH_take hi hs hf hr hQ hy hS (by rw [hd]; exact h)
theorem Row.range {w : World} {g : Nat} {t : TypeId} {l : List Value} (h : Row w g t ⟨l⟩) : w.rangeAt g 0 l := fun j v hj => by
  rw [Nat.zero_add, h.cell]
  simpa using hj
theorem range_past {w w' : World} {g : Nat} {l : List Value} (h : w.rangeAt g 0 l) (hp : Past w w') : w'.rangeAt g 0 l := fun j v hj => by
  have hc := h j v hj
  rw [Below.cell hp (cell_lt hc)]
  exact hc

end Go.Proofs.YteflpbkdnebopaaGreatDoor
