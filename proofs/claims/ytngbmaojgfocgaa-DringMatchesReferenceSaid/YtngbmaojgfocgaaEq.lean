/- Arrays of numbers that are compared as a whole. -/
import Derived.Test.YtngbmaojgfocgaaArr
import Derived.ChangeKeysEq
import Derived.Laws.StructEq
import Derived.BigFrame
import Derived.Deep.MidRow
import Derived.OrdersHeld
namespace Go.Proofs.Ytngbmaojgfocgaa
open Go.RowKit

/-- Whether two arrays of n numbers are the same. -/
def eqB (n : Nat) (f g : Nat → Int) : Bool := (List.range n).all fun i => f i == g i
theorem eqB_true {n : Nat} {f g : Nat → Int} (h : ∀ i, i < n → f i = g i) : eqB n f g = true := by
  unfold eqB
  rw [List.all_eq_true]
  intro i hi
  simpa using h i (List.mem_range.1 hi)
theorem eqB_false {n i : Nat} {f g : Nat → Int} (hi : i < n) (h : f i ≠ g i) : eqB n f g = false := by
  unfold eqB
  rw [List.all_eq_false]
  exact ⟨i, List.mem_range.2 hi, by simpa using h⟩
section
variable {P : Program} (w : World) {k : IntKind} {n : Nat} {f g : Nat → Int} {t e : TypeId}
theorem run_part_arr (he : P.underlying e = some (.int k)) (j : Nat) (hj : j < n) : (part e (arr k n f) (j * 1)).run P w = .ok (.int k (f j)) w := by
  have ha : (isAgg e).run P w = .ok false w := by simp [isAgg, run_underlying he]
  simp [part, ha, arr_get k n f j hj]
theorem run_eqItems_arr (d : Nat) (he : P.underlying e = some (.int k)) : ∀ is : List Nat, (∀ j ∈ is, j < n) →
    (Op.eqItems (d + 1) e 1 (arr k n f) (arr k n g) is).run P w = .ok (is.all fun j => f j == g j) w
  | [], _ => by simp [Op.eqItems]
  | j :: is, h => by
    have hj := h j (List.mem_cons_self)
    simp only [Op.eqItems, Sem.run_bind, run_part_arr w he j hj, run_equalIn_int w d e k k _ _ he, Result.andThen_ok, List.all_cons]
    cases hc : (f j == g j)
    · simp
    · simpa using run_eqItems_arr d he is fun x hx => h x (List.mem_cons_of_mem j hx)
theorem run_eq_arr (ht : P.underlying t = some (.array n e)) (he : P.underlying e = some (.int k)) {i : TypeInfo} (hi : P.info? e = some i) (hz : i.size = 1) :
    (Op.equalIn 10000 t (.agg (arr k n f)) (.agg (arr k n g))).run P w = .ok (eqB n f g) w := by
  have hc : P.cellsOf e = 1 := by simp [Program.cellsOf, hi, hz]
  rw [show (10000 : Nat) = 9999 + 1 from rfl, run_equalIn_array w 9999 _ _ ht hi, hc]
  exact run_eqItems_arr w 9998 he (List.range n) fun j hj => List.mem_range.1 hj
end

/-- A cell of an array that is held as a value. -/
theorem run_index_cells {P : Program} (w : World) {t e : TypeId} {n : Nat} {k : IntKind} {cs : Array Value} {v : Value} {i : TypeInfo} (ht : P.underlying t = some (.array n e)) (he : P.underlying e = some (.int k)) (hi : P.info? e = some i) (hz : i.size = 1)
    (j : Int) (h0 : 0 ≤ j) (h1 : j < (n : Int)) (hx : cs[j.toNat]? = some v) : (Instr.index t (.agg cs) (.int .i64 j)).run P w = .ok v w := by
  have ha : (isAgg e).run P w = .ok false w := by simp [isAgg, run_underlying he]
  have hc : P.cellsOf e = 1 := by simp [Program.cellsOf, hi, hz]
  simp [Instr.index, asIntOf, run_underlying ht, h0, h1, run_sizeOf w hi, hc, part, ha, hx]

/-- A load of a whole array under a guard that is met. -/
theorem wpList_load_row_want {P : Program} {ops : Array Oper} {rest : List Oper} {o : Oper} {a : Act} {w : World} {Q : Exit → Act → World → Prop} (hw : Region.wanted o (yielded ops a.tmps) = true) (ty : TypeId) (x : Operand) (ho : o.op = .load ty x)
    (g : Nat) (hx : a.eval x = .pointer (some ⟨g, 0, none⟩)) (t : TypeId) (cs : Array Value) (fr : Nat × Nat) (d : TypeDesc) (hg : w.heap[g]? = some (.cells cs t fr))
    (hu : P.underlying ty = some d) (hd : (match d with | .struct _ | .array _ _ => true | _ => false) = true) (hi : (P.info? ty).map (·.size) = some cs.size)
    (h : wpList P ops Q rest (a.put o.dst (.agg cs)) w) : wpList P ops Q (o :: rest) a w :=
  BigFrame.wpList_want hw fun _ hK => wp_load_row ty x ho g hx t cs fr d hg hu hd hi (hK _ _ h)

/-- A step of a region that draws its order, with the slot that it writes told: so that the frame stays written out. -/
theorem held_take {P : Program} {md : Region.Mode} {ops : Array Oper} {Q : Exit → Act → World → Prop} {S : World → Prop} {oi : Oper} {v : Value} {fuel : Nat} {listed : Array Bool} {a : Act} {w : World} (i d : Nat) (hi : ops[i]? = some oi) (hd : oi.dst = some d)
    (hs : Region.noSelect ops = true) (hf : Region.free md ops listed i = true) (hr : (Region.ready md ops listed).contains i = true)
    (hQ : ∀ c a w, Q (.panic c) (a.put oi.dst v) w → Q (.panic c) a w) (hy : YieldsIf P ops S oi v a) (hS : S w)
    (h : wpAnyH P md ops Q S fuel (listed.setIfInBounds i true) { a with tmps := a.tmps.setIfInBounds d v } w) : wpAnyH P md ops Q S (fuel + 1) listed a w :=
  wpAnyH_take hi hs hf hr hQ hy hS (by rw [hd]; exact h)
theorem Row.range {w : World} {g : Nat} {t : TypeId} {l : List Value} (h : Row w g t ⟨l⟩) : w.rangeAt g 0 l := fun j v hj => by
  rw [Nat.zero_add, h.cell]
  simpa using hj
theorem range_past {w w' : World} {g : Nat} {l : List Value} (h : w.rangeAt g 0 l) (hp : Past w w') : w'.rangeAt g 0 l := fun j v hj => by
  have hc := h j v hj
  rw [Below.cell hp (cell_lt hc)]
  exact hc

end Go.Proofs.Ytngbmaojgfocgaa
