/- Appending in place; the library's slices.Chunk at bytes. -/
import Derived.Lib.AppendStr
import Derived.Laws.OwnMore
import Derived.Room.AppendFits
import Derived.Test.YtnnonidiogoffaaGreatDoorPm12L
namespace Go.Proofs.YtnnonidiogoffaaGreatDoor
open Go.RowKit Go.Shelf
set_option linter.unusedVariables false
attribute [local go_sem] Oper.semAt_some

theorem wp_app {P : Program} {o : Oper} {a : Act} {w : World} {K : Act → World → Prop} {Q : Exit → Act → World → Prop} (s x : Operand) (t u : TypeId) (ho : o.op = .call { callee := .builtin .append, args := #[s, x], argTypes := #[t, u] })
    (v vx : Value) (hs : a.eval s = v) (hx : a.eval x = vx) {v' : Value} {w' : World} (hr : (Builtin.append_ #[t, u] o.type #[v, vx]).run P w = .ok v' w') (h : K (a.put o.dst v') w') : o.wp P a w K Q := by
  unfold Oper.wp execOp
  simp only [ho, resolve, invoke, builtin, Sem.run_bind, Sem.run_pure, Result.andThen_ok, List.map_toArray, List.map_cons, List.map_nil, hs, hx, hr]
  exact h
theorem wpListIn_app {F : Fence} {n : Nat} {P : Program} {ops : Array Oper} {rest : List Oper} {o : Oper} {a : Act} {w : World} {Q : Exit → Act → World → Prop} (hg : o.guard = none) (s x : Operand) (t u : TypeId) (ho : o.op = .call { callee := .builtin .append, args := #[s, x], argTypes := #[t, u] })
    (v vx : Value) (hs : a.eval s = v) (hx : a.eval x = vx) {v' : Value} {w' : World} (hr : (Builtin.append_ #[t, u] o.type #[v, vx]).run P w = .ok v' w') (h : wpListIn F n P ops Q rest (a.put o.dst v') w') : wpListIn F n P ops Q (o :: rest) a w := by
  refine wpListIn_plain hg fun K hK => ?_
  unfold Oper.wpIn
  refine ⟨by simp [Oper.about, ho, resolve, Target.leads, Sem.run_pure], ?_⟩
  rw [Oper.semAt_plain F _ _ (by rw [ho]; intro c hc; cases hc)]
  simp [execOp, ho, resolve, invoke, builtin, hs, hx, hr, Result.andThen]
  exact hK _ _ h
/-- What is being written: a slice at the block B that owns its bytes. -/
abbrev Ob (W : World) (B size : Nat) (xs : List Int) : Prop := W.ownsRow B 5 1 (.slice (some ⟨B, 0, none⟩) xs.length size) xs.length (xs.map (Value.int .u8))
theorem strCells_any (S : ByteArray) : Lib.strCells S = (ints S).map (Value.int .u8) := by
  unfold Lib.strCells ints
  simp
theorem ob_str (W : World) (B size : Nat) (xs : List Int) (S : ByteArray) (h : Ob W B size xs) (h0 : 0 < size) (hr : xs.length + S.size ≤ size) (ty : TypeId) :
    ∃ w', (Builtin.append_ #[22, 9] ty #[.slice (some ⟨B, 0, none⟩) xs.length size, .string S]).run Tryz.prog W = .ok (.slice (some ⟨B, 0, none⟩) (xs.length + S.size) size) w' ∧ Ob w' B size (xs ++ ints S) ∧ W.grownBy w' (some B) := by
  obtain ⟨i, hi, hz, hsz, hby⟩ := info_parts info8
  obtain ⟨w', h1, h2, h3⟩ := Lib.run_append_fits_string (P := Tryz.prog) W B 22 9 ty 5 i Tryz.underlying22 Tryz.underlying9 hi hsz _ _ _ _ h S h0 hr
  refine ⟨w', h1, ?_, h3⟩
  have hl : (xs ++ ints S).length = xs.length + S.size := by rw [List.length_append, ints_len]
  unfold Ob
  rw [hl, List.map_append, ← strCells_any]
  exact h2
theorem ob_sl (W : World) (B size : Nat) (xs : List Int) (A : Addr) (m c : Nat) (ys : List Int) (h : Ob W B size xs) (hS : Sl W (some A) m c ys) (hm : 0 < m) (h0 : 0 < size) (hr : xs.length + m ≤ size) (ty : TypeId) :
    ∃ w', (Builtin.append_ #[22, 22] ty #[.slice (some ⟨B, 0, none⟩) xs.length size, .slice (some A) m c]).run Tryz.prog W = .ok (.slice (some ⟨B, 0, none⟩) (xs.length + m) size) w' ∧ Ob w' B size (xs ++ ys) ∧ W.grownBy w' (some B) := by
  obtain ⟨i, hi, hz, hsz, hby⟩ := info_parts info8
  have hml := hS.len
  obtain ⟨w', h1, h2, h3⟩ := run_append_fits (P := Tryz.prog) (w := W) B 22 ty 5 i 1 Tryz.underlying22 hi hsz B xs.length size _ h A m c (ys.map (Value.int .u8)) (by rw [List.length_map]; omega) hS.cells (by intro u hu; obtain ⟨x, _, rfl⟩ := List.mem_map.1 hu; rfl) hr
  refine ⟨w', h1, ?_, h3⟩
  have hl : (xs ++ ys).length = xs.length + m := by rw [List.length_append, hml]
  unfold Ob
  rw [hl, List.map_append]
  exact h2
theorem Sl.apart {W W' : World} {b o m c B : Nat} {ys : List Int} (h : Sl W (some ⟨b, o, none⟩) m c ys) (hg : W.grownBy W' (some B)) (hne : b ≠ B) : Sl W' (some ⟨b, o, none⟩) m c ys :=
  ⟨h.len, h.cap, h.big, fun hn => by
    obtain ⟨b', o', e, hc⟩ := h.bytes hn
    injection e with e
    injection e with e1 e2 e3
    subst e1 e2
    refine ⟨b, o, rfl, fun i hi => ?_⟩
    have hb : b < W.heap.size := cell_lt (hc i hi)
    rw [World.cell?_of_block (a := ⟨b, o + i, none⟩) (hg.block b hb (fun e => hne (by cases e; rfl)))]
    exact hc i hi, h.rng, h.nil0⟩
/-- What a round is handed: the digits of a line. -/
def encD (b o m q : Nat) (x : Fin q) : Array Value := #[.slice (some ⟨b, o + 64 * x.1, none⟩) (min 64 (m - 64 * x.1)) (min 64 (m - 64 * x.1))]
structure KR (a b : Nat) (W W' : World) : Prop where
  ha : W'.heap[a]? = W.heap[a]?
  hb : W'.heap[b]? = W.heap[b]?
theorem KR.refl (a b : Nat) (W : World) : KR a b W W := ⟨rfl, rfl⟩
theorem KR.trans {a b : Nat} {A B C : World} (h : KR a b A B) (k : KR a b B C) : KR a b A C := ⟨k.ha.trans h.ha, k.hb.trans h.hb⟩
theorem KR_b {a b : Nat} {w : World} (ha : a < w.heap.size) (hb : b < w.heap.size) (W : World) (l : Nat) (o o' : Obj) (hl : w.heap.size ≤ l) (h : W.heap[l]? = some o) (_ : o.isCells = false) (_ : o.isWalk = false) : KR a b W (W.putObj l o') :=
  ⟨World.putObj_heap_other (by omega), World.putObj_heap_other (by omega)⟩

set_option maxRecDepth 100000 in
theorem slice3_12 (b o m d i : Nat) (e : Nat) (hi : i < m) (he : i + e ≤ m) (h1 : 1 ≤ e) (hm : m ≤ d) (w : World) : (Instr.slice 22 (.slice (some ⟨b, o, none⟩) m d) (some (.int .i64 (i : Int))) (some (.int .i64 ((i : Int) + (e : Int)))) (some (.int .i64 ((i : Int) + (e : Int))))).run Tryz.prog w = .ok (.slice (some ⟨b, o + i, none⟩) e e) w := by
  rw [run_slice_lhm w 22 (some ⟨b, o, none⟩) m d Tryz.underlying22 .i64 .i64 .i64 (i : Int) ((i : Int) + (e : Int)) ((i : Int) + (e : Int)) (by omega) (by omega) (by omega) (by omega)]
  have hs : (sizeOf (Tryz.prog.elem 22)).run Tryz.prog w = .ok 1 w := by kernel_rfl
  rw [hs]
  simp only [Result.andThen, sliced, Int.toNat_natCast, show ((i : Int) + (e : Int)).toNat = i + e by omega]
  rw [if_neg (by omega), Option.map_some, add_none, Nat.add_sub_cancel_left, Nat.mul_one]
set_option maxRecDepth 100000 in
theorem slice1_12 (b o m d i : Nat) (hi : i ≤ m) (hm : m ≤ d) : ∃ X c, ∀ w, (Instr.slice 22 (.slice (some ⟨b, o, none⟩) m d) (some (.int .i64 (i : Int))) none none).run Tryz.prog w = .ok (.slice X (m - i) c) w := by
  refine ⟨(if d = i then some (⟨b, o, none⟩ : Addr) else (some (⟨b, o, none⟩ : Addr)).map (·.add (i * 1))), d - i, fun w => ?_⟩
  rw [run_slice_l w 22 (some ⟨b, o, none⟩) m d Tryz.underlying22 .i64 (i : Int) (by omega) (by omega)]
  have hs : (sizeOf (Tryz.prog.elem 22)).run Tryz.prog w = .ok 1 w := by kernel_rfl
  rw [hs]
  simp only [Result.andThen, sliced, Int.toNat_natCast]

theorem chunk_any (K : Option Addr) (m d : Nat) (w : World) : Calls Tryz.prog 29 #[.slice K m d, .int .i64 64] w fun e w' =>
    e = .returned (.func (.func 53) #[] #[.pointer (some ⟨w.heap.size, 0, none⟩), .pointer (some ⟨w.heap.size + 1, 0, none⟩)]) ∧ w' = (w.alloc (.cells #[.slice K m d] 22)).alloc (.cells #[.int .i64 64] 3) := by
  go_enter Tryz.func29, Tryz.ntmps29
  go_wp2_with fail
  go_ret
  exact ⟨rfl, rfl⟩
end Go.Proofs.YtnnonidiogoffaaGreatDoor
