/- The law ParamsApart: its cells, and what it asks of the table. -/
import Derived.Test.YtnjoccmjembppaaDoorLf13A
import Derived.Deep.RegionHeld3
namespace Go.Proofs.YtnjoccmjembppaaDoor.paramsApart
open Go.RowKit
set_option linter.unusedVariables false

/-- A step of a region that draws its order, with the slot that it writes told: so that the frame stays written out. -/
theorem held_take {P : Program} {md : Region.Mode} {ops : Array Oper} {Q : Exit → Act → World → Prop} {S : World → Prop} {oi : Oper} {v : Value} {fuel : Nat} {listed : Array Bool} {a : Act} {w : World} (i d : Nat) (hi : ops[i]? = some oi) (hd : oi.dst = some d)
    (hs : Region.noSelect ops = true) (hf : Region.free md ops listed i = true) (hr : (Region.ready md ops listed).contains i = true)
    (hQ : ∀ c a w, Q (.panic c) (a.put oi.dst v) w → Q (.panic c) a w) (hy : YieldsIf P ops S oi v a) (hS : S w)
    (h : wpAnyH P md ops Q S fuel (listed.setIfInBounds i true) { a with tmps := a.tmps.setIfInBounds d v } w) : wpAnyH P md ops Q S (fuel + 1) listed a w :=
  wpAnyH_take hi hs hf hr hQ hy hS (by rw [hd]; exact h)
/-- What the region's loads find. -/
structure Sa (u1 u2 u3 : Nat) (x y : R13) (o : Value) (w : World) : Prop where
  a0 : w.cell? ⟨u1, 0, none⟩ = some (.int .i64 x.alg)
  a2 : w.cell? ⟨u1, 2, none⟩ = some (.string x.name)
  a7 : w.cell? ⟨u1, 7, none⟩ = some o
  a8 : w.cell? ⟨u1, 8, none⟩ = some (.int .i64 x.cose)
  a9 : w.cell? ⟨u1, 9, none⟩ = some (.int .u32 x.typ)
  b2 : w.cell? ⟨u2, 2, none⟩ = some (.string y.name)
  b8 : w.cell? ⟨u2, 8, none⟩ = some (.int .i64 y.cose)
  b9 : w.cell? ⟨u2, 9, none⟩ = some (.int .u32 y.typ)
  c0 : w.cell? ⟨u3, 0, none⟩ = some (.int .i64 x.alg)
theorem Sa.of {u1 u2 u3 : Nat} {x y : R13} {o o2 o3 : Value} {w : World} (h1 : Row w u1 26 (setC x o)) (h2 : Row w u2 26 (setC y o2)) (h3 : Row w u3 26 (setC x o3)) : Sa u1 u2 u3 x y o w :=
  ⟨h1.cell 0, h1.cell 2, h1.cell 7, h1.cell 8, h1.cell 9, h2.cell 2, h2.cell 8, h2.cell 9, h3.cell 0⟩
theorem alg_all : ∀ i : Fin 25, (row13 ((i.val : Int) + 1)).alg = (i.val : Int) + 1 := by decide +kernel
theorem alg_in {a : Int} (h : 1 ≤ a ∧ a ≤ 25) : (row13 a).alg = a := by
  have := alg_all ⟨(a - 1).toNat, by omega⟩
  simp only at this
  rwa [show (((a - 1).toNat : Nat) : Int) + 1 = a by omega] at this
theorem first_one {p : Int → Bool} {a : Int} (h1 : 1 ≤ a) (h2 : a ≤ 25) (hp : p a = true) (h : ∀ a b : Int, 1 ≤ a → a ≤ 25 → 1 ≤ b → b ≤ 25 → p a = true → p b = true → a = b) : firstA p = a := by
  have hm : a ∈ algs p 25 := by
    unfold algs
    refine List.mem_filter.2 ⟨List.mem_map.2 ⟨(a - 1).toNat, List.mem_range.2 (by omega), by omega⟩, hp⟩
  unfold firstA
  cases hl : algs p 25 with
  | nil => rw [hl] at hm; cases hm
  | cons b l =>
    have hb := algs_mem (p := p) (k := 25) (a := b) (by rw [hl]; simp)
    exact h b a hb.1 (by omega) h1 h2 hb.2.2 hp
theorem name_same {a b : Int} (ha : 1 ≤ a ∧ a ≤ 25) (hb : 1 ≤ b ∧ b ≤ 25) : ((row13 a).name.toList == (row13 b).name.toList) = decide (a = b) := by
  have := paramsFinds.name_all ⟨(a - 1).toNat, by omega⟩ ⟨(b - 1).toNat, by omega⟩
  simp only at this
  rw [show (((a - 1).toNat : Nat) : Int) + 1 = a by omega, show (((b - 1).toNat : Nat) : Int) + 1 = b by omega] at this
  rw [Lib.toList_data, Lib.toList_data, this]
  by_cases e : a = b
  · subst e; simp
  · rw [decide_eq_false e]
    simp
    omega
theorem cose_same {a b : Int} (ha : 1 ≤ a ∧ a ≤ 25) (hb : 1 ≤ b ∧ b ≤ 25) (hz : (row13 a).cose ≠ 0) : ((row13 a).cose == (row13 b).cose) = decide (a = b) := by
  by_cases e : a = b
  · subst e; simp
  · rw [decide_eq_false e]
    cases hc : ((row13 a).cose == (row13 b).cose) with
    | false => rfl
    | true =>
      have := paramsFinds.cose_one (row13 a).cose a b ha.1 ha.2 hb.1 hb.2 (by unfold pCose; simp [hz]) (by unfold pCose; have := eq_of_beq hc; simp [← this, hz])
      exact absurd this e
theorem type_same {a b : Int} (ha : 1 ≤ a ∧ a ≤ 25) (hb : 1 ≤ b ∧ b ≤ 25) (hz : (row13 a).typ ≠ 0) : ((row13 a).typ == (row13 b).typ) = decide (a = b) := by
  by_cases e : a = b
  · subst e; simp
  · rw [decide_eq_false e]
    cases hc : ((row13 a).typ == (row13 b).typ) with
    | false => rfl
    | true =>
      have := paramsFinds.type_one (row13 a).typ a b ha.1 ha.2 hb.1 hb.2 (by unfold pType; simp [hz]) (by unfold pType; have := eq_of_beq hc; simp [← this, hz])
      exact absurd this e
theorem contains_any (A : Option Addr) (c : Nat) (L : List Int) (x : Int) (w : World) (hL : L.length ≤ 1000) (h : SlK .i64 w A L.length c L) (hx : x ∈ L) : Calls Tryd.prog 21 #[.slice A L.length c, .int .i64 x] w fun e w' => e = .returned (.bool true) ∧ w' = w := by
  have hp : 0 < L.length := List.length_pos_of_mem hx
  obtain ⟨b, o, rfl, hc⟩ := h.cells hp
  refine (Tryd.slices_Contains_int b o L.length c L x w (Nat.le_refl _) (by omega) hc).mono ?_
  rintro e w' ⟨rfl, rfl⟩
  exact ⟨by simp [hx], rfl⟩
end Go.Proofs.YtnjoccmjembppaaDoor.paramsApart

