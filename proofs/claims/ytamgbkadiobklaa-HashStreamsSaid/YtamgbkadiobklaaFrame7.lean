/- What the rows of this seat share: the knob of the program, its layout, and how slices that came in are read; the second form's bound. -/
import Derived.Test.YtamgbkadiobklaaAwake7
import Derived.ProofKit
import Derived.OpenShut
import Derived.ShutString
import Derived.ChangeOld
import Derived.Below
import Derived.Deep.Matrix
import Derived.JoinedCond
namespace Go.Proofs.Ytamgbkadiobklaa
open Go.RowKit Go.ChangeShapes Go.WideShapes Go.ChangeAt

theorem own : ownKnob Try.prog.godebug = none := by kernel_rfl
theorem laidOut : laidOutB Try.prog = true := by kernel_rfl

/-- A slice of integers that came in: nil, or a row of cap cells with the numbers zs, of which the first len are its elements. -/
def IsRow (k : IntKind) (w : World) (a : Option Addr) (len cap : Nat) (zs : List Int) : Prop :=
  (a = none ∧ len = 0 ∧ cap = 0 ∧ zs = []) ∨
  ∃ x, a = some x ∧ len ≤ cap ∧ cap ≤ maxLen ∧ zs.length = cap ∧ (∀ i, i < zs.length → w.cell? (x.add i) = some (.int k (zs.getD i 0))) ∧ ∀ n ∈ zs, (Lit.int k n).wf = true

theorem Sl.of_row {w : World} {a : Option Addr} {len cap : Nat} {zs : List Int} (h : IsRow .u8 w a len cap zs) : Sl w a len cap (zs.take len) := by
  rcases h with ⟨rfl, rfl, rfl, rfl⟩ | ⟨x, rfl, hl, hm, hz, hc, hw⟩
  · exact Sl.nil w
  · refine ⟨by simp; omega, hl, hm, fun hn => ?_, fun y hy => ?_, fun e => by cases e⟩
    · obtain ⟨b, o, s⟩ := x
      obtain rfl : s = none := by simpa [Addr.add] using World.cell?_spot (hc 0 (by omega))
      refine ⟨b, o, rfl, fun i hi => ?_⟩
      have h := hc i (by omega)
      rw [add_none] at h
      rw [h]
      simp [List.getD, hi]
    · have h := bounds_u8 (hw y (List.mem_of_mem_take hy))
      omega

theorem row_of {H : Type} {enc : TypeId × Value → H} {W : World} {a0 : Option Addr} {len0 cap0 : Nat} {d0 : DataW H} {p0 : List MemPlace}
    (h0 : DataW.Trod enc Try.prog W 0 (fun _ => true) true 23 (.slice a0 len0 cap0) d0 p0) : ∃ zs, IsRow .u8 W a0 len0 cap0 zs := by
  obtain ⟨fuel, hf⟩ := h0
  rcases open_ints Try.underlying23 Try.underlying5 (by kernel_rfl) hf with ⟨hcs, _⟩ | ⟨x, l, c, zs, hcs, _, hl, hm, hz, _, hcell, hwz⟩
  · simp [Value.cells] at hcs
    obtain ⟨rfl, rfl, rfl⟩ := hcs
    exact ⟨[], .inl ⟨rfl, rfl, rfl, rfl⟩⟩
  · simp [Value.cells] at hcs
    obtain ⟨rfl, rfl, rfl⟩ := hcs
    exact ⟨zs, .inr ⟨_, rfl, hl, hm, by simpa using hz, hcell, hwz⟩⟩


theorem bulk_one {H : Type} (d : DataW H) : 1 ≤ Rows.uptoBulk d := by
  cases d with
  | lit l => cases l <;> simp [Rows.uptoBulk]
  | nil => simp [Rows.uptoBulk]
  | ptr d => simp [Rows.uptoBulk]
  | slice elems spare => simp [Rows.uptoBulk]
  | agg parts => simp [Rows.uptoBulk]
  | iface t d => simp [Rows.uptoBulk]
  | map entries => simp [Rows.uptoBulk]
  | held h => simp [Rows.uptoBulk]
theorem bulk_len {H : Type} (l : List (DataW H)) : l.length ≤ Rows.uptoBulkAll l := by
  induction l with
  | nil => simp [Rows.uptoBulkAll]
  | cons x r ih => have := bulk_one x; simp only [Rows.uptoBulkAll, List.length_cons]; omega
theorem bulk_append {H : Type} (l r : List (DataW H)) : Rows.uptoBulkAll (l ++ r) = Rows.uptoBulkAll l + Rows.uptoBulkAll r := by
  induction l with
  | nil => simp [Rows.uptoBulkAll]
  | cons x l ih => simp only [List.cons_append, Rows.uptoBulkAll, ih]; omega
theorem bulk_small {H : Type} {l : List (DataW H)} (hk : Rows.uptoSmall H l = true) : Rows.uptoBulkAll l ≤ 1048576 := of_decide_eq_true hk
/-- The bytes of all parts are no more than the bulk of the readings. -/
theorem bulk_cat {H : Type} (X : Nat → List Int) (D : Nat → DataW H) (n : Nat) (h : ∀ i, i < n → (X i).length ≤ Rows.uptoBulk (D i)) : (cat X n).length ≤ Rows.uptoBulkAll ((List.range n).map D) := by
  induction n with
  | zero => simp [cat_zero]
  | succ n ih =>
    rw [cat_succ, List.length_append, List.range_succ, List.map_append, bulk_append]
    have h1 := ih fun i hi => h i (by omega)
    have h2 := h n (by omega)
    simp only [List.map_cons, List.map_nil, Rows.uptoBulkAll]
    omega

/-- A slice of byte slices that came in. -/
theorem rows_of {H : Type} {enc : TypeId × Value → H} {W : World} {a0 : Option Addr} {len0 cap0 : Nat} {d0 : DataW H} {p0 : List MemPlace}
    (h0 : DataW.Trod enc Try.prog W 0 (fun _ => true) true 22 (.slice a0 len0 cap0) d0 p0) :
    ∃ V C X, Sls W a0 len0 cap0 V C X ∧ (cat X len0).length ≤ Rows.uptoBulk d0 := by
  obtain ⟨fuel, hf⟩ := h0
  rcases Go.Deep.open_int_rows Try.underlying22 Try.underlying23 Try.underlying5 (by kernel_rfl) (by kernel_rfl) hf with ⟨hcs, _⟩ | ⟨a, len, cap, A, L, C, Z, hcs, _, hl, hm, hx, hrow⟩
  · simp [Value.cells] at hcs
    obtain ⟨rfl, rfl, rfl⟩ := hcs
    exact ⟨fun _ => none, fun _ => 0, fun _ => [], ⟨Nat.le_refl _, Nat.zero_le _, fun _ => rfl, fun h => absurd h (Nat.lt_irrefl 0)⟩, by simp [cat_zero]⟩
  · simp [Value.cells] at hcs
    obtain ⟨rfl, rfl, rfl⟩ := hcs
    simp only [Prod.mk.injEq] at hx
    obtain ⟨hd0, _⟩ := hx
    refine ⟨A, C, fun r => (Z r).take (L r), ⟨hl, hm, (fun e => by cases e), fun hn => ?_⟩, ?_⟩
    · obtain ⟨b, o, s⟩ := a
      obtain rfl : s = none := by simpa [Addr.add] using World.cell?_spot (hrow 0 (by omega)).1
      refine ⟨b, o, rfl, fun i hi => ?_⟩
      obtain ⟨h1, h2, h3, h4, h5, h6, h7⟩ := hrow i (by omega)
      have hlen : ((Z i).take (L i)).length = L i := by simp; omega
      rw [add_none] at h1
      refine ⟨by rw [hlen]; exact h1, ?_⟩
      rw [hlen]
      refine Sl.of_row ?_
      cases hA : A i with
      | none =>
        have hc0 := h6 hA
        have hz0 : Z i = [] := List.eq_nil_of_length_eq_zero (by omega)
        exact .inl ⟨rfl, by omega, hc0, hz0⟩
      | some x => exact .inr ⟨x, rfl, h2, h3, h4, fun j hj => (h7 x hA).2 j (by omega), h5⟩
    · rw [hd0]
      have h1 : (cat (fun r => List.take (L r) (Z r)) len0).length ≤ Rows.uptoBulkAll (List.map (fun r => Go.Deep.intRow (H := H) .u8 (A r) (L r) (Z r)) (List.range len0)) := by
        refine bulk_cat _ _ _ fun i hi => ?_
        obtain ⟨_, h2, h3, h4, h5, h6, h7⟩ := hrow i (by omega)
        cases hA : A i with
        | none =>
          have hc0 := h6 hA
          have hz0 : Z i = [] := List.eq_nil_of_length_eq_zero (by omega)
          simp [hz0]
        | some x =>
          have hb := bulk_len (H := H) (lits .u8 ((Z i).take (L i)))
          simp only [Go.Deep.intRow, Rows.uptoBulk]
          simp only [lits, List.length_map] at hb ⊢
          omega
      simp only [Rows.uptoBulk]
      omega

end Go.Proofs.Ytamgbkadiobklaa
