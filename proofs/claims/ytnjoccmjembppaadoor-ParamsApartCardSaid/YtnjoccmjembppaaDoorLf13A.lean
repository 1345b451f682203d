/- The law ParamsFinds: the last row that fits is the first one; what its loop keeps. -/
import Derived.Test.YtnjoccmjembppaaDoorRf13C
import Derived.Test.YtnjoccmjembppaaDoorFrame13
namespace Go.Proofs.YtnjoccmjembppaaDoor.paramsFinds
open Go.RowKit
set_option linter.unusedVariables false

/-- The last of the first k algorithms that a predicate fits, 0 if there is none. -/
def lastA (p : Int → Bool) : Nat → Int
  | 0 => 0
  | k + 1 => if p ((k : Int) + 1) = true then (k : Int) + 1 else lastA p k
theorem last_first {p : Int → Bool} (h : ∀ a b : Int, 1 ≤ a → a ≤ 25 → 1 ≤ b → b ≤ 25 → p a = true → p b = true → a = b) (k : Nat) (hk : k ≤ 25) : lastA p k = (algs p k).headD 0 := by
  induction k with
  | zero => rfl
  | succ k ih =>
    rw [algs_succ, lastA]
    by_cases hp : p ((k : Int) + 1) = true
    · rw [if_pos hp, if_pos hp]
      cases hl : algs p k with
      | nil => rfl
      | cons a l =>
        have := algs_mem (p := p) (k := k) (a := a) (by rw [hl]; simp)
        have := h a ((k : Int) + 1) (by omega) (by omega) (by omega) (by omega) this.2.2 hp
        omega
    · rw [if_neg hp, if_neg hp, List.append_nil]
      exact ih (by omega)
theorem last_firstA {p : Int → Bool} (h : ∀ a b : Int, 1 ≤ a → a ≤ 25 → 1 ≤ b → b ≤ 25 → p a = true → p b = true → a = b) : lastA p 25 = firstA p := last_first h 25 (Nat.le_refl _)
theorem fin13 {P : Int → Int → Prop} (h : ∀ i j : Fin 25, P ((i.val : Int) + 1) ((j.val : Int) + 1)) (a b : Int) (a1 : 1 ≤ a) (a2 : a ≤ 25) (b1 : 1 ≤ b) (b2 : b ≤ 25) : P a b := by
  have := h ⟨(a - 1).toNat, by omega⟩ ⟨(b - 1).toNat, by omega⟩
  simp only at this
  rwa [show (((a - 1).toNat : Nat) : Int) + 1 = a by omega, show (((b - 1).toNat : Nat) : Int) + 1 = b by omega] at this
theorem name_all : ∀ i j : Fin 25, ((row13 ((i.val : Int) + 1)).name.data.toList == (row13 ((j.val : Int) + 1)).name.data.toList) = decide (i = j) := by decide +kernel
theorem name_one (nm : ByteArray) (a b : Int) (a1 : 1 ≤ a) (a2 : a ≤ 25) (b1 : 1 ≤ b) (b2 : b ≤ 25) (ha : pName nm a = true) (hb : pName nm b = true) : a = b := by
  have := name_all ⟨(a - 1).toNat, by omega⟩ ⟨(b - 1).toNat, by omega⟩
  simp only at this
  rw [show (((a - 1).toNat : Nat) : Int) + 1 = a by omega, show (((b - 1).toNat : Nat) : Int) + 1 = b by omega] at this
  unfold pName at ha hb
  have e1 : (row13 a).name.toList = nm.toList := by simpa using ha
  have e2 : (row13 b).name.toList = nm.toList := by simpa using hb
  rw [Lib.toList_data] at e1 e2
  rw [e1, e2] at this
  simp at this
  omega
theorem cose_all : ∀ i j : Fin 25, ((row13 ((i.val : Int) + 1)).cose == (row13 ((j.val : Int) + 1)).cose && (row13 ((i.val : Int) + 1)).cose != 0) = true → i = j := by decide +kernel
theorem cose_one (n : Int) (a b : Int) (a1 : 1 ≤ a) (a2 : a ≤ 25) (b1 : 1 ≤ b) (b2 : b ≤ 25) (ha : pCose n a = true) (hb : pCose n b = true) : a = b := by
  have := cose_all ⟨(a - 1).toNat, by omega⟩ ⟨(b - 1).toNat, by omega⟩
  simp only at this
  rw [show (((a - 1).toNat : Nat) : Int) + 1 = a by omega, show (((b - 1).toNat : Nat) : Int) + 1 = b by omega] at this
  unfold pCose at ha hb
  simp at ha hb
  rw [ha.1, hb.1] at this
  have := this (by simp [ha.2])
  simp at this
  omega
theorem type_all : ∀ i j : Fin 25, ((row13 ((i.val : Int) + 1)).typ == (row13 ((j.val : Int) + 1)).typ && (row13 ((i.val : Int) + 1)).typ != 0) = true → i = j := by decide +kernel
theorem type_one (n : Int) (a b : Int) (a1 : 1 ≤ a) (a2 : a ≤ 25) (b1 : 1 ≤ b) (b2 : b ≤ 25) (ha : pType n a = true) (hb : pType n b = true) : a = b := by
  have := type_all ⟨(a - 1).toNat, by omega⟩ ⟨(b - 1).toNat, by omega⟩
  simp only at this
  rw [show (((a - 1).toNat : Nat) : Int) + 1 = a by omega, show (((b - 1).toNat : Nat) : Int) + 1 = b by omega] at this
  unfold pType at ha hb
  simp at ha hb
  rw [ha.1, hb.1] at this
  have := this (by simp [ha.2])
  simp at this
  omega
/-- What the loop keeps: the world ahead of it, three rows, the table. -/
structure St (wb wx : World) (gx gy gz u : Nat) (x y z : R13) : Prop where
  past : Past wb wx
  ord : wb.heap.size ≤ gx ∧ gx < gy ∧ gy < gz ∧ gz < u
  rx : Row wx gx 31 (refA x)
  ry : Row wx gy 31 (refA y)
  rz : Row wx gz 31 (refA z)
  tab : ∀ i, i < 250 → wx.cell? ⟨u, i, none⟩ = refT[i]?
theorem row_apart {w : World} {g h : Nat} {cs ds : Array Value} {t : TypeId} (r : Row w g t cs) (hn : g ≠ h) : Row (w.setRow h ds) g t cs :=
  (setRow_other w h g ds hn).trans r
theorem row_same {w : World} {g : Nat} {cs ds : Array Value} {t : TypeId} (r : Row w g t cs) : Row (w.setRow g ds) g t ds := setRow_heap w g _ _ _ _ r
theorem tab_apart {w : World} {u h : Nat} {ds : Array Value} (hn : u ≠ h) (r : ∀ i, i < 250 → w.cell? ⟨u, i, none⟩ = refT[i]?) : ∀ i, i < 250 → (w.setRow h ds).cell? ⟨u, i, none⟩ = refT[i]? := fun i hi => by
  rw [← r i hi]
  unfold World.cell?
  rw [setRow_other w h u ds hn]
section
variable {wb wx : World} {gx gy gz u : Nat} {x y z : R13}
theorem St.setx (h : St wb wx gx gy gz u x y z) (r : R13) : St wb (wx.setRow gx (refA r)) gx gy gz u r y z :=
  ⟨past_row13 h.past h.ord.1 _, h.ord, row_same h.rx, row_apart h.ry (by have := h.ord; omega), row_apart h.rz (by have := h.ord; omega), tab_apart (by have := h.ord; omega) h.tab⟩
theorem St.sety (h : St wb wx gx gy gz u x y z) (r : R13) : St wb (wx.setRow gy (refA r)) gx gy gz u x r z :=
  ⟨past_row13 h.past (by have := h.ord; omega) _, h.ord, row_apart h.rx (by have := h.ord; omega), row_same h.ry, row_apart h.rz (by have := h.ord; omega), tab_apart (by have := h.ord; omega) h.tab⟩
theorem St.setz (h : St wb wx gx gy gz u x y z) (r : R13) : St wb (wx.setRow gz (refA r)) gx gy gz u x y r :=
  ⟨past_row13 h.past (by have := h.ord; omega) _, h.ord, row_apart h.rx (by have := h.ord; omega), row_apart h.ry (by have := h.ord; omega), row_same h.rz, tab_apart (by have := h.ord; omega) h.tab⟩
/-- A cell of the table. -/
theorem St.at (h : St wb wx gx gy gz u x y z) (k j : Nat) (hk : k < 25) (v : Value) (hj : (refC (row13 ((k : Int) + 1)))[j]? = some v) : wx.cell? ⟨u, k * 10 + j, none⟩ = some v := by
  have hj10 : j < 10 := by
    rcases Nat.lt_or_ge j 10 with h | h2
    · exact h
    · rw [List.getElem?_eq_none (show (refC (row13 ((k : Int) + 1))).length ≤ j from h2)] at hj
      cases hj
  rw [h.tab _ (by omega)]
  exact refT_cell k j hk v hj
theorem St.range (h : St wb wx gx gy gz u x y z) (k : Nat) (hk : k < 25) : wx.rangeAt u (k * 10) (refC (row13 ((k : Int) + 1))) := fun j v hj => h.at k j hk v hj
theorem St.load (h : St wb wx gx gy gz u x y z) (k : Nat) (hk : k < 25) : wx.cell? ⟨u, k * 10 + 2, none⟩ = some (.string (row13 ((k : Int) + 1)).name) ∧ wx.cell? ⟨u, k * 10 + 8, none⟩ = some (.int .i64 (row13 ((k : Int) + 1)).cose) ∧ wx.cell? ⟨u, k * 10 + 9, none⟩ = some (.int .u32 (row13 ((k : Int) + 1)).typ) :=
  ⟨h.at k 2 hk _ rfl, h.at k 8 hk _ rfl, h.at k 9 hk _ rfl⟩
end
end Go.Proofs.YtnjoccmjembppaaDoor.paramsFinds
