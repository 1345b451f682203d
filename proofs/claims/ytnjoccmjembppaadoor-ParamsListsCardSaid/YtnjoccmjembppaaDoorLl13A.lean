/- The law ParamsLists: what its loop keeps; equal lists are equal; the lists of the predicates. -/
import Derived.Test.YtnjoccmjembppaaDoorRf13C
import Derived.Test.YtnjoccmjembppaaDoorFrame13
import Derived.Test.YtnjoccmjembppaaDoorSkip10
import Derived.Maps.AppendAt
namespace Go.Proofs.YtnjoccmjembppaaDoor.paramsLists
open Go.RowKit
set_option linter.unusedVariables false

/-- The algorithms with this list as their identifier. -/
def pO (v : Bool) (T : ByteArray) (a : Int) : Bool := v && ((row13 a).text.toList == T.toList)
theorem algs_congr {p q : Int → Bool} (h : ∀ a, 1 ≤ a → a ≤ 25 → p a = q a) : algs p 25 = algs q 25 := by
  unfold algs
  refine List.filter_congr fun a ha => ?_
  obtain ⟨j, hj, rfl⟩ := List.mem_map.1 ha
  have := List.mem_range.1 hj
  exact h _ (by omega) (by omega)
theorem text_size (a : Int) (h1 : 1 ≤ a) (h2 : a ≤ 25) : 1 ≤ (row13 a).text.size := (oid_some ⟨h1, h2⟩).2.2.1
theorem lists_oid (l : List Int) : algs (pO (okL l) (textS l)) 25 = algs (pText (textS l)) 25 := by
  refine algs_congr fun a h1 h2 => ?_
  unfold pO pText
  cases hok : okL l with
  | true => rfl
  | false =>
    have ht : textS l = ⟨#[]⟩ := by unfold textS; rw [hok]; rfl
    rw [ht]
    have hs := text_size a h1 h2
    cases he : (row13 a).text.toList == (ByteArray.mk #[]).toList with
    | false => rfl
    | true =>
      have e := eq_of_beq he
      rw [Lib.toList_data, Lib.toList_data] at e
      have : (row13 a).text.size = 0 := by
        rw [Lib.size_eq, e]
        rfl
      omega
/-- Two slices of the call's own, behind the table. -/
structure Two (wb wx : World) (vx : Value) (xs : List Int) (vy : Value) (ys : List Int) : Prop where
  past : Past wb wx
  x : wx.ownsRow wb.heap.size 3 1 vx xs.length (xs.map (Value.int .i64))
  y : wx.ownsRow wb.heap.size 3 1 vy ys.length (ys.map (Value.int .i64))
  ap : ∀ k, vx.ownBlock = some k → vy.ownBlock = some k → False
theorem Two.nil (w : World) : Two w w (.slice none 0 0) [] (.slice none 0 0) [] :=
  ⟨Below.refl _ _, World.ownsRow_nil _ _ _ _, World.ownsRow_nil _ _ _ _, fun k h => by cases h⟩
section
variable {wb wx w' : World} {vx vy v' : Value} {xs ys : List Int}
theorem Two.next (h : Two wb wx vx xs vy ys) (hp : Past wx w') : Two wb w' vx xs vy ys :=
  ⟨h.past.trans' hp, own_keep13 h.x hp, own_keep13 h.y hp, h.ap⟩
theorem Two.swap (h : Two wb wx vx xs vy ys) : Two wb wx vy ys vx xs := ⟨h.past, h.y, h.x, fun k h1 h2 => h.ap k h2 h1⟩
/-- The first one has grown. -/
theorem Two.grow (h : Two wb wx vx xs vy ys) (a : Int) (ho : w'.ownsRow wb.heap.size 3 1 v' (xs.length + 1) (xs.map (Value.int .i64) ++ [.int .i64 a])) (hg : wx.grownBy w' vx.ownBlock) (hat : v'.ownBlock = vx.ownBlock ∨ v'.ownBlock = some wx.heap.size) : Two wb w' v' (xs ++ [a]) vy ys := by
  refine ⟨h.past.grown hg h.past.size (own_block_ge h.x), ?_, ?_, ?_⟩
  · rw [List.length_append, List.map_append]
    exact ho
  · refine h.y.kept hg ?_
    cases hy : vy.ownBlock with
    | none => exact .inl rfl
    | some b =>
      refine .inr fun e => ?_
      exact h.ap b e.symm hy
  · intro k h1 h2
    rcases hat with e | e
    · exact h.ap k (e ▸ h1) h2
    · rw [e] at h1
      injection h1 with h1
      have := (h.y.lt k h2).2
      omega
end
/-- Equal lists are equal. -/
theorem eq_any (A B : Option Addr) (c d : Nat) (L : List Int) (w : World) (hL : L.length ≤ 1000) (h1 : SlK .i64 w A L.length c L) (h2 : SlK .i64 w B L.length d L) : Calls Tryd.prog 18 #[.slice A L.length c, .slice B L.length d] w fun e w' => e = .returned (.bool true) ∧ Past w w' := by
  by_cases hz : L.length = 0
  · rw [hz]
    refine (Tryd.slices_Equal_int_empty A B c 0 d w (by omega)).mono ?_
    rintro e w' ⟨rfl, rfl⟩
    exact ⟨rfl, Below.refl _ _⟩
  · obtain ⟨b1, o1, rfl, c1⟩ := h1.cells (by omega)
    obtain ⟨b2, o2, rfl, c2⟩ := h2.cells (by omega)
    refine (Tryd.slices_Equal_int b1 o1 L.length c b2 o2 L.length d L L w (Nat.le_refl _) (Nat.le_refl _) (by omega) (by omega) c1 c2).mono ?_
    rintro e w' ⟨rfl, q, rfl⟩
    exact ⟨by simp, Past.drewN (Below.refl _ w) q⟩
end Go.Proofs.YtnjoccmjembppaaDoor.paramsLists
