/- The reference's Parse of the text of an identifier. -/
import Derived.Test.YtnjoccmjembppaaDoorRef9F
namespace Go.Proofs.YtnjoccmjembppaaDoor
open Go.RowKit

theorem info32 : (Tryd.prog.info? 24).map (fun i => (i.zero, i.size, i.bytes)) = some (some (.int .u32 0), 1, 4) := by kernel_rfl
theorem ints_extract (s : ByteArray) (a b : Nat) : ints (s.extract a b) = ((ints s).take b).drop a := by
  unfold ints
  rw [ByteArray.data_extract, Array.toList_extract, List.extract_eq_take_drop, ← List.map_take, ← List.map_drop, ← List.drop_take]
theorem slK_of_own {k : IntKind} {w : World} {B : Nat} {e : TypeId} {A : Option Addr} {n c : Nat} {xs : List Int} (h : w.ownsRow B e 1 (.slice A n c) n (xs.map (Value.int k))) : SlK k w A n c xs := by
  have hl : xs.length = n := by have := h.1; simpa using this
  rcases h.2 with ⟨e1, e2⟩ | ⟨g, cap, cur, e1, e2, e3, e4, e5, e6, e7⟩
  · injection e1 with a1 a2 a3
    subst a1 a2 a3
    exact ⟨hl, Nat.le_refl _, Nat.zero_le _, fun h => absurd h (by omega), fun _ => rfl⟩
  · injection e1 with a1 a2 a3
    subst a1 a3
    refine ⟨hl, e4, e5, fun hn => ⟨g, 0, rfl, fun i hi => ?_⟩, fun e => by cases e⟩
    have h1 := h.cells (g := g) rfl i (.int k (xs.getD i 0)) (by simp [List.getD, show i < xs.length by omega])
    rwa [add_none] at h1

/-- The piece from a to b. -/
def pc (xs : List Int) (a b : Nat) : List Int := (xs.take b).drop a
/-- What stands before place i: where the piece begins, and the numbers so far. -/
def pS (xs : List Int) : Nat → Option (Nat × List Int)
  | 0 => some (0, [])
  | i + 1 => match pS xs i with
    | none => none
    | some (f, l) => if i < xs.length ∧ xs.getD i 0 ≠ 46 then some (f, l) else if numI (pc xs f i) < 0 then none else some (i + 1, l ++ [numI (pc xs f i)])
/-- What Parse finds. -/
def parseL (xs : List Int) : Option (List Int) :=
  match pS xs (xs.length + 1) with
  | none => none
  | some (_, l) => if okL l then some l else none
theorem pS_none (xs : List Int) (i : Nat) (h : pS xs i = none) : ∀ j, pS xs (i + j) = none
  | 0 => h
  | j + 1 => by
    show pS xs (i + j + 1) = none
    unfold pS
    rw [pS_none xs i h j]
theorem pS_in (xs : List Int) (i f : Nat) (l : List Int) (h : pS xs i = some (f, l)) (hc : i < xs.length ∧ xs.getD i 0 ≠ 46) : pS xs (i + 1) = some (f, l) := by
  show (match pS xs i with | none => none | some (f, l) => if i < xs.length ∧ xs.getD i 0 ≠ 46 then some (f, l) else if numI (pc xs f i) < 0 then none else some (i + 1, l ++ [numI (pc xs f i)])) = _
  rw [h]
  exact if_pos hc
theorem pS_end (xs : List Int) (i f : Nat) (l : List Int) (h : pS xs i = some (f, l)) (hc : ¬ (i < xs.length ∧ xs.getD i 0 ≠ 46)) : pS xs (i + 1) = if numI (pc xs f i) < 0 then none else some (i + 1, l ++ [numI (pc xs f i)]) := by
  show (match pS xs i with | none => none | some (f, l) => if i < xs.length ∧ xs.getD i 0 ≠ 46 then some (f, l) else if numI (pc xs f i) < 0 then none else some (i + 1, l ++ [numI (pc xs f i)])) = _
  rw [h]
  exact if_neg hc
theorem pS_from (xs : List Int) : ∀ i f l, pS xs i = some (f, l) → f ≤ i ∧ l.length ≤ i ∧ ∀ x ∈ l, 0 ≤ x ∧ x < 4294967296
  | 0, f, l, h => by
    injection h with h
    injection h with h1 h2
    subst h1 h2
    simp
  | i + 1, f, l, h => by
    cases hq : pS xs i with
    | none =>
      have := pS_none xs i hq 1
      rw [this] at h
      cases h
    | some p =>
      obtain ⟨f0, l0⟩ := p
      obtain ⟨q1, q2, q3⟩ := pS_from xs i f0 l0 hq
      by_cases hc : i < xs.length ∧ xs.getD i 0 ≠ 46
      · rw [pS_in xs i f0 l0 hq hc] at h
        injection h with h
        injection h with h1 h2
        subst h1 h2
        exact ⟨by omega, by omega, q3⟩
      · rw [pS_end xs i f0 l0 hq hc] at h
        split at h
        · cases h
        · rename_i hn
          injection h with h
          injection h with h1 h2
          subst h1 h2
          refine ⟨Nat.le_refl _, by rw [List.length_append, List.length_singleton]; omega, fun x hx => ?_⟩
          rcases List.mem_append.1 hx with hx | hx
          · exact q3 x hx
          · obtain rfl : x = numI (pc xs f0 i) := by simpa using hx
            have : numI (pc xs f0 i) ≤ 4294967295 := by
              unfold numI
              split
              · rename_i h
                exact h.2
              · omega
            omega

/-- What a function returns that finds numbers or none. -/
def ROptK (o : Option (List Int)) (w : World) (e : Ending) (w' : World) : Prop :=
  match o with
  | none => e = .returned (.tuple #[.slice none 0 0, .bool false]) ∧ Past w w'
  | some xs => ∃ A n c, e = .returned (.tuple #[.slice A n c, .bool true]) ∧ SlK .u32 w' A n c xs ∧ (∀ x ∈ xs, 0 ≤ x ∧ x < 4294967296) ∧ Past w w'
theorem ROptK.none' {w w' : World} (h : Past w w') : ROptK none w (.returned (.tuple #[.slice none 0 0, .bool false])) w' := ⟨rfl, h⟩
theorem ROptK.some' {w w' : World} {A : Option Addr} {n c : Nat} {xs : List Int} (h1 : SlK .u32 w' A n c xs) (h2 : ∀ x ∈ xs, 0 ≤ x ∧ x < 4294967296) (h : Past w w') : ROptK (some xs) w (.returned (.tuple #[.slice A n c, .bool true])) w' := ⟨A, n, c, rfl, h1, h2, h⟩
theorem strsl (s : ByteArray) (l b : Nat) (h1 : l ≤ b) (h2 : b ≤ s.size) (w : World) :
    (Instr.slice 9 (.string s) (some (.int .i64 (l : Int))) (some (.int .i64 (b : Int))) none).run Tryd.prog w = .ok (.string (s.extract l b)) w :=
  strslice9 s l b (l : Int) (b : Int) (by omega) (by omega) (by omega) (by omega) (by omega) w

end Go.Proofs.YtnjoccmjembppaaDoor
