/- The shape of a tree: kinds, parts, and the order of a map's keys. -/
import Derived.Test.YtmhgpdfllpgjpaaDoorRef10E
namespace Go.Proofs.YtmhgpdfllpgjpaaDoor
open Go.RowKit
set_option linter.unusedVariables false

/-- Whether bytes are those of a text. -/
def asciiB (bs : List Int) : Bool := bs.all fun x => decide (32 ≤ x ∧ x ≤ 126)
/-- Whether an item by itself has the parts of its kind. -/
def okB (kd nm : Int) (n m : Nat) : Bool := decide (0 ≤ kd ∧ kd ≤ 5) && !(decide (2 ≤ kd ∧ 0 < nm)) && !(decide (kd ≠ 2 ∧ kd ≠ 3 ∧ 0 < n)) && !(decide (kd < 4 ∧ 0 < m)) && !(decide (kd = 5 ∧ 0 < m % 2))
/-- Whether place i is in order: a key comes after the key before it. -/
def ordAt (ks : List T) (i : Nat) : Bool := !(decide (i % 2 = 0 ∧ 0 < i)) || befB (txt (ks.getD (i - 2) default)) (txt (ks.getD i default))
def ordN (ks : List T) : Nat → Bool
  | 0 => true
  | i + 1 => ordN ks i && ordAt ks i
mutual
def shp : T → Bool
  | .node kd nm bs ks => okB kd nm bs.length ks.length && (!decide (kd = 3) || asciiB bs) && shpL ks && (!decide (kd = 5) || ordN ks ks.length)
def shpL : List T → Bool
  | [] => true
  | k :: ks => shp k && shpL ks
end
theorem shpL_snoc (t : T) : ∀ ks : List T, shpL (ks ++ [t]) = (shpL ks && shp t)
  | [] => by simp [shpL]
  | k :: ks => by simp only [List.cons_append, shpL, shpL_snoc t ks, Bool.and_assoc]
theorem shpL_app : ∀ ks ls : List T, shpL (ks ++ ls) = (shpL ks && shpL ls)
  | [], ls => by simp [shpL]
  | k :: ks, ls => by simp only [List.cons_append, shpL, shpL_app ks ls, Bool.and_assoc]
theorem shpL_at (ks : List T) (i : Nat) (h : i < ks.length) (hf : shp (ks.getD i default) = false) : shpL ks = false := by
  rw [← List.take_append_drop (i + 1) ks, shpL_app, take_next ks i h, shpL_snoc, hf]
  simp
theorem shpL_in (ks : List T) (i : Nat) (h : i < ks.length) (hs : shpL ks = true) : shp (ks.getD i default) = true := by
  cases hk : shp (ks.getD i default) with
  | true => rfl
  | false => rw [shpL_at ks i h hk] at hs; cases hs
theorem ordN_at (ks : List T) : ∀ n i, i < n → ordAt ks i = false → ordN ks n = false
  | 0, i, h, _ => by omega
  | n + 1, i, h, hf => by
    by_cases hi : i = n
    · subst hi
      show (ordN ks i && ordAt ks i) = false
      rw [hf, Bool.and_false]
    · show (ordN ks n && ordAt ks n) = false
      rw [ordN_at ks n i (by omega) hf, Bool.false_and]
/-- A tree of the right shape has kinds from 0 to 5. -/
theorem shp_kind {kd nm : Int} {bs : List Int} {ks : List T} (h : shp (.node kd nm bs ks) = true) : 0 ≤ kd ∧ kd ≤ 5 := by
  have h1 : (okB kd nm bs.length ks.length && (!decide (kd = 3) || asciiB bs) && shpL ks && (!decide (kd = 5) || ordN ks ks.length)) = true := h
  simp only [Bool.and_eq_true] at h1
  have h2 := h1.1.1.1
  unfold okB at h2
  simp only [Bool.and_eq_true, decide_eq_true_iff] at h2
  exact h2.1.1.1.1
theorem shp_kids {kd nm : Int} {bs : List Int} {ks : List T} (h : shp (.node kd nm bs ks) = true) : shpL ks = true := by
  have h1 : (okB kd nm bs.length ks.length && (!decide (kd = 3) || asciiB bs) && shpL ks && (!decide (kd = 5) || ordN ks ks.length)) = true := h
  simp only [Bool.and_eq_true] at h1
  exact h1.1.2
mutual
theorem shp_kok : ∀ t : T, shp t = true → kok t = true
  | .node kd nm bs ks, h => by
    have h1 := shp_kind h
    have h2 := shpL_kok ks (shp_kids h)
    show (decide (0 ≤ kd ∧ kd ≤ 5) && kokL ks) = true
    rw [h2, decide_eq_true h1]
    rfl
theorem shpL_kok : ∀ ks : List T, shpL ks = true → kokL ks = true
  | [], _ => rfl
  | k :: ks, h => by
    simp only [shpL, Bool.and_eq_true] at h
    simp only [kokL, Bool.and_eq_true]
    exact ⟨shp_kok k h.1, shpL_kok ks h.2⟩
end

end Go.Proofs.YtmhgpdfllpgjpaaDoor
