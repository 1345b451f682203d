/- States by x + 5 * y: what a round and the permutation make of them, in the words of the reference. -/
import Derived.Test.YtamgbkadiobklaaRef6G
import Derived.Test.YtamgbkadiobklaaK2
namespace Go.Proofs.Ytamgbkadiobklaa
open Go.RowKit

/-- The lanes by x * 5 + y of lanes by x + 5 * y, and the other way round. -/
def tr (S : Nat → Lane) (j : Nat) : Lane := S (j / 5 + 5 * (j % 5))
theorem tr_tr (S : Nat → Lane) (i : Nat) (h : i < 25) : tr (tr S) i = S i := by
  have e : (i / 5 + 5 * (i % 5)) / 5 + 5 * ((i / 5 + 5 * (i % 5)) % 5) = i := by omega
  unfold tr
  rw [e]
theorem tr_same {A B : Nat → Lane} (h : ∀ i, i < 25 → A i = B i) (j : Nat) (hj : j < 25) : tr A j = tr B j := by
  unfold tr
  exact h _ (by omega)
theorem tr_inj {A B : Nat → Lane} (h : ∀ i, i < 25 → tr A i = tr B i) (i : Nat) (hi : i < 25) : A i = B i := by
  rw [← tr_tr A i hi, ← tr_tr B i hi]
  exact tr_same h i hi
/-- A state as a value. -/
abbrev fl (S : Nat → Lane) : Value := .agg (arr .u64 25 fun i => ln (S i))
/-- The state after a round, and after the permutation. -/
def prd (S : Nat → Lane) (i : Nat) : Nat → Lane := tr (kround (tr S) (rcL i) offN)
def ppm (S : Nat → Lane) : Nat → Lane := tr (kperm (tr S))
def prdI (S : Nat → Lane) (i : Int) : Nat → Lane := if 0 ≤ i ∧ i < 24 then prd S i.toNat else S
/-- The offsets by the index of the lane. -/
def poff (i : Nat) : Int := offF ((i % 5) * 5 + i / 5)

/-- The rounds one after another. -/
def prS (S : Nat → Lane) : Nat → Nat → Lane
  | 0 => S
  | i + 1 => prd (prS S i) i
theorem prS_kS (S : Nat → Lane) : ∀ n i, i < 25 → tr (prS S n) i = kS (tr S) n i
  | 0, _, _ => rfl
  | n + 1, i, hi => by
    show tr (tr (kround (tr (prS S n)) (rcL n) offN)) i = kround (kS (tr S) n) (rcL n) offN i
    rw [tr_tr _ i hi]
    exact kround_same (prS_kS S n) _ _ i hi
theorem prS_ppm (S : Nat → Lane) (i : Nat) (hi : i < 25) : prS S 24 i = ppm S i :=
  tr_inj (fun j hj => by rw [prS_kS S 24 j hj, show ppm S = tr (kperm (tr S)) from rfl, tr_tr _ j hj]; rfl) i hi

end Go.Proofs.Ytamgbkadiobklaa
