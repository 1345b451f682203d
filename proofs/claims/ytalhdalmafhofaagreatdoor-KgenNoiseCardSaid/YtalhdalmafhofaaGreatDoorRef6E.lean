/- Contract of the reference of Keccak: a round. -/
import Derived.Test.YtalhdalmafhofaaGreatDoorRef6A
import Derived.StillTailTactics
namespace Go.Proofs.YtalhdalmafhofaaGreatDoor
set_option maxRecDepth 100000
open Go.RowKit

theorem not_ln (x : Lane) : bits .xor .u64 IntKind.u64.max (ln x) = ln (~~~ x) := by
  have h := xor_ln (BitVec.allOnes 64) x
  have e : ln (BitVec.allOnes 64) = IntKind.u64.max := by decide +kernel
  rw [e] at h
  rw [h, BitVec.allOnes_xor]
theorem tm4 : ∀ x : Fin 5, (IntKind.i64.wrap ((x.val : Int) + 4)).tmod 5 = (((x.val + 4) % 5 : Nat) : Int) := by decide +kernel
theorem tm1 : ∀ x : Fin 5, (IntKind.i64.wrap ((x.val : Int) + 1)).tmod 5 = (((x.val + 1) % 5 : Nat) : Int) := by decide +kernel
theorem tm2 : ∀ x : Fin 5, (IntKind.i64.wrap ((x.val : Int) + 2)).tmod 5 = (((x.val + 2) % 5 : Nat) : Int) := by decide +kernel
theorem tm23 : ∀ x y : Fin 5, (IntKind.i64.wrap (IntKind.i64.wrap (2 * (x.val : Int)) + IntKind.i64.wrap (3 * (y.val : Int)))).tmod 5 = (((2 * x.val + 3 * y.val) % 5 : Nat) : Int) := by decide +kernel
section
variable {w wx : World} {g h : Nat} {fa R fc fb : Nat → Int}
end

/-- What the third double loop has made of the lanes. -/
def fxP (B : Nat → Lane) (f : Nat → Int) (k : Nat) (i : Nat) : Int := if i < k then ln (chi B i) else f i
theorem fxP_put (B : Nat → Lane) (f : Nat → Int) (k i : Nat) : upd (fxP B f k) k (ln (chi B k)) i = fxP B f (k + 1) i := by
  by_cases e : i = k
  · subst e
    rw [upd_at]
    unfold fxP
    rw [if_pos (by omega)]
  · rw [upd_ne _ _ e]
    unfold fxP
    by_cases h : i < k
    · rw [if_pos h, if_pos (by omega)]
    · rw [if_neg h, if_neg (by omega)]

end Go.Proofs.YtalhdalmafhofaaGreatDoor
