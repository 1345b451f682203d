/- Parse of package pyxref12, whole. -/
import Derived.Test.YtnnonidiogoffaaGreatDoorRf12G
namespace Go.Proofs.YtnnonidiogoffaaGreatDoor
open Go.RowKit
theorem rparse_any (A : Option Addr) (n c : Nat) (xs : List Int) (w : World) (hS : Sl w A n c xs) (hn : n ≤ 100000) : Calls Tryz.prog 10 #[.slice A n c] w (RParP (parP xs) w) := by
  by_cases h0 : n = 0
  · subst h0
    obtain rfl : xs = [] := List.length_eq_zero_iff.1 hS.len
    exact rparse_none A c w hS
  by_cases h10 : xs.getLast? = some 10
  case neg => exact rparse_noend A n c xs w hS hn h0 h10
  by_cases h2 : (lnsL xs).length < 2
  · exact rparse_few A n c xs w hS hn h10 h2
  by_cases h17 : ((lnsL xs).getD 0 []).length < 17
  · exact rparse_short A n c xs w hS hn h10 h2 h17
  by_cases hb : ((lnsL xs).getD 0 []).take 11 = [45, 45, 45, 45, 45, 66, 69, 71, 73, 78, 32]
  case neg => exact rparse_pre A n c xs w hS hn h10 h2 h17 hb
  by_cases hs : ((lnsL xs).getD 0 []).drop (((lnsL xs).getD 0 []).length - 5) = [45, 45, 45, 45, 45]
  case neg => exact rparse_suf A n c xs w hS hn h10 h2 h17 hb hs
  cases hlb : labB (labOf ((lnsL xs).getD 0 [])) with
  | false => exact rparse_lab A n c xs w hS hn h10 h2 h17 hb hs hlb
  | true =>
    by_cases hle : (lnsL xs).getLastD [] = endL (labOf ((lnsL xs).getD 0 []))
    · exact rparse_in A n c xs w hS hn h10 h2 h17 hb hs hlb hle
    · exact rparse_last A n c xs w hS hn h10 h2 h17 hb hs hlb hle
end Go.Proofs.YtnnonidiogoffaaGreatDoor
