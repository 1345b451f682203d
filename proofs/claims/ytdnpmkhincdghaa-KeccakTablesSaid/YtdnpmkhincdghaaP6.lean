/- What the program's package keccak hands back, in the words of the reference: lanes by x + 5 * y. -/
import Derived.Test.YtdnpmkhincdghaaFrame
import Derived.Test.YtdnpmkhincdghaaEq
import Derived.Test.YtdnpmkhincdghaaT6
namespace Go.Proofs.Ytdnpmkhincdghaa
open Go.RowKit

structure Prog6 : Prop where
  consts : ∀ w, Calls Try.prog 18 #[] w fun e w' => e = .returned (.agg (arr .u64 24 rcF)) ∧ Past w w'
  offs : ∀ w, Calls Try.prog 19 #[] w fun e w' => e = .returned (.agg (arr .i64 25 poff)) ∧ Past w w'
  round : ∀ (S : Nat → Lane) (i : Int) w, Calls Try.prog 14 #[fl S, .int .i64 i] w fun e w' => e = .returned (fl (prdI S i)) ∧ Past w w'
  perm : ∀ (S : Nat → Lane) w, Calls Try.prog 10 #[fl S] w fun e w' => e = .returned (fl (ppm S)) ∧ Past w w'
  bytes : ∀ (S : Nat → Lane) w, Calls Try.prog 20 #[fl S] w fun e w' => e = .returned (.agg (arr .u8 200 (kbyte S))) ∧ Past w w'
  from' : ∀ (S : Nat → Lane) w, Calls Try.prog 22 #[.agg (arr .u8 200 (kbyte S))] w fun e w' => e = .returned (fl S) ∧ Past w w'

end Go.Proofs.Ytdnpmkhincdghaa
