/- The reference's reader, whole; its Parse where the reader has met an error. -/
import Derived.Test.YtoinjjnlgjakkaaDoorRef11G
namespace Go.Proofs.YtoinjjnlgjakkaaDoor
open Go.RowKit
set_option linter.unusedVariables false

theorem rread_any (A : Option Addr) (n c : Nat) (xs : List Int) (w : World) (hS : Sl w A n c xs) (hn : n ≤ 1000000) : Calls Tryd.prog 22 #[.slice A n c] w fun e w' => RdBad w n xs e w' ∨ RdOk w xs e w' := by
  cases h0 : isB xs 0 123 with
  | false => exact (rread_none A n c xs w hS hn h0).mono fun e w' h => .inl h
  | true =>
    cases h1 : isB xs 1 125 with
    | true => exact (rread_empty A n c xs w hS hn h0 h1).mono fun e w' h => .inr h
    | false => exact rread_loop A n c xs w hS hn h0 h1

/-- The reader's answer beside the result's cell. -/
def RdC (w : World) (n : Nat) (xs : List Int) (e : Ending) (w' : World) : Prop := RdBad w n xs e w' ∨ RdOk w xs e w'

set_option maxHeartbeats 4000000 in
set_option maxRecDepth 100000 in
theorem rparse_bad (A : Option Addr) (n c : Nat) (xs : List Int) (w : World) (hn : n ≤ 1000000) (k a : Nat) (hk : k ≠ 0)
    (hR : ∀ W, Past w W → Calls Tryd.prog 22 #[.slice A n c] W fun e w' => e = .returned (bad11 k a) ∧ Past W w') :
    Calls Tryd.prog 7 #[.slice A n c] w fun e w' => e = .returned (bad11 k a) ∧ Past w w' := by
  have HR := Lib.hid hR
  have hi : ¬ (1048576 : Int) < (n : Int) := by omega
  have hkb : ((k : Int) != 0) = true := by simp; omega
  have hkc : ((k : Int) == 0) = false := by simp; omega
  clear hR hn hk
  obtain ⟨g, hg⟩ : ∃ g, w.heap.size = g := ⟨_, rfl⟩
  have HG := Lib.hid hg
  go_enter Tryd.func7, Tryd.ntmps7
  go_wp2_with fail
  try rw [hg]
  obtain ⟨w1, hw1⟩ : ∃ w1, w1 = w.alloc (.cells #[.slice none 0 0, .slice none 0 0, .int .i64 0, .int .i64 0] 32) := ⟨_, rfl⟩
  have H1 : Hid (Past w w1 ∧ Row w1 g 32 #[.slice none 0 0, .slice none 0 0, .int .i64 0, .int .i64 0]) := Lib.hid ⟨by rw [hw1]; exact past_alloc8 _ _, by rw [hw1, ← hg]; exact Row.new _ _ _⟩
  rw [← hw1]
  clear hw1 hg
  refine (HR.out w1 H1.out.1).mono ?_
  rintro e w2 ⟨rfl, hp⟩
  have H2 : Hid (Past w w2 ∧ Row w2 g 32 #[.slice none 0 0, .slice none 0 0, .int .i64 0, .int .i64 0]) := Lib.hid ⟨H1.out.1.trans' hp, H1.out.2.past hp⟩
  clear hp H1 HR
  have hrow := H2.out.2.alloc (.cells #[.slice none 0 0, .slice none 0 0, .int .i64 (k : Int), .int .i64 (a : Int)] 32)
  go_wp2_with (refine wpList_store_row rfl 32 _ _ rfl g _ rfl rfl _ _ hrow (res4 _ rfl) rfl (by simp [Value.oneCell']) ?_)
  refine bodyPost_ret (results_cell_row rfl _ _ g _ _ _ _ rfl (setRow_heap _ g _ _ _ _ hrow) Tryd.underlying32 rfl (res4 _ rfl)) rfl ?_
  exact ⟨rfl, past_row (H2.out.1.trans' (past_alloc8 _ _)) (by rw [HG.out]; exact Nat.le_refl _) _⟩

/-- What Parse hands back of pairs with a text. -/
def RokP (w : World) (l : List P2) (e : Ending) (w' : World) : Prop :=
  (∀ c a, chk l = some (c, a) → e = .returned (bad11 c a)) ∧
  (chk l = none → ∃ A1 n1 c1 A2 n2 c2, ∃ p : Nat, e = .returned (.agg #[.slice A1 n1 c1, .slice A2 n2 c2, .int .i64 0, .int .i64 (p : Int)]) ∧ Ps w' A1 n1 c1 l) ∧ Past w w'
/-- The pairs and their offsets, where the reader has laid them. -/
structure Rk (w : World) (g : Nat) (l : List P2) (n p : Nat) (A1 : Option Addr) (c1 : Nat) (A2 : Option Addr) (n2 c2 : Nat) (W : World) : Prop where
  past : Past w W
  res : Row W g 32 #[.slice none 0 0, .slice none 0 0, .int .i64 0, .int .i64 0]
  var : Row W (W.heap.size - 1) 32 #[.slice A1 l.length c1, .slice A2 n2 c2, .int .i64 0, .int .i64 (p : Int)]
  ps : Ps W A1 l.length c1 l
  nm : ∀ (i : Nat), i < l.length → ∃ b, A2 = some ⟨b, 0, none⟩ ∧ n2 = l.length ∧ W.cell? ⟨b, i, none⟩ = some (.int .i64 (nmP l i : Int))

set_option maxHeartbeats 4000000 in
set_option maxRecDepth 100000 in
/-- Something stands behind what was read. -/
theorem rparse_trail (A : Option Addr) (n c : Nat) (xs : List Int) (w : World) (hn : n ≤ 1000000) (p : Nat) (hp : p < n)
    (hR : ∀ W, Past w W → Calls Tryd.prog 22 #[.slice A n c] W fun e w' => (∃ A1 n1 c1 A2 n2 c2, e = .returned (.agg #[.slice A1 n1 c1, .slice A2 n2 c2, .int .i64 0, .int .i64 (p : Int)])) ∧ Past W w') :
    Calls Tryd.prog 7 #[.slice A n c] w fun e w' => e = .returned (bad11 4 p) ∧ Past w w' := by
  have HR := Lib.hid hR
  have hi : ¬ (1048576 : Int) < (n : Int) := by omega
  have hpi : (p : Int) < (n : Int) := by omega
  clear hR hn hp
  obtain ⟨g, hg⟩ : ∃ g, w.heap.size = g := ⟨_, rfl⟩
  have HG := Lib.hid hg
  go_enter Tryd.func7, Tryd.ntmps7
  go_wp2_with fail
  try rw [hg]
  obtain ⟨w1, hw1⟩ : ∃ w1, w1 = w.alloc (.cells #[.slice none 0 0, .slice none 0 0, .int .i64 0, .int .i64 0] 32) := ⟨_, rfl⟩
  have H1 : Hid (Past w w1 ∧ Row w1 g 32 #[.slice none 0 0, .slice none 0 0, .int .i64 0, .int .i64 0]) := Lib.hid ⟨by rw [hw1]; exact past_alloc8 _ _, by rw [hw1, ← hg]; exact Row.new _ _ _⟩
  rw [← hw1]
  clear hw1 hg
  refine (HR.out w1 H1.out.1).mono ?_
  rintro e w2 ⟨⟨A1, n1, c1, A2, n2, c2, rfl⟩, hp⟩
  have H2 : Hid (Past w w2 ∧ Row w2 g 32 #[.slice none 0 0, .slice none 0 0, .int .i64 0, .int .i64 0]) := Lib.hid ⟨H1.out.1.trans' hp, H1.out.2.past hp⟩
  clear hp H1 HR
  have hrow := H2.out.2.alloc (.cells #[.slice A1 n1 c1, .slice A2 n2 c2, .int .i64 0, .int .i64 (p : Int)] 32)
  go_wp2_with (refine wpList_store_row rfl 32 _ _ rfl g _ rfl rfl _ _ hrow (res4 _ rfl) rfl (by simp [Value.oneCell']) ?_)
  refine bodyPost_ret (results_cell_row rfl _ _ g _ _ _ _ rfl (setRow_heap _ g _ _ _ _ hrow) Tryd.underlying32 rfl (res4 _ rfl)) rfl ?_
  exact ⟨rfl, past_row (H2.out.1.trans' (past_alloc8 _ _)) (by rw [HG.out]; exact Nat.le_refl _) _⟩
end Go.Proofs.YtoinjjnlgjakkaaDoor
