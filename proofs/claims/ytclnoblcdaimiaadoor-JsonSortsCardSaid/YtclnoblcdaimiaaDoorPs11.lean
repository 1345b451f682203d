/- A slice of pairs of strings in memory. -/
import Derived.Test.YtclnoblcdaimiaaDoorRows
import Derived.Test.YtclnoblcdaimiaaDoorBase
import Derived.Deep.QuietTactic
import Derived.BigQuiet
import Derived.Deep.LoopGhost
import Derived.Laws.AppendOwn
import Derived.Outline
namespace Go.Proofs.YtclnoblcdaimiaaDoor
open Go.RowKit
set_option linter.unusedVariables false

theorem past_alloc8 (w : World) (o : Obj) : Past w (w.alloc o) := (Below.refl _ _).alloc (Nat.le_refl _) _
abbrev P2 : Type := ByteArray × ByteArray
instance : Inhabited P2 := ⟨(⟨#[]⟩, ⟨#[]⟩)⟩
/-- The slice holds these pairs: two cells each. -/
structure Ps (w : World) (A : Option Addr) (n c : Nat) (l : List P2) : Prop where
  len : l.length = n
  cap : n ≤ c
  big : c ≤ maxLen
  cells : 0 < n → ∃ b o, A = some ⟨b, o, none⟩ ∧ ∀ i, i < n → w.cell? ⟨b, o + i * 2, none⟩ = some (.string (l.getD i default).1) ∧ w.cell? ⟨b, o + i * 2 + 1, none⟩ = some (.string (l.getD i default).2)
  nilz : A = none → c = 0
theorem Ps.nil (w : World) : Ps w none 0 0 [] := ⟨rfl, Nat.le_refl _, Nat.zero_le _, fun h => absurd h (Nat.lt_irrefl 0), fun _ => rfl⟩
theorem Ps.past {w w' : World} {A : Option Addr} {n c : Nat} {l : List P2} (h : Ps w A n c l) (hp : Past w w') : Ps w' A n c l := by
  refine ⟨h.len, h.cap, h.big, fun hn => ?_, h.nilz⟩
  obtain ⟨b, o, e, hc⟩ := h.cells hn
  refine ⟨b, o, e, fun i hi => ?_⟩
  obtain ⟨h1, h2⟩ := hc i hi
  exact ⟨by rw [Below.cell hp (cell_lt h1)]; exact h1, by rw [Below.cell hp (cell_lt h2)]; exact h2⟩

/-- Which bytes may be in a name, and in a value. -/
def letB (c : Int) : Bool := decide (97 ≤ c ∧ c ≤ 122)
def plainB (c : Int) : Bool := decide (32 ≤ c ∧ c ≤ 126 ∧ c ≠ 34 ∧ c ≠ 92)
theorem rletter_any (c : Int) (w : World) : Calls Tryd.prog 33 #[.int .u8 c] w fun e w' => e = .returned (.bool (letB c)) ∧ w' = w := by
  by_cases h1 : 97 ≤ c
  · by_cases h2 : c ≤ 122
    · have hb : letB c = true := decide_eq_true ⟨h1, h2⟩
      rw [hb]
      clear hb
      go_enter Tryd.func33, Tryd.ntmps33
      go_wp2_with fail
      go_ret
      exact ⟨rfl, rfl⟩
    · have hb : letB c = false := decide_eq_false fun h => h2 h.2
      rw [hb]
      clear hb
      go_enter Tryd.func33, Tryd.ntmps33
      go_wp2_with fail
      go_ret
      exact ⟨rfl, rfl⟩
  · have hb : letB c = false := decide_eq_false fun h => h1 h.1
    rw [hb]
    clear hb
    go_enter Tryd.func33, Tryd.ntmps33
    go_wp2_with fail
    go_ret
    exact ⟨rfl, rfl⟩
theorem rplain_any (c : Int) (w : World) : Calls Tryd.prog 34 #[.int .u8 c] w fun e w' => e = .returned (.bool (plainB c)) ∧ w' = w := by
  by_cases h1 : 32 ≤ c
  · by_cases h2 : c ≤ 126
    · by_cases h3 : c = 34
      · subst h3
        have hb : plainB 34 = false := by decide
        rw [hb]
        clear hb
        go_enter Tryd.func34, Tryd.ntmps34
        go_wp2_with fail
        go_ret
        exact ⟨rfl, rfl⟩
      · by_cases h4 : c = 92
        · subst h4
          have hb : plainB 92 = false := by decide
          rw [hb]
          clear hb
          go_enter Tryd.func34, Tryd.ntmps34
          go_wp2_with fail
          go_ret
          exact ⟨rfl, rfl⟩
        · have hb : plainB c = true := decide_eq_true ⟨h1, h2, h3, h4⟩
          have b3 : (c != 34) = true := by simp [h3]
          have b4 : (c != 92) = true := by simp [h4]
          rw [hb]
          clear hb
          go_enter Tryd.func34, Tryd.ntmps34
          go_wp2_with fail
          go_ret
          exact ⟨rfl, rfl⟩
    · have hb : plainB c = false := decide_eq_false fun h => h2 h.2.1
      rw [hb]
      clear hb
      go_enter Tryd.func34, Tryd.ntmps34
      go_wp2_with fail
      go_ret
      exact ⟨rfl, rfl⟩
  · have hb : plainB c = false := decide_eq_false fun h => h1 h.1
    rw [hb]
    clear hb
    go_enter Tryd.func34, Tryd.ntmps34
    go_wp2_with fail
    go_ret
    exact ⟨rfl, rfl⟩

/-- Whether the byte at a place is a certain one. -/
def isB (xs : List Int) (p : Nat) (c : Int) : Bool := decide (p < xs.length ∧ xs.getD p 0 = c)
theorem ris_any (A : Option Addr) (n c : Nat) (xs : List Int) (p : Nat) (x : Int) (w : World) (hS : Sl w A n c xs) (hp : p ≤ 1000000000) : Calls Tryd.prog 47 #[.slice A n c, .int .i64 (p : Int), .int .u8 x] w fun e w' => e = .returned (.bool (isB xs p x)) ∧ w' = w := by
  have hlen := hS.len
  by_cases h1 : p < n
  · have hi : (p : Int) < (n : Int) := by omega
    obtain ⟨b, o, rfl, hc⟩ := hS.bytes (by omega)
    have g0 := hc p h1
    obtain ⟨y, hy⟩ : ∃ y, xs.getD p 0 = y := ⟨_, rfl⟩
    rw [hy] at g0
    by_cases h2 : y = x
    · have hb : isB xs p x = true := decide_eq_true ⟨by omega, by rw [hy, h2]⟩
      subst h2
      rw [hb]
      clear hb hS hc hy hlen
      go_enter Tryd.func47, Tryd.ntmps47
      go_wp2_with fail
      go_ret
      exact ⟨rfl, rfl⟩
    · have hb : isB xs p x = false := decide_eq_false fun h => h2 (by rw [← hy]; exact h.2)
      have hyb : (y == x) = false := by simp [h2]
      rw [hb]
      clear hb hS hc hy hlen
      go_enter Tryd.func47, Tryd.ntmps47
      go_wp2_with fail
      go_ret
      exact ⟨rfl, rfl⟩
  · have hi : ¬ (p : Int) < (n : Int) := by omega
    have hb : isB xs p x = false := decide_eq_false fun h => h1 (by omega)
    rw [hb]
    clear hb hS hlen
    go_enter Tryd.func47, Tryd.ntmps47
    go_wp2_with fail
    go_ret
    exact ⟨rfl, rfl⟩

end Go.Proofs.YtclnoblcdaimiaaDoor
