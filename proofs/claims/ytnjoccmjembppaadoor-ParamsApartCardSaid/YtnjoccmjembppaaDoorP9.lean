/- What the program's package oid hands back, in the words of the reference; the library's comparison of two lists. -/
import Derived.Test.YtnjoccmjembppaaDoorSame9
import Derived.Lib.LaidTab
import Derived.Lib.Itoa
import Derived.Lib.ItoaMem
import Derived.WalkSmall
namespace Go.Proofs.YtnjoccmjembppaaDoor
open Go.RowKit
set_option linter.unusedVariables false

def Rng (l : List Int) : Prop := ∀ x ∈ l, 0 ≤ x ∧ x < 4294967296
/-- What a function of the program returns that finds numbers or none. -/
def POptK (o : Option (List Int)) (w : World) (e : Ending) (w' : World) : Prop :=
  match o with
  | none => ∃ A c, e = .returned (.tuple #[.slice A 0 c, .bool false]) ∧ SlK .u32 w' A 0 c [] ∧ Past w w'
  | some xs => ∃ A c, e = .returned (.tuple #[.slice A xs.length c, .bool true]) ∧ SlK .u32 w' A xs.length c xs ∧ Past w w'
def ContP (xs : List Int) (w : World) (e : Ending) (w' : World) : Prop := ∃ A c, e = .returned (.slice A xs.length c) ∧ Sl w' A xs.length c xs ∧ Past w w'

/-- What the library's variables hold that a run reads: the powers of ten, the two errors of strconv, the number internal/bytealg.MaxLen. -/
structure Glob (w : World) : Prop where
  tab : Lib.TabIs Tryd.prog w "internal/strconv.uint64pow10" .u64 Lib.pow10Tab
  syn : ∃ tp p, w.var? Tryd.prog "strconv.ErrSyntax" = some #[.iface tp p]
  ran : ∃ tp p, w.var? Tryd.prog "strconv.ErrRange" = some #[.iface tp p]
  mx : ∃ m, w.cell? ⟨7, 0, none⟩ = some (.int .i64 m)
theorem var_lt {w : World} {n : String} {g : Nat} {cs : Array Value} (hg : Tryd.prog.globalNamed n = some g) (h : w.var? Tryd.prog n = some cs) : g < w.heap.size := by
  unfold World.var? at h
  simp only [hg, Option.bind_some] at h
  rcases Nat.lt_or_ge g w.heap.size with h' | h'
  · exact h'
  · rw [Array.getElem?_eq_none h'] at h
    simp at h
theorem var_past {w w' : World} {n : String} {g : Nat} {cs : Array Value} (hg : Tryd.prog.globalNamed n = some g) (h : w.var? Tryd.prog n = some cs) (hp : Past w w') : w'.var? Tryd.prog n = some cs := var?_below hp hg (var_lt hg h) h
theorem Glob.past {w w' : World} (h : Glob w) (hp : Past w w') : Glob w' := by
  refine ⟨var_past (g := 6) (by kernel_rfl) h.tab hp, ?_, ?_, ?_⟩
  · obtain ⟨tp, p, h1⟩ := h.syn
    exact ⟨tp, p, var_past (g := 4) (by kernel_rfl) h1 hp⟩
  · obtain ⟨tp, p, h1⟩ := h.ran
    exact ⟨tp, p, var_past (g := 5) (by kernel_rfl) h1 hp⟩
  · obtain ⟨m, h1⟩ := h.mx
    exact ⟨m, (hp.cell (cell_lt h1)).trans h1⟩

theorem SlK.nil (k : IntKind) (w : World) : SlK k w none 0 0 [] := ⟨rfl, Nat.le_refl _, Nat.zero_le _, fun h => absurd h (Nat.lt_irrefl 0), fun _ => rfl⟩

def exS : ByteArray := ⟨#[50, 46, 49, 54, 46, 56, 52, 48, 46, 49, 46, 49, 48, 49, 46, 51, 46, 52, 46, 52, 46, 49]⟩
def ex9 : List Int := [2, 16, 840, 1, 101, 3, 4, 4, 1]
def exC : List Int := [96, 134, 72, 1, 101, 3, 4, 4, 1]
theorem ex_rng : Rng ex9 := by unfold Rng; decide
theorem ex_parse : parseL (ints exS) = some ex9 := by decide +kernel
theorem no_parse : parseL (ints ⟨#[49, 46, 52, 48]⟩) = none := by decide +kernel
theorem ex_ok : okL ex9 = true := by decide +kernel
theorem ex_text : textS ex9 = exS := (parse_text ex_parse).1
theorem ex_cont : contL ex9 = exC := by
  have e : contL ex9 = cS ex9 7 := by unfold contL; rw [ex_ok]; rfl
  rw [e]
  simp [cS, ex9, exC, grp, grpH_pos, grpH_zero]
theorem ex_read : readL exC = some ex9 := by rw [← ex_cont]; exact content_read ex_ok ex_rng
theorem no_read : readL [96, 128, 1] = none := by
  have h : rS [96, 128, 1] ([96, 128, 1] : List Int).length = some (0, [2, 16, 1]) := by decide +kernel
  have e : contL [2, 16, 1] = [96, 1] := by
    have h1 : okL [2, 16, 1] = true := by decide +kernel
    have e1 : contL [2, 16, 1] = cS [2, 16, 1] 1 := by unfold contL; rw [h1]; rfl
    rw [e1]
    simp [cS, grp, grpH_zero]
  unfold readL
  rw [h]
  exact if_neg fun hc => by rw [e] at hc; simp at hc
theorem ex_below : belowB ex9 [2, 16] = true := by decide +kernel
theorem no_below : belowB ex9 ex9 = false := by decide +kernel

end Go.Proofs.YtnjoccmjembppaaDoor
