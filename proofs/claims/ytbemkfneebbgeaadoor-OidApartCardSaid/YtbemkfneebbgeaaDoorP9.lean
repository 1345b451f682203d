/- What the program's package oid hands back, in the words of the reference; the library's comparison of two lists. -/
import Derived.Test.YtbemkfneebbgeaaDoorSame9
import Derived.Lib.LaidTab
import Derived.Lib.Itoa
import Derived.Lib.ItoaMem
import Derived.WalkSmall
namespace Go.Proofs.YtbemkfneebbgeaaDoor
open Go.RowKit
set_option linter.unusedVariables false

def Rng (l : List Int) : Prop := ∀ x ∈ l, 0 ≤ x ∧ x < 4294967296
/-- What a function of the program returns that finds numbers or none. -/
def POptK (o : Option (List Int)) (w : World) (e : Ending) (w' : World) : Prop :=
  match o with
  | none => ∃ A c, e = .returned (.tuple #[.slice A 0 c, .bool false]) ∧ SlK .u32 w' A 0 c [] ∧ Past w w'
  | some xs => ∃ A c, e = .returned (.tuple #[.slice A xs.length c, .bool true]) ∧ SlK .u32 w' A xs.length c xs ∧ Past w w'
def ContP (xs : List Int) (w : World) (e : Ending) (w' : World) : Prop := ∃ A c, e = .returned (.slice A xs.length c) ∧ Sl w' A xs.length c xs ∧ Past w w'

/-- What the library's variables hold that a run reads: the powers of ten, the two errors of strconv, the number internal/bytealg.MaxLen. -/
structure Glob (w : World) : Prop where
  tab : Lib.TabIs Tryd.prog w "internal/strconv.uint64pow10" .u64 Lib.pow10Tab
  syn : ∃ tp p, w.var? Tryd.prog "strconv.ErrSyntax" = some #[.iface tp p]
  ran : ∃ tp p, w.var? Tryd.prog "strconv.ErrRange" = some #[.iface tp p]
  mx : ∃ m, w.cell? ⟨3, 0, none⟩ = some (.int .i64 m)
theorem var_lt {w : World} {n : String} {g : Nat} {cs : Array Value} (hg : Tryd.prog.globalNamed n = some g) (h : w.var? Tryd.prog n = some cs) : g < w.heap.size := by
  unfold World.var? at h
  simp only [hg, Option.bind_some] at h
  rcases Nat.lt_or_ge g w.heap.size with h' | h'
  · exact h'
  · rw [Array.getElem?_eq_none h'] at h
    simp at h
theorem var_past {w w' : World} {n : String} {g : Nat} {cs : Array Value} (hg : Tryd.prog.globalNamed n = some g) (h : w.var? Tryd.prog n = some cs) (hp : Past w w') : w'.var? Tryd.prog n = some cs := var?_below hp hg (var_lt hg h) h
theorem Glob.past {w w' : World} (h : Glob w) (hp : Past w w') : Glob w' := by
  refine ⟨var_past (g := 0) (by kernel_rfl) h.tab hp, ?_, ?_, ?_⟩
  · obtain ⟨tp, p, h1⟩ := h.syn
    exact ⟨tp, p, var_past (g := 1) (by kernel_rfl) h1 hp⟩
  · obtain ⟨tp, p, h1⟩ := h.ran
    exact ⟨tp, p, var_past (g := 2) (by kernel_rfl) h1 hp⟩
  · obtain ⟨m, h1⟩ := h.mx
    exact ⟨m, (hp.cell (cell_lt h1)).trans h1⟩

structure Prog9 : Prop where
  valid : ∀ A n c l w, SlK .u32 w A n c l → Rng l → n ≤ 1000 → Calls Tryd.prog 11 #[.slice A n c] w fun e w' => e = .returned (.bool (okL l)) ∧ Past w w'
  text : ∀ A n c l w, Glob w → SlK .u32 w A n c l → Rng l → n ≤ 1000 → Calls Tryd.prog 9 #[.slice A n c] w fun e w' => e = .returned (.string (textS l)) ∧ Past w w'
  content : ∀ A n c l w, SlK .u32 w A n c l → Rng l → n ≤ 1000 → Calls Tryd.prog 10 #[.slice A n c] w (ContP (contL l) w)
  parse : ∀ s w, Glob w → s.size ≤ 1000 → Calls Tryd.prog 16 #[.string s] w (POptK (parseL (ints s)) w)
  read : ∀ A n c xs w, Sl w A n c xs → n ≤ 1000 → Calls Tryd.prog 17 #[.slice A n c] w (POptK (readL xs) w)
  below : ∀ A n c a B m d b w, SlK .u32 w A n c a → SlK .u32 w B m d b → Rng a → Rng b → n ≤ 1000 → m ≤ 1000 → Calls Tryd.prog 21 #[.slice A n c, .slice B m d] w fun e w' => e = .returned (.bool (belowB a b)) ∧ Past w w'

theorem SlK.nil (k : IntKind) (w : World) : SlK k w none 0 0 [] := ⟨rfl, Nat.le_refl _, Nat.zero_le _, fun h => absurd h (Nat.lt_irrefl 0), fun _ => rfl⟩

set_option maxHeartbeats 1000000 in
theorem equal_any (A1 A2 : Option Addr) (n1 n2 c1 c2 : Nat) (xs ys : List Int) (w : World) (h1 : SlK .u32 w A1 n1 c1 xs) (h2 : SlK .u32 w A2 n2 c2 ys) :
    Calls Tryd.prog 18 #[.slice A1 n1 c1, .slice A2 n2 c2] w fun e w' => e = .returned (.bool (sameB xs ys)) ∧ ∃ m, w' = w.drewN m := by
  have hn1 := h1.cap
  have hb1 := h1.big
  unfold maxLen at hb1
  by_cases hl : n1 = n2
  · subst hl
    have H1 := Lib.hid h1
    have H2 := Lib.hid h2
    clear h1 h2
    go_enter Tryd.func18, Tryd.ntmps18
    go_wp2
    go_loopg [5, 13] n1 (fun k _ s13 wr => ∃ j : Nat, j ≤ n1 ∧ k = n1 - j ∧ s13 = .int .i64 (j : Int) ∧ Hid (xs.take j = ys.take j) ∧ Hid (∃ m, wr = w.drewN m))
    case atStart => exact ⟨0, Nat.zero_le _, rfl, rfl, rfl, ⟨0, rfl⟩⟩
    case round =>
      obtain ⟨j, hj, hgk, rfl, ht, m, rfl⟩ := hrel
      have HGK := Lib.hid hgk
      clear hgk
      by_cases hlt : j < n1
      · obtain ⟨b1, o1, rfl, hc1⟩ := H1.out.cells (by omega)
        obtain ⟨b2, o2, rfl, hc2⟩ := H2.out.cells (by omega)
        have g1 := hc1 j hlt
        have g2 := hc2 j hlt
        clear hc1 hc2
        generalize hx : xs.getD j 0 = x at g1
        generalize hy : ys.getD j 0 = y at g2
        have HX := Lib.hid hx
        have HY := Lib.hid hy
        clear hx hy
        have hj0 : (0 : Int) ≤ (j : Int) := by omega
        have hjl : (j : Int) < (n1 : Int) := by omega
        by_cases hxy : x = y
        · subst hxy
          go_wp2
          go_quiet (fail)
          go_wp2
          go_roundg (n1 - (j + 1))
          case rel =>
            refine ⟨j + 1, by omega, rfl, by go_num, ?_, ⟨_, rfl⟩⟩
            show xs.take (j + 1) = ys.take (j + 1)
            rw [take_snoc' xs j (by rw [H1.out.len]; exact hlt), take_snoc' ys j (by rw [H2.out.len]; exact hlt), ht.out, HX.out, HY.out]
          case measure => have := HGK.out; omega
        · have hne : (x != y) = true := by simpa using hxy
          have HN := Lib.hid hxy
          clear hxy
          go_wp2
          go_quiet (fail)
          go_wp2
          go_ret
          exact ⟨by rw [sameB_at j (by rw [HX.out, HY.out]; exact HN.out)]; rfl, _, by first | rfl | rw [World.drewN_drewN]⟩
      · obtain rfl : j = n1 := by omega
        have HT := Lib.hid ht
        clear ht
        go_wp2
        go_ret
        have e : xs = ys := by
          have h := HT.out.out
          rwa [List.take_of_length_le (by rw [H1.out.len]; exact Nat.le_refl _), List.take_of_length_le (by rw [H2.out.len]; exact Nat.le_refl _)] at h
        exact ⟨by rw [e, sameB_refl]; rfl, _, rfl⟩
  · have hne2 : ((n1 : Int) != (n2 : Int)) = true := by simp; omega
    have HE : Hid (sameB xs ys = false) := sameB_len (by rw [h1.len, h2.len]; exact hl)
    clear h1 h2 hl
    go_enter Tryd.func18, Tryd.ntmps18
    go_wp2
    go_ret
    exact ⟨by rw [HE.out]; rfl, 0, rfl⟩

/-! ### The chapter's examples -/
def exS : ByteArray := ⟨#[50, 46, 49, 54, 46, 56, 52, 48, 46, 49, 46, 49, 48, 49, 46, 51, 46, 52, 46, 52, 46, 49]⟩
def ex9 : List Int := [2, 16, 840, 1, 101, 3, 4, 4, 1]
def exC : List Int := [96, 134, 72, 1, 101, 3, 4, 4, 1]
theorem ex_rng : Rng ex9 := by unfold Rng; decide
theorem ex_parse : parseL (ints exS) = some ex9 := by decide +kernel
theorem no_parse : parseL (ints ⟨#[49, 46, 52, 48]⟩) = none := by decide +kernel
theorem ex_ok : okL ex9 = true := by decide +kernel
theorem ex_text : textS ex9 = exS := (parse_text ex_parse).1
theorem ex_cont : contL ex9 = exC := by
  have e : contL ex9 = cS ex9 7 := by unfold contL; rw [ex_ok]; rfl
  rw [e]
  simp [cS, ex9, exC, grp, grpH_pos, grpH_zero]
theorem ex_read : readL exC = some ex9 := by rw [← ex_cont]; exact content_read ex_ok ex_rng
theorem no_read : readL [96, 128, 1] = none := by
  have h : rS [96, 128, 1] ([96, 128, 1] : List Int).length = some (0, [2, 16, 1]) := by decide +kernel
  have e : contL [2, 16, 1] = [96, 1] := by
    have h1 : okL [2, 16, 1] = true := by decide +kernel
    have e1 : contL [2, 16, 1] = cS [2, 16, 1] 1 := by unfold contL; rw [h1]; rfl
    rw [e1]
    simp [cS, grp, grpH_zero]
  unfold readL
  rw [h]
  exact if_neg fun hc => by rw [e] at hc; simp at hc
theorem ex_below : belowB ex9 [2, 16] = true := by decide +kernel
theorem no_below : belowB ex9 ex9 = false := by decide +kernel

end Go.Proofs.YtbemkfneebbgeaaDoor
