/- Slices of numbers of one kind; bytes that are appended to what a call owns. The reference's Valid of a list of arcs. The reference's group of a number. The reference's decimal digits of a number, and the text of a list of arcs. The reference's text of a list of arcs. The reference's content of a list of arcs. The reference's number of a decimal text. The reference's Parse of the text of an identifier. The reference's Read of the contents of an identifier. Decimal digits: what is written is what is read. Plain lists of numbers. The text of a list of arcs: what is written is what is read; one text below another. Plain lists of numbers. Contract of Same of package pyxref01. What the program's package oid hands back, in the words of the reference; the library's comparison of two lists. -/
import Derived.Test.YteflpbkdnebopaaGreatDoorRef5A
import Derived.Test.YteflpbkdnebopaaGreatDoorRows
import Derived.Test.YteflpbkdnebopaaGreatDoorBase
import Derived.Deep.QuietTactic
import Derived.BigQuiet
import Derived.Deep.LoopGhost
import Derived.Laws.AppendOwn
import Derived.Outline
import Derived.Deep.RegionLaw
import Derived.StillTailTactics
import Derived.Test.YteflpbkdnebopaaGreatDoorB5
import Derived.Lib.LaidTab
import Derived.Lib.Itoa
import Derived.Lib.ItoaMem
import Derived.WalkSmall
namespace Go.Proofs.YteflpbkdnebopaaGreatDoor
open Go.RowKit

theorem getD_rngK {xs : List Int} {m : Int} (hm : 0 < m) (h : ∀ x ∈ xs, 0 ≤ x ∧ x < m) (i : Nat) : 0 ≤ xs.getD i 0 ∧ xs.getD i 0 < m := by
  rw [List.getD_eq_getElem?_getD]
  by_cases hi : i < xs.length
  · rw [List.getElem?_eq_getElem hi]
    exact h _ (List.getElem_mem hi)
  · rw [List.getElem?_eq_none (by omega)]
    exact ⟨Int.le_refl _, hm⟩
theorem past_alloc9 (w : World) (o : Obj) : Past w (w.alloc o) := (Below.refl _ _).alloc (Nat.le_refl _) _

end Go.Proofs.YteflpbkdnebopaaGreatDoor

namespace Go.Proofs.YteflpbkdnebopaaGreatDoor
open Go.RowKit
set_option maxRecDepth 100000

/-- An identifier. -/
def okL (l : List Int) : Bool := decide (2 ≤ l.length ∧ l.length ≤ 20 ∧ l.getD 0 0 ≤ 2 ∧ (l.getD 0 0 < 2 → l.getD 1 0 ≤ 39) ∧ ∀ i, i < l.length → l.getD i 0 < 4294967216)
theorem okL_true {l : List Int} (h : okL l = true) : 2 ≤ l.length ∧ l.length ≤ 20 ∧ l.getD 0 0 ≤ 2 ∧ (l.getD 0 0 < 2 → l.getD 1 0 ≤ 39) ∧ ∀ i, i < l.length → l.getD i 0 < 4294967216 := of_decide_eq_true h

end Go.Proofs.YteflpbkdnebopaaGreatDoor

namespace Go.Proofs.YteflpbkdnebopaaGreatDoor
open Go.RowKit
set_option maxRecDepth 100000

/-- The digits to the base 128 ahead of the last one, each with 128 added. -/
def grpH (n : Nat) : List Int := if n = 0 then [] else grpH (n / 128) ++ [((128 + n % 128 : Nat) : Int)]
  termination_by n
  decreasing_by omega
def grp (n : Nat) : List Int := grpH (n / 128) ++ [((n % 128 : Nat) : Int)]
theorem grpH_zero : grpH 0 = [] := by rw [grpH, if_pos rfl]
theorem grpH_pos {n : Nat} (h : n ≠ 0) : grpH n = grpH (n / 128) ++ [((128 + n % 128 : Nat) : Int)] := by rw [grpH, if_neg h]
theorem grpH_rng (n : Nat) : ∀ x ∈ grpH n, 128 ≤ x ∧ x < 256 := by
  induction n using Nat.strongRecOn with
  | _ n ih =>
    by_cases h : n = 0
    · rw [h, grpH_zero]
      simp
    · rw [grpH_pos h]
      intro x hx
      rcases List.mem_append.1 hx with hx | hx
      · exact ih (n / 128) (by omega) x hx
      · obtain rfl : x = ((128 + n % 128 : Nat) : Int) := by simpa using hx
        omega
theorem grpH_len (k n : Nat) (h : n < 128 ^ k) : (grpH n).length ≤ k := by
  induction k generalizing n with
  | zero =>
    obtain rfl : n = 0 := by simpa using h
    rw [grpH_zero]
    exact Nat.le_refl _
  | succ k ih =>
    by_cases h0 : n = 0
    · rw [h0, grpH_zero]
      exact Nat.zero_le _
    · rw [grpH_pos h0, List.length_append]
      have e : 128 ^ (k + 1) = 128 * 128 ^ k := by rw [Nat.pow_succ, Nat.mul_comm]
      have := ih (n / 128) (by omega)
      simp only [List.length_cons, List.length_nil]
      omega
theorem grp_len (n : Nat) (h : n < 34359738368) : (grp n).length ≤ 5 ∧ 1 ≤ (grp n).length := by
  have := grpH_len 4 (n / 128) (by omega)
  unfold grp
  rw [List.length_append, List.length_singleton]
  omega
theorem grp_rng (n : Nat) : ∀ x ∈ grp n, 0 ≤ x ∧ x < 256 := by
  intro x hx
  rcases List.mem_append.1 hx with hx | hx
  · have := grpH_rng _ x hx
    omega
  · obtain rfl : x = ((n % 128 : Nat) : Int) := by simpa using hx
    omega
end Go.Proofs.YteflpbkdnebopaaGreatDoor

namespace Go.Proofs.YteflpbkdnebopaaGreatDoor
open Go.RowKit
set_option maxRecDepth 100000

def digS : ByteArray := ⟨#[48, 49, 50, 51, 52, 53, 54, 55, 56, 57]⟩
/-- The decimal digits of a number. -/
def decS (n : Nat) : ByteArray := if n < 10 then digS.extract n (n + 1) else decS (n / 10) ++ digS.extract (n % 10) (n % 10 + 1)
  termination_by n
  decreasing_by omega
theorem decS_one {n : Nat} (h : n < 10) : decS n = digS.extract n (n + 1) := by rw [decS, if_pos h]
theorem decS_more {n : Nat} (h : ¬ n < 10) : decS n = decS (n / 10) ++ digS.extract (n % 10) (n % 10 + 1) := by rw [decS, if_neg h]
theorem dig_size : ∀ i : Fin 10, (digS.extract i.val (i.val + 1)).size = 1 := by decide +kernel
theorem decS_size (k n : Nat) (h : n < 10 ^ (k + 1)) : (decS n).size ≤ k + 1 := by
  induction k generalizing n with
  | zero =>
    have h : n < 10 := by simpa using h
    rw [decS_one h, dig_size ⟨n, h⟩]
    omega
  | succ k ih =>
    by_cases h0 : n < 10
    · rw [decS_one h0, dig_size ⟨n, h0⟩]
      omega
    · rw [decS_more h0, ByteArray.size_append, dig_size ⟨n % 10, Nat.mod_lt _ (by omega)⟩]
      have e : 10 ^ (k + 1 + 1) = 10 * 10 ^ (k + 1) := by rw [Nat.pow_succ, Nat.mul_comm]
      have := ih (n / 10) (by omega)
      omega
theorem strslice9 (s : ByteArray) (l b : Nat) (L H : Int) (h0 : 0 ≤ L) (h1 : L ≤ H) (h2 : H ≤ (s.size : Int)) (hl : L.toNat = l) (hb : H.toNat = b) (w : World) :
    (Instr.slice 9 (.string s) (some (.int .i64 L)) (some (.int .i64 H)) none).run Tryz.prog w = .ok (.string (s.extract l b)) w := by
  rw [run_slice_string w 9 s .i64 .i64 L H Tryz.underlying9 h0 h1 h2, hl, hb]

end Go.Proofs.YteflpbkdnebopaaGreatDoor

namespace Go.Proofs.YteflpbkdnebopaaGreatDoor
open Go.RowKit
set_option maxRecDepth 100000

/-- The first k + 1 arcs in decimal digits, with dots between. -/
def tS (l : List Int) : Nat → ByteArray
  | 0 => decS (l.getD 0 0).toNat
  | k + 1 => tS l k ++ ⟨#[46]⟩ ++ decS (l.getD (k + 1) 0).toNat
def textS (l : List Int) : ByteArray := if okL l then tS l (l.length - 1) else ⟨#[]⟩
theorem arc_size {l : List Int} (hr : ∀ x ∈ l, 0 ≤ x ∧ x < 4294967296) (i : Nat) : (decS (l.getD i 0).toNat).size ≤ 10 := by
  have h := getD_rngK (by omega) hr i
  exact decS_size 9 _ (by omega)
theorem tS_size {l : List Int} (hr : ∀ x ∈ l, 0 ≤ x ∧ x < 4294967296) : ∀ k, (tS l k).size ≤ 11 * (k + 1)
  | 0 => by
    have := arc_size hr 0
    show (decS _).size ≤ _
    omega
  | k + 1 => by
    have h1 := tS_size hr k
    have h2 := arc_size hr (k + 1)
    show (tS l k ++ ⟨#[46]⟩ ++ decS _).size ≤ _
    rw [ByteArray.size_append, ByteArray.size_append]
    have h3 : (⟨#[46]⟩ : ByteArray).size = 1 := rfl
    omega

end Go.Proofs.YteflpbkdnebopaaGreatDoor

namespace Go.Proofs.YteflpbkdnebopaaGreatDoor
open Go.RowKit
set_option maxRecDepth 100000

/-- The groups of the first two arcs and the next k. -/
def cS9 (l : List Int) : Nat → List Int
  | 0 => grp (40 * (l.getD 0 0).toNat + (l.getD 1 0).toNat)
  | k + 1 => cS9 l k ++ grp (l.getD (k + 2) 0).toNat
def contL (l : List Int) : List Int := if okL l then cS9 l (l.length - 2) else []
theorem cS_rng (l : List Int) : ∀ k, ∀ x ∈ cS9 l k, 0 ≤ x ∧ x < 256
  | 0 => grp_rng _
  | k + 1 => fun x hx => by
    rcases List.mem_append.1 hx with hx | hx
    · exact cS_rng l k x hx
    · exact grp_rng _ x hx
theorem contL_rng (l : List Int) : ∀ x ∈ contL l, 0 ≤ x ∧ x < 256 := by
  unfold contL
  split
  · exact cS_rng l _
  · simp
theorem cS_len {l : List Int} (hr : ∀ x ∈ l, 0 ≤ x ∧ x < 4294967296) (h0 : l.getD 0 0 ≤ 2) : ∀ k, (cS9 l k).length ≤ 5 * (k + 1)
  | 0 => by
    have q0 := getD_rngK (m := 4294967296) (by omega) hr 0
    have q1 := getD_rngK (m := 4294967296) (by omega) hr 1
    have := (grp_len (40 * (l.getD 0 0).toNat + (l.getD 1 0).toNat) (by omega)).1
    show (grp _).length ≤ _
    omega
  | k + 1 => by
    have q := getD_rngK (m := 4294967296) (by omega) hr (k + 2)
    have h1 := cS_len hr h0 k
    have h2 := (grp_len (l.getD (k + 2) 0).toNat (by omega)).1
    show (cS9 l k ++ grp _).length ≤ _
    rw [List.length_append]
    omega

end Go.Proofs.YteflpbkdnebopaaGreatDoor

namespace Go.Proofs.YteflpbkdnebopaaGreatDoor
open Go.RowKit
set_option maxRecDepth 100000

/-- The bytes of a string as numbers. -/
def ints (s : ByteArray) : List Int := s.data.toList.map fun b => (b.toNat : Int)
theorem ints_len (s : ByteArray) : (ints s).length = s.size := by
  rw [ints, List.length_map, Array.length_toList]
  rfl
theorem ints_at (s : ByteArray) (i : Nat) (h : i < s.size) : (ints s).getD i 0 = ((s[i]).toNat : Int) := by
  have h' : i < s.data.size := h
  simp only [ints, List.getD_eq_getElem?_getD, List.getElem?_map, Array.getElem?_toList]
  rw [Array.getElem?_eq_getElem h']
  rfl
theorem ints_rng (s : ByteArray) (i : Nat) : 0 ≤ (ints s).getD i 0 ∧ (ints s).getD i 0 < 256 := by
  by_cases h : i < s.size
  · rw [ints_at s i h]
    have := (s[i]).toNat_lt
    omega
  · rw [List.getD_eq_getElem?_getD, List.getElem?_eq_none (by rw [ints_len]; omega)]
    simp
theorem idx_str (s : ByteArray) (k : Nat) (hk : k < s.size) (w : World) : (Instr.index 9 (.string s) (.int .i64 (k : Int))).run Tryz.prog w = .ok (.int .u8 ((ints s).getD k 0)) w := by
  rw [run_index_string w 9 s .i64 (k : Int) Tryz.underlying9, dif_pos ⟨by omega, by omega⟩, ints_at s k hk]
  simp only [Int.toNat_natCast]

/-- The value of the first k bytes as digits. -/
def valN (xs : List Int) : Nat → Int
  | 0 => 0
  | k + 1 => 10 * valN xs k + xs.getD k 0 - 48
/-- Whether bytes are the digits of a number: at least one and at most ten, and no zero ahead of others. -/
def digB (xs : List Int) : Bool := decide (1 ≤ xs.length ∧ xs.length ≤ 10 ∧ (1 < xs.length → xs.getD 0 0 ≠ 48) ∧ ∀ i, i < xs.length → 48 ≤ xs.getD i 0 ∧ xs.getD i 0 ≤ 57)
def numI (xs : List Int) : Int := if digB xs = true ∧ valN xs xs.length ≤ 4294967295 then valN xs xs.length else -1
theorem digB_true {xs : List Int} (h : digB xs = true) : 1 ≤ xs.length ∧ xs.length ≤ 10 ∧ (1 < xs.length → xs.getD 0 0 ≠ 48) ∧ ∀ i, i < xs.length → 48 ≤ xs.getD i 0 ∧ xs.getD i 0 ≤ 57 := of_decide_eq_true h
theorem numI_no {xs : List Int} (h : digB xs = false) : numI xs = -1 := by unfold numI; rw [h]; simp
theorem digB_no {xs : List Int} (p : Prop) (h1 : digB xs = true → p) (h2 : ¬ p) : digB xs = false := by
  cases hq : digB xs with
  | false => rfl
  | true => exact absurd (h1 hq) h2
theorem valN_rng (xs : List Int) (h : ∀ i, i < xs.length → 48 ≤ xs.getD i 0 ∧ xs.getD i 0 ≤ 57) : ∀ k, k ≤ xs.length → 0 ≤ valN xs k ∧ valN xs k < 10 ^ k
  | 0, _ => by simp [valN]
  | k + 1, hk => by
    have h1 := valN_rng xs h k (by omega)
    have h2 := h k (by omega)
    have e : (10 : Int) ^ (k + 1) = 10 ^ k * 10 := Int.pow_succ 10 k
    rw [e]
    show 0 ≤ 10 * valN xs k + xs.getD k 0 - 48 ∧ 10 * valN xs k + xs.getD k 0 - 48 < _
    omega

end Go.Proofs.YteflpbkdnebopaaGreatDoor

namespace Go.Proofs.YteflpbkdnebopaaGreatDoor
open Go.RowKit
set_option maxRecDepth 100000

theorem ints_extract (s : ByteArray) (a b : Nat) : ints (s.extract a b) = ((ints s).take b).drop a := by
  unfold ints
  rw [ByteArray.data_extract, Array.toList_extract, List.extract_eq_take_drop, ← List.map_take, ← List.map_drop, ← List.drop_take]
theorem slK_of_own {k : IntKind} {w : World} {B : Nat} {e : TypeId} {A : Option Addr} {n c : Nat} {xs : List Int} (h : w.ownsRow B e 1 (.slice A n c) n (xs.map (Value.int k))) : SlK k w A n c xs := by
  have hl : xs.length = n := by have := h.1; simpa using this
  rcases h.2 with ⟨e1, e2⟩ | ⟨g, cap, cur, e1, e2, e3, e4, e5, e6, e7⟩
  · injection e1 with a1 a2 a3
    subst a1 a2 a3
    exact ⟨hl, Nat.le_refl _, Nat.zero_le _, fun h => absurd h (by omega), fun _ => rfl⟩
  · injection e1 with a1 a2 a3
    subst a1 a3
    refine ⟨hl, e4, e5, fun hn => ⟨g, 0, rfl, fun i hi => ?_⟩, fun e => by cases e⟩
    have h1 := h.cells (g := g) rfl i (.int k (xs.getD i 0)) (by simp [List.getD, show i < xs.length by omega])
    rwa [add_none] at h1

/-- The piece from a to b. -/
def pc (xs : List Int) (a b : Nat) : List Int := (xs.take b).drop a
/-- What stands before place i: where the piece begins, and the numbers so far. -/
def pS9 (xs : List Int) : Nat → Option (Nat × List Int)
  | 0 => some (0, [])
  | i + 1 => match pS9 xs i with
    | none => none
    | some (f, l) => if i < xs.length ∧ xs.getD i 0 ≠ 46 then some (f, l) else if numI (pc xs f i) < 0 then none else some (i + 1, l ++ [numI (pc xs f i)])
/-- What Parse finds. -/
def parseL (xs : List Int) : Option (List Int) :=
  match pS9 xs (xs.length + 1) with
  | none => none
  | some (_, l) => if okL l then some l else none
theorem pS_none (xs : List Int) (i : Nat) (h : pS9 xs i = none) : ∀ j, pS9 xs (i + j) = none
  | 0 => h
  | j + 1 => by
    show pS9 xs (i + j + 1) = none
    unfold pS9
    rw [pS_none xs i h j]
theorem pS_in (xs : List Int) (i f : Nat) (l : List Int) (h : pS9 xs i = some (f, l)) (hc : i < xs.length ∧ xs.getD i 0 ≠ 46) : pS9 xs (i + 1) = some (f, l) := by
  show (match pS9 xs i with | none => none | some (f, l) => if i < xs.length ∧ xs.getD i 0 ≠ 46 then some (f, l) else if numI (pc xs f i) < 0 then none else some (i + 1, l ++ [numI (pc xs f i)])) = _
  rw [h]
  exact if_pos hc
theorem pS_end (xs : List Int) (i f : Nat) (l : List Int) (h : pS9 xs i = some (f, l)) (hc : ¬ (i < xs.length ∧ xs.getD i 0 ≠ 46)) : pS9 xs (i + 1) = if numI (pc xs f i) < 0 then none else some (i + 1, l ++ [numI (pc xs f i)]) := by
  show (match pS9 xs i with | none => none | some (f, l) => if i < xs.length ∧ xs.getD i 0 ≠ 46 then some (f, l) else if numI (pc xs f i) < 0 then none else some (i + 1, l ++ [numI (pc xs f i)])) = _
  rw [h]
  exact if_neg hc
theorem pS_from (xs : List Int) : ∀ i f l, pS9 xs i = some (f, l) → f ≤ i ∧ l.length ≤ i ∧ ∀ x ∈ l, 0 ≤ x ∧ x < 4294967296
  | 0, f, l, h => by
    injection h with h
    injection h with h1 h2
    subst h1 h2
    simp
  | i + 1, f, l, h => by
    cases hq : pS9 xs i with
    | none =>
      have := pS_none xs i hq 1
      rw [this] at h
      cases h
    | some p =>
      obtain ⟨f0, l0⟩ := p
      obtain ⟨q1, q2, q3⟩ := pS_from xs i f0 l0 hq
      by_cases hc : i < xs.length ∧ xs.getD i 0 ≠ 46
      · rw [pS_in xs i f0 l0 hq hc] at h
        injection h with h
        injection h with h1 h2
        subst h1 h2
        exact ⟨by omega, by omega, q3⟩
      · rw [pS_end xs i f0 l0 hq hc] at h
        split at h
        · cases h
        · rename_i hn
          injection h with h
          injection h with h1 h2
          subst h1 h2
          refine ⟨Nat.le_refl _, by rw [List.length_append, List.length_singleton]; omega, fun x hx => ?_⟩
          rcases List.mem_append.1 hx with hx | hx
          · exact q3 x hx
          · obtain rfl : x = numI (pc xs f0 i) := by simpa using hx
            have : numI (pc xs f0 i) ≤ 4294967295 := by
              unfold numI
              split
              · rename_i h
                exact h.2
              · omega
            omega

/-- What a function returns that finds numbers or none. -/
def ROptK (o : Option (List Int)) (w : World) (e : Ending) (w' : World) : Prop :=
  match o with
  | none => e = .returned (.tuple #[.slice none 0 0, .bool false]) ∧ Past w w'
  | some xs => ∃ A n c, e = .returned (.tuple #[.slice A n c, .bool true]) ∧ SlK .u32 w' A n c xs ∧ (∀ x ∈ xs, 0 ≤ x ∧ x < 4294967296) ∧ Past w w'
theorem ROptK.none' {w w' : World} (h : Past w w') : ROptK none w (.returned (.tuple #[.slice none 0 0, .bool false])) w' := ⟨rfl, h⟩
theorem ROptK.some' {w w' : World} {A : Option Addr} {n c : Nat} {xs : List Int} (h1 : SlK .u32 w' A n c xs) (h2 : ∀ x ∈ xs, 0 ≤ x ∧ x < 4294967296) (h : Past w w') : ROptK (some xs) w (.returned (.tuple #[.slice A n c, .bool true])) w' := ⟨A, n, c, rfl, h1, h2, h⟩
theorem strsl (s : ByteArray) (l b : Nat) (h1 : l ≤ b) (h2 : b ≤ s.size) (w : World) :
    (Instr.slice 9 (.string s) (some (.int .i64 (l : Int))) (some (.int .i64 (b : Int))) none).run Tryz.prog w = .ok (.string (s.extract l b)) w :=
  strslice9 s l b (l : Int) (b : Int) (by omega) (by omega) (by omega) (by omega) (by omega) w

end Go.Proofs.YteflpbkdnebopaaGreatDoor

namespace Go.Proofs.YteflpbkdnebopaaGreatDoor
open Go.RowKit
set_option maxRecDepth 100000

/-- The numbers with one more, which is m, or the two that the first one stands for. -/
def oneR (l : List Int) (m : Int) : List Int := if 0 < l.length then l ++ [m % 4294967296] else if m < 40 then [0, m] else if m < 80 then [1, m - 40] else [2, m - 80]
/-- What is read before place i: the number under way, and the numbers so far. -/
def rS (xs : List Int) : Nat → Option (Int × List Int)
  | 0 => some (0, [])
  | i + 1 => match rS xs i with
    | none => none
    | some (n, l) => if 4294967375 < n * 128 + xs.getD i 0 % 128 then none else if 128 ≤ xs.getD i 0 then some (n * 128 + xs.getD i 0 % 128, l) else some (0, oneR l (n * 128 + xs.getD i 0 % 128))
/-- What Read finds. -/
def readL (xs : List Int) : Option (List Int) :=
  match rS xs xs.length with
  | none => none
  | some (_, l) => if okL l = true ∧ contL l = xs then some l else none
theorem rS_none (xs : List Int) (i : Nat) (h : rS xs i = none) : ∀ j, rS xs (i + j) = none
  | 0 => h
  | j + 1 => by
    show rS xs (i + j + 1) = none
    unfold rS
    rw [rS_none xs i h j]
theorem rS_step (xs : List Int) (i : Nat) (n : Int) (l : List Int) (h : rS xs i = some (n, l)) : rS xs (i + 1) = if 4294967375 < n * 128 + xs.getD i 0 % 128 then none else if 128 ≤ xs.getD i 0 then some (n * 128 + xs.getD i 0 % 128, l) else some (0, oneR l (n * 128 + xs.getD i 0 % 128)) := by
  rw [rS, h]
theorem oneR_rng (l : List Int) (m : Int) (h0 : 0 ≤ m) (h1 : m ≤ 4294967375) (hl : ∀ x ∈ l, 0 ≤ x ∧ x < 4294967296) : ∀ x ∈ oneR l m, 0 ≤ x ∧ x < 4294967296 := by
  unfold oneR
  intro x hx
  split at hx
  · rcases List.mem_append.1 hx with hx | hx
    · exact hl x hx
    · obtain rfl : x = m % 4294967296 := by simpa using hx
      omega
  · split at hx
    · rcases List.mem_cons.1 hx with hx | hx
      · omega
      · obtain rfl : x = m := by simpa using hx
        omega
    · split at hx
      · rcases List.mem_cons.1 hx with hx | hx
        · omega
        · obtain rfl : x = m - 40 := by simpa using hx
          omega
      · rcases List.mem_cons.1 hx with hx | hx
        · omega
        · obtain rfl : x = m - 80 := by simpa using hx
          omega
theorem oneR_len (l : List Int) (m : Int) : (oneR l m).length ≤ l.length + 2 := by
  unfold oneR
  split
  · rw [List.length_append, List.length_singleton]
    omega
  · split
    · simp
    · split <;> simp
theorem rS_from (xs : List Int) (hr : ∀ x ∈ xs, 0 ≤ x ∧ x < 256) : ∀ i n l, rS xs i = some (n, l) → 0 ≤ n ∧ n ≤ 4294967375 ∧ l.length ≤ 2 * i ∧ ∀ x ∈ l, 0 ≤ x ∧ x < 4294967296
  | 0, n, l, h => by
    injection h with h
    injection h with h1 h2
    subst h1 h2
    simp
  | i + 1, n, l, h => by
    cases hq : rS xs i with
    | none =>
      have := rS_none xs i hq 1
      rw [this] at h
      cases h
    | some p =>
      obtain ⟨n0, l0⟩ := p
      obtain ⟨q1, q2, q3, q4⟩ := rS_from xs hr i n0 l0 hq
      have hx := getD_rngK (m := 256) (by omega) hr i
      rw [rS_step xs i n0 l0 hq] at h
      split at h
      · cases h
      · split at h
        · injection h with h
          injection h with h1 h2
          subst h1 h2
          exact ⟨by omega, by omega, by omega, q4⟩
        · injection h with h
          injection h with h1 h2
          subst h1 h2
          refine ⟨by omega, by omega, ?_, oneR_rng l0 _ (by omega) (by omega) q4⟩
          have := oneR_len l0 (n0 * 128 + xs.getD i 0 % 128)
          omega

end Go.Proofs.YteflpbkdnebopaaGreatDoor

namespace Go.Proofs.YteflpbkdnebopaaGreatDoor
open Go.RowKit

theorem ints_app (a b : ByteArray) : ints (a ++ b) = ints a ++ ints b := by
  unfold ints
  rw [ByteArray.data_append, Array.toList_append, List.map_append]
theorem ints_inj {a b : ByteArray} (h : ints a = ints b) : a = b := by
  have hl : a.size = b.size := by rw [← ints_len a, ← ints_len b, h]
  have hd : a.data.toList = b.data.toList := by
    refine List.ext_getElem (by simpa using hl) fun i h1 h2 => ?_
    have h3 : (ints a)[i]? = (ints b)[i]? := by rw [h]
    unfold ints at h3
    rw [List.getElem?_map, List.getElem?_map, List.getElem?_eq_getElem h1, List.getElem?_eq_getElem h2] at h3
    simp only [Option.map_some, Option.some.injEq] at h3
    exact UInt8.toNat_inj.1 (by omega)
  cases a
  cases b
  simp only at hd
  rw [Array.toList_inj.1 hd]

/-- The decimal digits of a number. -/
def decL (n : Nat) : List Int := ints (decS n)
theorem dig_ints : ∀ i : Fin 10, ints (digS.extract i.val (i.val + 1)) = [((48 + i.val : Nat) : Int)] := by decide +kernel
theorem decL_one {n : Nat} (h : n < 10) : decL n = [((48 + n : Nat) : Int)] := by
  unfold decL
  rw [decS_one h]
  exact dig_ints ⟨n, h⟩
theorem decL_more {n : Nat} (h : ¬ n < 10) : decL n = decL (n / 10) ++ [((48 + n % 10 : Nat) : Int)] := by
  unfold decL
  rw [decS_more h, ints_app]
  congr 1
  exact dig_ints ⟨n % 10, Nat.mod_lt _ (by omega)⟩
theorem decL_len (n : Nat) (h : n < 10000000000) : 1 ≤ (decL n).length ∧ (decL n).length ≤ 10 := by
  constructor
  · by_cases h0 : n < 10
    · rw [decL_one h0]
      exact Nat.le_refl _
    · rw [decL_more h0, List.length_append]
      simp
  · unfold decL
    rw [ints_len]
    exact decS_size 9 n (by omega)
theorem decL_rng (n : Nat) : ∀ x ∈ decL n, 48 ≤ x ∧ x ≤ 57 := by
  induction n using Nat.strongRecOn with
  | _ n ih =>
    by_cases h0 : n < 10
    · rw [decL_one h0]
      intro x hx
      obtain rfl : x = ((48 + n : Nat) : Int) := by simpa using hx
      omega
    · rw [decL_more h0]
      intro x hx
      rcases List.mem_append.1 hx with hx | hx
      · exact ih (n / 10) (by omega) x hx
      · obtain rfl : x = ((48 + n % 10 : Nat) : Int) := by simpa using hx
        omega
theorem getD_app_left {l m : List Int} {i : Nat} (h : i < l.length) : (l ++ m).getD i 0 = l.getD i 0 := by
  rw [List.getD_eq_getElem?_getD, List.getElem?_append_left h, ← List.getD_eq_getElem?_getD]
theorem getD_app_right {l m : List Int} {i : Nat} (h : l.length ≤ i) : (l ++ m).getD i 0 = m.getD (i - l.length) 0 := by
  rw [List.getD_eq_getElem?_getD, List.getElem?_append_right h, ← List.getD_eq_getElem?_getD]
theorem decL_pos (n : Nat) : 1 ≤ (decL n).length := by
  by_cases h0 : n < 10
  · rw [decL_one h0]
    exact Nat.le_refl _
  · rw [decL_more h0, List.length_append]
    simp
/-- No zero ahead of other digits. -/
theorem decL_head (n : Nat) : 1 < (decL n).length → (decL n).getD 0 0 ≠ 48 := by
  induction n using Nat.strongRecOn with
  | _ n ih =>
    by_cases h0 : n < 10
    · rw [decL_one h0]
      intro h
      simp at h
    · rw [decL_more h0]
      intro _
      rw [getD_app_left (by have := decL_pos (n / 10); omega)]
      by_cases h1 : 1 < (decL (n / 10)).length
      · exact ih (n / 10) (by omega) h1
      · by_cases h2 : n / 10 < 10
        · rw [decL_one h2]
          show ((48 + n / 10 : Nat) : Int) ≠ 48
          omega
        · have := decL_more h2
          rw [this, List.length_append, List.length_singleton] at h1
          have := decL_pos (n / 10 / 10)
          omega
theorem valN_app (l m : List Int) : ∀ k, k ≤ l.length → valN (l ++ m) k = valN l k
  | 0, _ => rfl
  | k + 1, h => by
    show 10 * valN (l ++ m) k + (l ++ m).getD k 0 - 48 = 10 * valN l k + l.getD k 0 - 48
    rw [valN_app l m k (by omega), getD_app_left (by omega)]
theorem valN_snoc (l : List Int) (x : Int) : valN (l ++ [x]) (l ++ [x]).length = 10 * valN l l.length + x - 48 := by
  rw [List.length_append, List.length_singleton]
  show 10 * valN (l ++ [x]) l.length + (l ++ [x]).getD l.length 0 - 48 = _
  rw [valN_app l [x] _ (Nat.le_refl _), getD_app_right (Nat.le_refl _), Nat.sub_self]
  rfl
theorem valN_decL (n : Nat) : valN (decL n) (decL n).length = (n : Int) := by
  induction n using Nat.strongRecOn with
  | _ n ih =>
    by_cases h0 : n < 10
    · rw [decL_one h0]
      show 10 * valN [((48 + n : Nat) : Int)] 0 + ((48 + n : Nat) : Int) - 48 = _
      show 10 * 0 + ((48 + n : Nat) : Int) - 48 = _
      omega
    · rw [decL_more h0, valN_snoc, ih (n / 10) (by omega)]
      omega
theorem numI_decL (n : Nat) (h : n < 4294967296) : numI (decL n) = (n : Int) := by
  have hl := decL_len n (by omega)
  have hb : digB (decL n) = true := by
    refine decide_eq_true ⟨hl.1, hl.2, decL_head n, fun i hi => ?_⟩
    refine decL_rng n _ ?_
    rw [List.getD_eq_getElem?_getD, List.getElem?_eq_getElem hi]
    exact List.getElem_mem hi
  unfold numI
  rw [if_pos ⟨hb, by rw [valN_decL]; omega⟩, valN_decL]
theorem list_snoc (d : List Int) (h : 1 ≤ d.length) : ∃ l x, d = l ++ [x] := by
  rcases List.eq_nil_or_concat d with h0 | ⟨l, x, h0⟩
  · rw [h0] at h
    simp at h
  · exact ⟨l, x, by simpa using h0⟩
theorem digits_canon (k : Nat) : ∀ d : List Int, d.length = k + 1 → (∀ i, i < d.length → 48 ≤ d.getD i 0 ∧ d.getD i 0 ≤ 57) → (1 < d.length → d.getD 0 0 ≠ 48) → decL (valN d d.length).toNat = d := by
  induction k with
  | zero =>
    intro d hd hr _
    obtain ⟨l, x, rfl⟩ := list_snoc d (by omega)
    have hl : l = [] := by
      rw [List.length_append, List.length_singleton] at hd
      exact List.eq_nil_of_length_eq_zero (by omega)
    subst hl
    have h0 : 48 ≤ x ∧ x ≤ 57 := hr 0 (by simp)
    have e : valN ([] ++ [x]) ([] ++ [x] : List Int).length = x - 48 := by
      rw [valN_snoc]
      show 10 * 0 + x - 48 = _
      omega
    rw [e, decL_one (by omega)]
    show [_] = [x]
    congr 1
    omega
  | succ k ih =>
    intro d hd hr hz
    obtain ⟨l, x, rfl⟩ := list_snoc d (by omega)
    have hl : l.length = k + 1 := by
      rw [List.length_append, List.length_singleton] at hd
      omega
    have hrl : ∀ i, i < l.length → 48 ≤ l.getD i 0 ∧ l.getD i 0 ≤ 57 := fun i hi => by
      have := hr i (by rw [List.length_append]; omega)
      rwa [getD_app_left hi] at this
    have hx : 48 ≤ x ∧ x ≤ 57 := by
      have := hr l.length (by rw [List.length_append]; simp)
      rwa [getD_app_right (Nat.le_refl _), Nat.sub_self] at this
    have h0 : l.getD 0 0 ≠ 48 := by
      have := hz (by omega)
      rwa [getD_app_left (by omega)] at this
    have hih := ih l hl hrl (fun _ => h0)
    have hv := valN_rng l hrl l.length (Nat.le_refl _)
    have hpos : 1 ≤ valN l l.length := by
      rcases Int.lt_or_le (valN l l.length) 1 with h | h
      · have e0 : valN l l.length = 0 := by omega
        rw [e0] at hih
        have e1 : decL (0 : Int).toNat = [48] := decL_one (by decide)
        rw [e1] at hih
        rw [← hih] at h0
        exact absurd rfl h0
      · exact h
    rw [valN_snoc]
    rw [decL_more (by omega)]
    have e1 : (10 * valN l l.length + x - 48).toNat / 10 = (valN l l.length).toNat := by omega
    have e2 : ((48 + (10 * valN l l.length + x - 48).toNat % 10 : Nat) : Int) = x := by omega
    rw [e1, e2, hih]
theorem numI_canon (d : List Int) (h : 0 ≤ numI d) : decL (numI d).toNat = d ∧ numI d < 4294967296 := by
  unfold numI at h ⊢
  by_cases hc : digB d = true ∧ valN d d.length ≤ 4294967295
  · rw [if_pos hc] at h ⊢
    obtain ⟨q1, q2, q3, q4⟩ := digB_true hc.1
    exact ⟨digits_canon (d.length - 1) d (by omega) q4 q3, by omega⟩
  · rw [if_neg hc] at h
    omega
theorem decL_inj {m n : Nat} (h : decL m = decL n) : m = n := by
  have h1 := valN_decL m
  rw [h, valN_decL n] at h1
  omega

end Go.Proofs.YteflpbkdnebopaaGreatDoor

namespace Go.Proofs.YteflpbkdnebopaaGreatDoor
open Go.RowKit

/-- The arcs in digits, each with a dot behind it. -/
def jn9 : List Int → List Int
  | [] => []
  | x :: l => decL x.toNat ++ 46 :: jn9 l
theorem jn_app : ∀ a b : List Int, jn9 (a ++ b) = jn9 a ++ jn9 b
  | [], b => rfl
  | x :: a, b => by
    show decL x.toNat ++ 46 :: jn9 (a ++ b) = (decL x.toNat ++ 46 :: jn9 a) ++ jn9 b
    rw [jn_app a b, List.append_assoc, List.cons_append]
theorem jn_one (x : Int) : jn9 [x] = decL x.toNat ++ [46] := rfl
theorem tS_jn (l : List Int) : ∀ k, k < l.length → ints (tS l k) ++ [46] = jn9 (l.take (k + 1))
  | 0, h => by
    have e : l.take 1 = [l.getD 0 0] := by
      cases l with
      | nil => simp at h
      | cons x l => simp
    rw [e]
    rfl
  | k + 1, h => by
    have e : l.take (k + 1 + 1) = l.take (k + 1) ++ [l.getD (k + 1) 0] := by
      rw [List.take_add_one]
      simp [List.getD, h]
    have ih := tS_jn l k (by omega)
    rw [e, jn_app, ← ih, jn_one]
    show ints (tS l k ++ ⟨#[46]⟩ ++ decS (l.getD (k + 1) 0).toNat) ++ [46] = _
    rw [ints_app, ints_app, List.append_assoc, List.append_assoc, List.append_assoc]
    rfl
theorem textS_jn {l : List Int} (h : okL l = true) : ints (textS l) ++ [46] = jn9 l := by
  obtain ⟨q1, q2, _⟩ := okL_true h
  unfold textS
  rw [if_pos h, tS_jn l (l.length - 1) (by omega), show l.length - 1 + 1 = l.length by omega, List.take_length]
theorem textS_no {l : List Int} (h : okL l = false) : textS l = ⟨#[]⟩ := by
  unfold textS
  rw [h]
  rfl
theorem app_one_inj {a b : List Int} {x : Int} (h : a ++ [x] = b ++ [x]) : a = b := (List.append_inj' h rfl).1

/-- No dot among digits. -/
theorem decL_nodot (n : Nat) : ∀ x ∈ decL n, x ≠ 46 := fun x hx => by
  have := decL_rng n x hx
  omega
theorem split_dot : ∀ (a b r s : List Int), (∀ x ∈ a, x ≠ 46) → (∀ x ∈ b, x ≠ 46) → a ++ 46 :: r = b ++ 46 :: s → a = b ∧ r = s
  | [], [], r, s, _, _, h => by
    injection h with _ h
    exact ⟨rfl, h⟩
  | [], y :: b, r, s, _, hb, h => by
    injection h with h1 _
    exact absurd h1.symm (hb y (by simp))
  | x :: a, [], r, s, ha, _, h => by
    injection h with h1 _
    exact absurd h1 (ha x (by simp))
  | x :: a, y :: b, r, s, ha, hb, h => by
    injection h with h1 h2
    obtain ⟨h3, h4⟩ := split_dot a b r s (fun z hz => ha z (by simp [hz])) (fun z hz => hb z (by simp [hz])) h2
    exact ⟨by rw [h1, h3], h4⟩
/-- A list's joined text ahead of another's: the list is ahead of the other. -/
theorem jn_pre : ∀ (b a r : List Int), (∀ x ∈ a, 0 ≤ x) → (∀ x ∈ b, 0 ≤ x) → jn9 b ++ r = jn9 a → ∃ c, a = b ++ c ∧ jn9 c = r
  | [], a, r, _, _, h => ⟨a, rfl, h.symm⟩
  | x :: b, [], r, _, _, h => by
    have : (decL x.toNat ++ 46 :: jn9 b) ++ r = [] := h
    simp at this
  | x :: b, y :: a, r, ha, hb, h => by
    have h1 : decL x.toNat ++ 46 :: (jn9 b ++ r) = decL y.toNat ++ 46 :: jn9 a := by
      have : (decL x.toNat ++ 46 :: jn9 b) ++ r = decL y.toNat ++ 46 :: jn9 a := h
      rwa [List.append_assoc, List.cons_append] at this
    obtain ⟨h2, h3⟩ := split_dot _ _ _ _ (decL_nodot _) (decL_nodot _) h1
    have hxy : x = y := by
      have := decL_inj h2
      have hx := hb x (by simp)
      have hy := ha y (by simp)
      omega
    obtain ⟨c, h4, h5⟩ := jn_pre b a r (fun z hz => ha z (by simp [hz])) (fun z hz => hb z (by simp [hz])) h3
    exact ⟨c, by rw [hxy, h4]; rfl, h5⟩
theorem jn_inj {a b : List Int} (ha : ∀ x ∈ a, 0 ≤ x) (hb : ∀ x ∈ b, 0 ≤ x) (h : jn9 a = jn9 b) : a = b := by
  obtain ⟨c, h1, h2⟩ := jn_pre b a [] ha hb (by rw [List.append_nil]; exact h.symm)
  cases c with
  | nil => rw [h1, List.append_nil]
  | cons x c =>
    have : decL x.toNat ++ 46 :: jn9 c = [] := h2
    simp at this

/-! ### What Parse finds -/
theorem pc_len (xs : List Int) (f i : Nat) (hi : i ≤ xs.length) : (pc xs f i).length = i - f := by
  unfold pc
  rw [List.length_drop, List.length_take, Nat.min_eq_left hi]
theorem take_pc (ys : List Int) (f i : Nat) (h : f ≤ i) : ys.take i = ys.take f ++ pc ys f i := by
  unfold pc
  conv => lhs; rw [← List.take_append_drop f (ys.take i)]
  rw [List.take_take, Nat.min_eq_left h]
/-- What is scanned so far is the text of what was found. -/
theorem pS_text (xs : List Int) : ∀ i f l, i ≤ xs.length + 1 → pS9 xs i = some (f, l) → (xs ++ [46]).take f = jn9 l ∧ f ≤ i ∧ (i = xs.length + 1 → f = i)
  | 0, f, l, _, h => by
    injection h with h
    injection h with h1 h2
    subst h1 h2
    exact ⟨rfl, Nat.le_refl _, fun e => by omega⟩
  | i + 1, f, l, hi, h => by
    cases hq : pS9 xs i with
    | none =>
      have := pS_none xs i hq 1
      rw [this] at h
      cases h
    | some p =>
      obtain ⟨f0, l0⟩ := p
      obtain ⟨q1, q2, _⟩ := pS_text xs i f0 l0 (by omega) hq
      by_cases hc : i < xs.length ∧ xs.getD i 0 ≠ 46
      · rw [pS_in xs i f0 l0 hq hc] at h
        injection h with h
        injection h with h1 h2
        subst h1 h2
        exact ⟨q1, by omega, fun e => by omega⟩
      · rw [pS_end xs i f0 l0 hq hc] at h
        split at h
        · cases h
        · rename_i hn
          injection h with h
          injection h with h1 h2
          subst h1 h2
          refine ⟨?_, Nat.le_refl _, fun _ => rfl⟩
          have hd := numI_canon (pc xs f0 i) (by omega)
          have e1 : pc (xs ++ [46]) f0 i = pc xs f0 i := by
            unfold pc
            rw [List.take_append_of_le_length (by omega)]
          have e2 : (xs ++ [46]).take (i + 1) = (xs ++ [46]).take i ++ [46] := by
            rw [List.take_add_one]
            congr 1
            by_cases hl : i < xs.length
            · rw [List.getElem?_append_left hl, List.getElem?_eq_getElem hl]
              have : xs.getD i 0 = 46 := by
                by_cases h46 : xs.getD i 0 = 46
                · exact h46
                · exact absurd ⟨hl, h46⟩ hc
              rw [List.getD_eq_getElem?_getD, List.getElem?_eq_getElem hl] at this
              simp only [Option.getD_some] at this
              rw [this]
              rfl
            · have : i = xs.length := by omega
              subst this
              simp
          rw [e2, take_pc (xs ++ [46]) f0 i q2, q1, e1, jn_app, jn_one, hd.1, List.append_assoc]
theorem parse_text {s : ByteArray} {l : List Int} (h : parseL (ints s) = some l) : textS l = s ∧ okL l = true ∧ ∀ x ∈ l, 0 ≤ x ∧ x < 4294967296 := by
  unfold parseL at h
  cases hq : pS9 (ints s) ((ints s).length + 1) with
  | none => rw [hq] at h; cases h
  | some p =>
    obtain ⟨f, l0⟩ := p
    rw [hq] at h
    simp only at h
    by_cases hk : okL l0 = true
    · rw [if_pos hk] at h
      injection h with h
      subst h
      obtain ⟨q1, q2, q3⟩ := pS_text _ _ f l0 (Nat.le_refl _) hq
      have q4 := q3 rfl
      subst q4
      rw [List.take_of_length_le (by rw [List.length_append, List.length_singleton]; exact Nat.le_refl _), ← textS_jn hk] at q1
      exact ⟨ints_inj (app_one_inj q1.symm), hk, (pS_from _ _ _ _ hq).2.2⟩
    · rw [if_neg hk] at h
      cases h

/-- The scan over a piece without a dot. -/
theorem pS_piece (xs : List Int) (f : Nat) (l : List Int) : ∀ k, (∀ j, f ≤ j → j < f + k → j < xs.length ∧ xs.getD j 0 ≠ 46) → pS9 xs f = some (f, l) → pS9 xs (f + k) = some (f, l)
  | 0, _, h => h
  | k + 1, hk, h => pS_in xs (f + k) f l (pS_piece xs f l k (fun j h1 h2 => hk j h1 (by omega)) h) (hk (f + k) (by omega) (by omega))
theorem pS_jn (xs : List Int) : ∀ (a b r : List Int), (∀ x ∈ a, 0 ≤ x ∧ x < 4294967296) → xs ++ [46] = jn9 b ++ jn9 a ++ r → pS9 xs (jn9 b).length = some ((jn9 b).length, b) → pS9 xs (jn9 b ++ jn9 a).length = some ((jn9 b ++ jn9 a).length, b ++ a)
  | [], b, r, _, _, h => by
    show pS9 xs (jn9 b ++ []).length = some ((jn9 b ++ []).length, b ++ [])
    rw [List.append_nil, List.append_nil]
    exact h
  | x :: a, b, r, ha, hx, h => by
    have hxr := ha x (by simp)
    have e1 : jn9 (b ++ [x]) = jn9 b ++ (decL x.toNat ++ [46]) := by rw [jn_app, jn_one]
    have e2 : xs ++ [46] = jn9 (b ++ [x]) ++ jn9 a ++ r := by
      rw [hx, e1]
      show jn9 b ++ (decL x.toNat ++ 46 :: jn9 a) ++ r = _
      simp only [List.append_assoc, List.cons_append, List.nil_append]
    have hlen : (jn9 b).length + (decL x.toNat).length + 1 ≤ xs.length + 1 := by
      have := congrArg List.length e2
      rw [e1] at this
      simp only [List.length_append, List.length_singleton] at this
      omega
    have hat : ∀ j, j < (decL x.toNat ++ [46]).length → (xs ++ [46]).getD ((jn9 b).length + j) 0 = (decL x.toNat ++ [46]).getD j 0 := by
      intro j hj
      rw [e2, e1, List.append_assoc, List.append_assoc, getD_app_right (by omega), Nat.add_sub_cancel_left, getD_app_left hj]
    have hpiece := pS_piece xs (jn9 b).length b (decL x.toNat).length (fun j h1 h2 => by
      have hj : j < xs.length := by omega
      refine ⟨hj, ?_⟩
      have := hat (j - (jn9 b).length) (by rw [List.length_append]; omega)
      rw [show (jn9 b).length + (j - (jn9 b).length) = j by omega, getD_app_left hj, getD_app_left (by omega)] at this
      rw [this]
      refine decL_nodot x.toNat _ ?_
      rw [List.getD_eq_getElem?_getD, List.getElem?_eq_getElem (by omega)]
      exact List.getElem_mem _) h
    have hdot : ¬ ((jn9 b).length + (decL x.toNat).length < xs.length ∧ xs.getD ((jn9 b).length + (decL x.toNat).length) 0 ≠ 46) := by
      rintro ⟨h1, h2⟩
      have := hat (decL x.toNat).length (by rw [List.length_append]; simp)
      rw [getD_app_left h1, getD_app_right (Nat.le_refl _), Nat.sub_self] at this
      exact h2 this
    have hpc : pc xs (jn9 b).length ((jn9 b).length + (decL x.toNat).length) = decL x.toNat := by
      have h1 : pc (xs ++ [46]) (jn9 b).length ((jn9 b).length + (decL x.toNat).length) = pc xs (jn9 b).length ((jn9 b).length + (decL x.toNat).length) := by
        unfold pc
        rw [List.take_append_of_le_length (by omega)]
      rw [← h1, e2, e1]
      unfold pc
      rw [List.append_assoc, List.append_assoc, List.take_append, List.take_of_length_le (by omega), Nat.add_sub_cancel_left, List.drop_append_of_le_length (Nat.le_refl _), List.drop_length, List.nil_append, List.append_assoc, List.take_append_of_le_length (Nat.le_refl _), List.take_length]
    have hend := pS_end xs _ _ b hpiece hdot
    rw [hpc, numI_decL _ (by omega), if_neg (by omega), Int.toNat_of_nonneg hxr.1] at hend
    have ih := pS_jn xs a (b ++ [x]) r (fun y hy => ha y (by simp [hy])) e2 (by
      rw [e1]
      have : (jn9 b ++ (decL x.toNat ++ [46])).length = (jn9 b).length + (decL x.toNat).length + 1 := by simp only [List.length_append, List.length_singleton]; omega
      rw [this]
      exact hend)
    have e3 : jn9 (b ++ [x]) ++ jn9 a = jn9 b ++ jn9 (x :: a) := by
      rw [e1]
      show _ = jn9 b ++ (decL x.toNat ++ 46 :: jn9 a)
      simp only [List.append_assoc, List.cons_append, List.nil_append]
    rw [e3, List.append_assoc] at ih
    exact ih
theorem text_parse {l : List Int} (hk : okL l = true) (hr : ∀ x ∈ l, 0 ≤ x ∧ x < 4294967296) : parseL (ints (textS l)) = some l := by
  have h := pS_jn (ints (textS l)) l [] [] hr (by rw [textS_jn hk]; show jn9 l = [] ++ jn9 l ++ []; rw [List.nil_append, List.append_nil]) rfl
  have e : ([] ++ jn9 l : List Int).length = (ints (textS l)).length + 1 := by
    rw [List.nil_append, ← textS_jn hk, List.length_append, List.length_singleton]
  have h2 : pS9 (ints (textS l)) ((ints (textS l)).length + 1) = some (([] ++ jn9 l : List Int).length, l) := by rw [← e]; exact h
  unfold parseL
  rw [h2]
  exact if_pos hk
theorem parse_nil : parseL [] = none := by decide +kernel

/-! ### Below -/
/-- Whether a list is below another one. -/
def belowB (a b : List Int) : Bool := decide (okL a = true ∧ okL b = true ∧ b.length < a.length ∧ a.take b.length = b)
theorem below_text {a b : List Int} (ha : okL a = true) (hb : okL b = true) (hra : ∀ x ∈ a, 0 ≤ x ∧ x < 4294967296) (hrb : ∀ x ∈ b, 0 ≤ x ∧ x < 4294967296) :
    belowB a b = decide ((textS b).size + 1 < (textS a).size ∧ (ints (textS a)).take ((textS b).size + 1) = ints (textS b) ++ [46]) := by
  have h1 := textS_jn ha
  have h2 := textS_jn hb
  unfold belowB
  refine decide_eq_decide.2 ⟨fun ⟨_, _, h3, h4⟩ => ?_, fun ⟨h3, h4⟩ => ⟨ha, hb, ?_⟩⟩
  · have h5 : a = b ++ a.drop b.length := by
      have := List.take_append_drop b.length a
      rw [h4] at this
      exact this.symm
    obtain ⟨c, hc⟩ : ∃ c, a.drop b.length = c := ⟨_, rfl⟩
    rw [hc] at h5
    have hcl : 0 < c.length := by rw [← hc, List.length_drop]; omega
    have h6 : ints (textS a) ++ [46] = (ints (textS b) ++ [46]) ++ jn9 c := by rw [h1, h2, h5, jn_app]
    have hc2 : 2 ≤ (jn9 c).length := by
      cases c with
      | nil => simp at hcl
      | cons x c =>
        show 2 ≤ (decL x.toNat ++ 46 :: jn9 c).length
        have := decL_pos x.toNat
        rw [List.length_append, List.length_cons]
        omega
    have h7 := congrArg List.length h6
    simp only [List.length_append, List.length_singleton, ints_len] at h7
    refine ⟨by omega, ?_⟩
    have h8 : (ints (textS a) ++ [46]).take ((textS b).size + 1) = ((ints (textS b) ++ [46]) ++ jn9 c).take ((textS b).size + 1) := by rw [h6]
    have hbl : (ints (textS b) ++ [46]).length = (textS b).size + 1 := by rw [List.length_append, List.length_singleton, ints_len]
    have e1 : (ints (textS a) ++ [46]).take ((textS b).size + 1) = (ints (textS a)).take ((textS b).size + 1) := List.take_append_of_le_length (by rw [ints_len]; omega)
    have e2 : ((ints (textS b) ++ [46]) ++ jn9 c).take ((textS b).size + 1) = (ints (textS b) ++ [46]).take ((textS b).size + 1) := List.take_append_of_le_length (by rw [hbl]; exact Nat.le_refl _)
    have e3 : (ints (textS b) ++ [46]).take ((textS b).size + 1) = ints (textS b) ++ [46] := List.take_of_length_le (by rw [hbl]; exact Nat.le_refl _)
    rw [e1, e2, e3] at h8
    exact h8
  · have h5 : jn9 b ++ ((ints (textS a)).drop ((textS b).size + 1) ++ [46]) = jn9 a := by
      rw [← h1, ← h2, ← h4, ← List.append_assoc, List.take_append_drop]
    obtain ⟨c, h6, h7⟩ := jn_pre b a _ (fun x hx => (hra x hx).1) (fun x hx => (hrb x hx).1) h5
    have hc : 0 < c.length := by
      cases c with
      | nil =>
        have h8 := congrArg List.length h7
        simp [jn9] at h8
      | cons x c => simp
    exact ⟨by rw [h6, List.length_append]; omega, by rw [h6]; simp⟩
theorem below_no_a {a b : List Int} (h : okL a = false) : belowB a b = false := decide_eq_false fun ⟨h1, _⟩ => by rw [h] at h1; cases h1
theorem below_no_b {a b : List Int} (h : okL b = false) : belowB a b = false := decide_eq_false fun ⟨_, h1, _⟩ => by rw [h] at h1; cases h1

/-! ### Contents -/
theorem grpH_scan (xs pre rest : List Int) (acc : List Int) (N : Nat) (hN : N ≤ 4294967375) : ∀ m : Nat, m ≤ N → xs = pre ++ grpH m ++ rest → rS xs pre.length = some (0, acc) → rS xs (pre ++ grpH m).length = some ((m : Int), acc) := by
  intro m
  induction m using Nat.strongRecOn generalizing rest with
  | _ m ih =>
    intro hm hx h
    by_cases h0 : m = 0
    · subst h0
      rw [grpH_zero, List.append_nil]
      exact h
    · rw [grpH_pos h0] at hx ⊢
      have h1 := ih (m / 128) (by omega) ([((128 + m % 128 : Nat) : Int)] ++ rest) (by omega) (by rw [hx]; simp only [List.append_assoc]) h
      have hat : xs.getD (pre ++ grpH (m / 128)).length 0 = ((128 + m % 128 : Nat) : Int) := by
        rw [hx, ← List.append_assoc, List.append_assoc, getD_app_right (Nat.le_refl _), Nat.sub_self]
        rfl
      have h2 := rS_step xs _ _ _ h1
      rw [hat] at h2
      have e1 : ((m / 128 : Nat) : Int) * 128 + ((128 + m % 128 : Nat) : Int) % 128 = (m : Int) := by omega
      rw [e1, if_neg (by omega), if_pos (by omega)] at h2
      have e2 : (pre ++ (grpH (m / 128) ++ [((128 + m % 128 : Nat) : Int)])).length = (pre ++ grpH (m / 128)).length + 1 := by simp only [List.length_append, List.length_singleton]; omega
      rw [e2]
      exact h2
theorem grp_scan (xs pre rest : List Int) (acc : List Int) (n : Nat) (hN : n ≤ 4294967375) (hx : xs = pre ++ grp n ++ rest) (h : rS xs pre.length = some (0, acc)) : rS xs (pre ++ grp n).length = some (0, oneR acc (n : Int)) := by
  unfold grp at hx ⊢
  have h1 := grpH_scan xs pre ([((n % 128 : Nat) : Int)] ++ rest) acc n hN (n / 128) (by omega) (by rw [hx]; simp only [List.append_assoc]) h
  have hat : xs.getD (pre ++ grpH (n / 128)).length 0 = ((n % 128 : Nat) : Int) := by
    rw [hx, ← List.append_assoc, List.append_assoc, getD_app_right (Nat.le_refl _), Nat.sub_self]
    rfl
  have h2 := rS_step xs _ _ _ h1
  rw [hat] at h2
  have e1 : ((n / 128 : Nat) : Int) * 128 + ((n % 128 : Nat) : Int) % 128 = (n : Int) := by omega
  rw [e1, if_neg (by omega), if_neg (by omega)] at h2
  have e2 : (pre ++ (grpH (n / 128) ++ [((n % 128 : Nat) : Int)])).length = (pre ++ grpH (n / 128)).length + 1 := by simp only [List.length_append, List.length_singleton]; omega
  rw [e2]
  exact h2
theorem take_two (l : List Int) (h : 2 ≤ l.length) : l.take 2 = [l.getD 0 0, l.getD 1 0] := by
  match l, h with
  | x :: y :: l, _ => rfl
theorem cS_scan {l : List Int} (hk : okL l = true) (hr : ∀ x ∈ l, 0 ≤ x ∧ x < 4294967296) (rest : List Int) : ∀ k, k + 2 ≤ l.length → ∀ xs, (∃ r, xs = cS9 l k ++ r) → rS xs (cS9 l k).length = some (0, l.take (k + 2))
  | 0, hl, xs, ⟨r, hx⟩ => by
    obtain ⟨q1, q2, q3, q4, q5⟩ := okL_true hk
    have r0 := getD_rngK (m := 4294967296) (by omega) hr 0
    have r1 := getD_rngK (m := 4294967296) (by omega) hr 1
    have h5 := q5 1 (by omega)
    have h := grp_scan xs [] r [] (40 * (l.getD 0 0).toNat + (l.getD 1 0).toNat) (by omega) hx rfl
    rw [List.nil_append] at h
    rw [take_two l q1]
    show rS xs (grp _).length = _
    rw [h]
    congr 2
    unfold oneR
    rw [if_neg (by simp)]
    have e : ((40 * (l.getD 0 0).toNat + (l.getD 1 0).toNat : Nat) : Int) = 40 * l.getD 0 0 + l.getD 1 0 := by omega
    rw [e]
    by_cases c0 : l.getD 0 0 = 0
    · rw [c0] at q4 ⊢
      have := q4 (by omega)
      rw [if_pos (by omega)]
      congr 2
      omega
    · by_cases c1 : l.getD 0 0 = 1
      · rw [c1] at q4 ⊢
        have := q4 (by omega)
        rw [if_neg (by omega), if_pos (by omega)]
        congr 2
        omega
      · have c2 : l.getD 0 0 = 2 := by omega
        rw [c2]
        rw [if_neg (by omega), if_neg (by omega)]
        congr 2
        omega
  | k + 1, hl, xs, ⟨r, hx⟩ => by
    obtain ⟨q1, q2, q3, q4, q5⟩ := okL_true hk
    have rk := getD_rngK (m := 4294967296) (by omega) hr (k + 2)
    have hx2 : xs = cS9 l k ++ grp (l.getD (k + 2) 0).toNat ++ r := hx
    have ih := cS_scan hk hr rest k (by omega) xs ⟨_, by rw [hx2, List.append_assoc]⟩
    have h := grp_scan xs (cS9 l k) r (l.take (k + 2)) (l.getD (k + 2) 0).toNat (by omega) hx2 ih
    show rS xs (cS9 l k ++ grp _).length = _
    rw [h]
    congr 2
    unfold oneR
    rw [if_pos (by rw [List.length_take]; omega)]
    have e : l.take (k + 1 + 2) = l.take (k + 2) ++ [l.getD (k + 2) 0] := by
      rw [show k + 1 + 2 = k + 2 + 1 by omega, List.take_add_one]
      simp [List.getD, show k + 2 < l.length by omega]
    rw [e]
    congr 2
    omega
theorem content_read {l : List Int} (hk : okL l = true) (hr : ∀ x ∈ l, 0 ≤ x ∧ x < 4294967296) : readL (contL l) = some l := by
  obtain ⟨q1, q2, _⟩ := okL_true hk
  have e : contL l = cS9 l (l.length - 2) := by unfold contL; rw [if_pos hk]
  have h := cS_scan hk hr [] (l.length - 2) (by omega) (contL l) ⟨[], by rw [e, List.append_nil]⟩
  rw [show l.length - 2 + 2 = l.length by omega, List.take_length, ← e] at h
  unfold readL
  rw [h]
  exact if_pos ⟨hk, rfl⟩
theorem read_content {xs l : List Int} (h : readL xs = some l) : contL l = xs ∧ okL l = true := by
  unfold readL at h
  split at h
  · cases h
  · split at h
    · rename_i hc
      injection h with h
      subst h
      exact ⟨hc.2, hc.1⟩
    · cases h
theorem read_nil : readL [] = none := by
  unfold readL
  have : rS [] ([] : List Int).length = some (0, []) := rfl
  rw [this]
  exact if_neg fun h => by have := h.1; revert this; decide
theorem contL_no {l : List Int} (h : okL l = false) : contL l = [] := by
  unfold contL
  rw [h]
  rfl
theorem contL_inj {a b : List Int} (ha : okL a = true) (hb : okL b = true) (hra : ∀ x ∈ a, 0 ≤ x ∧ x < 4294967296) (hrb : ∀ x ∈ b, 0 ≤ x ∧ x < 4294967296) (h : contL a = contL b) : a = b := by
  have h1 := content_read ha hra
  rw [h, content_read hb hrb] at h1
  injection h1 with h1
  exact h1.symm
theorem textS_inj {a b : List Int} (ha : okL a = true) (hb : okL b = true) (hra : ∀ x ∈ a, 0 ≤ x ∧ x < 4294967296) (hrb : ∀ x ∈ b, 0 ≤ x ∧ x < 4294967296) (h : textS a = textS b) : a = b := by
  have h1 := text_parse ha hra
  rw [h, text_parse hb hrb] at h1
  injection h1 with h1
  exact h1.symm

end Go.Proofs.YteflpbkdnebopaaGreatDoor

namespace Go.Proofs.YteflpbkdnebopaaGreatDoor
open Go.RowKit

end Go.Proofs.YteflpbkdnebopaaGreatDoor

namespace Go.Proofs.YteflpbkdnebopaaGreatDoor
open Go.RowKit
set_option linter.unusedVariables false

def Rng (l : List Int) : Prop := ∀ x ∈ l, 0 ≤ x ∧ x < 4294967296
/-- What a function of the program returns that finds numbers or none. -/
def POptK (o : Option (List Int)) (w : World) (e : Ending) (w' : World) : Prop :=
  match o with
  | none => ∃ A c, e = .returned (.tuple #[.slice A 0 c, .bool false]) ∧ SlK .u32 w' A 0 c [] ∧ Past w w'
  | some xs => ∃ A c, e = .returned (.tuple #[.slice A xs.length c, .bool true]) ∧ SlK .u32 w' A xs.length c xs ∧ Past w w'
def ContP (xs : List Int) (w : World) (e : Ending) (w' : World) : Prop := ∃ A c, e = .returned (.slice A xs.length c) ∧ Sl w' A xs.length c xs ∧ Past w w'

/-- What the library's variables hold that a run reads: the powers of ten, the two errors of strconv, the number internal/bytealg.MaxLen. -/
structure Glob (w : World) : Prop where
  tab : Lib.TabIs Tryz.prog w "internal/strconv.uint64pow10" .u64 Lib.pow10Tab
  syn : ∃ tp p, w.var? Tryz.prog "strconv.ErrSyntax" = some #[.iface tp p]
  ran : ∃ tp p, w.var? Tryz.prog "strconv.ErrRange" = some #[.iface tp p]
  mx : ∃ m, w.cell? ⟨7, 0, none⟩ = some (.int .i64 m)
theorem var_lt {w : World} {n : String} {g : Nat} {cs : Array Value} (hg : Tryz.prog.globalNamed n = some g) (h : w.var? Tryz.prog n = some cs) : g < w.heap.size := by
  unfold World.var? at h
  simp only [hg, Option.bind_some] at h
  rcases Nat.lt_or_ge g w.heap.size with h' | h'
  · exact h'
  · rw [Array.getElem?_eq_none h'] at h
    simp at h
theorem var_past {w w' : World} {n : String} {g : Nat} {cs : Array Value} (hg : Tryz.prog.globalNamed n = some g) (h : w.var? Tryz.prog n = some cs) (hp : Past w w') : w'.var? Tryz.prog n = some cs := var?_below hp hg (var_lt hg h) h
theorem Glob.past {w w' : World} (h : Glob w) (hp : Past w w') : Glob w' := by
  refine ⟨var_past (g := 8) (by kernel_rfl) h.tab hp, ?_, ?_, ?_⟩
  · obtain ⟨tp, p, h1⟩ := h.syn
    exact ⟨tp, p, var_past (g := 5) (by kernel_rfl) h1 hp⟩
  · obtain ⟨tp, p, h1⟩ := h.ran
    exact ⟨tp, p, var_past (g := 6) (by kernel_rfl) h1 hp⟩
  · obtain ⟨m, h1⟩ := h.mx
    exact ⟨m, (hp.cell (cell_lt h1)).trans h1⟩

def exS : ByteArray := ⟨#[50, 46, 49, 54, 46, 56, 52, 48, 46, 49, 46, 49, 48, 49, 46, 51, 46, 52, 46, 52, 46, 49]⟩
def ex9 : List Int := [2, 16, 840, 1, 101, 3, 4, 4, 1]
def exC : List Int := [96, 134, 72, 1, 101, 3, 4, 4, 1]
theorem ex_rng : Rng ex9 := by unfold Rng; decide
theorem ex_parse : parseL (ints exS) = some ex9 := by decide +kernel
theorem no_parse : parseL (ints ⟨#[49, 46, 52, 48]⟩) = none := by decide +kernel
theorem ex_ok : okL ex9 = true := by decide +kernel
theorem ex_text : textS ex9 = exS := (parse_text ex_parse).1
theorem ex_cont : contL ex9 = exC := by
  have e : contL ex9 = cS9 ex9 7 := by unfold contL; rw [ex_ok]; rfl
  rw [e]
  simp [cS9, ex9, exC, grp, grpH_pos, grpH_zero]
theorem ex_read : readL exC = some ex9 := by rw [← ex_cont]; exact content_read ex_ok ex_rng
theorem no_read : readL [96, 128, 1] = none := by
  have h : rS [96, 128, 1] ([96, 128, 1] : List Int).length = some (0, [2, 16, 1]) := by decide +kernel
  have e : contL [2, 16, 1] = [96, 1] := by
    have h1 : okL [2, 16, 1] = true := by decide +kernel
    have e1 : contL [2, 16, 1] = cS9 [2, 16, 1] 1 := by unfold contL; rw [h1]; rfl
    rw [e1]
    simp [cS9, grp, grpH_zero]
  unfold readL
  rw [h]
  exact if_neg fun hc => by rw [e] at hc; simp at hc
theorem ex_below : belowB ex9 [2, 16] = true := by decide +kernel
theorem no_below : belowB ex9 ex9 = false := by decide +kernel

end Go.Proofs.YteflpbkdnebopaaGreatDoor
