/- What the program's package hash hands back, in the words of the reference; a list of parts that is told of few or of too many; the fixed results. -/
import Derived.Test.YtamgbkadiobklaaJoin7
import Derived.Test.YtamgbkadiobklaaHZ
import Derived.Test.YtamgbkadiobklaaEq
namespace Go.Proofs.Ytamgbkadiobklaa
open Go.RowKit

/-- The hash with n bytes, and a part of an output. -/
def hsh (xs : List Int) (R : Nat) (s : Int) (n : Nat) : Array Value := arr .u8 n (rout (rstate xs R s) R)
def outp (S : Nat → Lane) (R k n : Nat) : List Int := bl (fun j => rout S R (k + j)) n
theorem outp_len (S : Nat → Lane) (R k n : Nat) : (outp S R k n).length = n := bl_len _ _
theorem outp_rng (S : Nat → Lane) (R k n : Nat) : ∀ x ∈ outp S R k n, 0 ≤ x ∧ x < 256 := bl_rng _ _ fun j => rout_rng S R (k + j)

/-- What Next does: the stream lies in block g; the bytes are new memory. -/
def Nexts (g : Nat) (St : World → Nat → Prop) (xs : List Int) (k N : Nat) (w : World) (e : Ending) (w' : World) : Prop :=
  ∃ A c, e = .returned (.slice A N c) ∧ w'.ownsRow w.heap.size 5 1 (.slice A N c) N (xs.map (Value.int .u8)) ∧ w.grownBy w' (some g) ∧ St w' (k + N)
def Outs (xs : List Int) (N : Nat) (w : World) (e : Ending) (w' : World) : Prop := ∃ A c, e = .returned (.slice A N c) ∧ Sl w' A N c xs ∧ Past w w'
def News (St : World → Nat → Prop) (w : World) (e : Ending) (w' : World) : Prop := ∃ g, e = .returned (.pointer (some ⟨g, 0, none⟩)) ∧ w.heap.size ≤ g ∧ St w' g ∧ Past w w'

structure Prog7 where
  /-- A stream in block g: its rate, the state behind its input, and how many bytes have been read. -/
  St : Nat → Nat → (Nat → Lane) → World → Nat → Prop
  lt : ∀ {g R S w k}, St g R S w k → g < w.heap.size
  keep : ∀ {g R S w w' k}, St g R S w k → w'.heap[g]? = w.heap[g]? → St g R S w' k
  sha256 : ∀ P n c V C X w, Sls w P n c V C X → n ≤ 1000 → (cat X n).length ≤ 1000 → Calls Try.prog 10 #[.slice P n c] w fun e w' => e = .returned (.agg (hsh (cat X n) 136 6 32)) ∧ Past w w'
  sha512 : ∀ P n c V C X w, Sls w P n c V C X → n ≤ 1000 → (cat X n).length ≤ 1000 → Calls Try.prog 11 #[.slice P n c] w fun e w' => e = .returned (.agg (hsh (cat X n) 72 6 64)) ∧ Past w w'
  shake128 : ∀ (N : Int) P n c V C X w, Sls w P n c V C X → n ≤ 1000 → (cat X n).length ≤ 1000 → N ≤ 1000 → Calls Try.prog 15 #[.int .i64 N, .slice P n c] w (Outs (bl (rout (rstate (cat X n) 168 31) 168) N.toNat) N.toNat w)
  shake256 : ∀ (N : Int) P n c V C X w, Sls w P n c V C X → n ≤ 1000 → (cat X n).length ≤ 1000 → N ≤ 1000 → Calls Try.prog 17 #[.int .i64 N, .slice P n c] w (Outs (bl (rout (rstate (cat X n) 136 31) 136) N.toNat) N.toNat w)
  new128 : ∀ P n c V C X w, Sls w P n c V C X → n ≤ 1000 → (cat X n).length ≤ 1000 → Calls Try.prog 19 #[.slice P n c] w (News (fun w' g => St g 168 (rstate (cat X n) 168 31) w' 0) w)
  new256 : ∀ P n c V C X w, Sls w P n c V C X → n ≤ 1000 → (cat X n).length ≤ 1000 → Calls Try.prog 20 #[.slice P n c] w (News (fun w' g => St g 136 (rstate (cat X n) 136 31) w' 0) w)
  next : ∀ g R S k (N : Int) w, R = 168 ∨ R = 136 → St g R S w k → k ≤ 10000 → N ≤ 1000 → Calls Try.prog 21 #[.pointer (some ⟨g, 0, none⟩), .int .i64 N] w (Nexts g (St g R S) (outp S R k N.toNat) k N.toNat w)
  nextNil : ∀ (N : Int) w, Calls Try.prog 21 #[.pointer none, .int .i64 N] w fun e w' => e = .returned (.slice none 0 0) ∧ Past w w'
  blocks : ∀ g R S k w, R = 168 ∨ R = 136 → St g R S w k → Calls Try.prog 22 #[.pointer (some ⟨g, 0, none⟩)] w fun e w' => e = .returned (.int .i64 (((k - 1) / R : Nat) : Int)) ∧ Past w w'
  blocksNil : ∀ w, Calls Try.prog 22 #[.pointer none] w fun e w' => e = .returned (.int .i64 0) ∧ Past w w'

theorem Prog7.past (H : Prog7) {g R S w w' k} (h : H.St g R S w k) (hp : Past w w') : H.St g R S w' k := H.keep h (hp.block g (H.lt h))
theorem Prog7.grown (H : Prog7) {g R S w w' k} {row : Option Nat} (h : H.St g R S w k) (hp : w.grownBy w' row) (hne : some g ≠ row) : H.St g R S w' k := H.keep h (hp.block g (H.lt h) hne)
theorem Prog7.set (H : Prog7) {g R S w k} {p : Addr} {v : Value} (h : H.St g R S w k) (hne : p.block ≠ g) : H.St g R S (w.setCell p v) k :=
  H.keep h (by simp [World.setCell, Array.getElem?_modify, hne])

theorem sls_nil (w : World) : Sls w none 0 0 (fun _ => none) (fun _ => 0) (fun _ => []) := ⟨Nat.le_refl _, Nat.zero_le _, fun _ => rfl, fun h => absurd h (Nat.lt_irrefl 0)⟩
theorem Sls.one (w : World) (e : TypeId) {A : Option Addr} {n c : Nat} {xs : List Int} (h : Sl w A n c xs) : Sls (w.alloc (.cells #[.slice A n c] e)) (some ⟨w.heap.size, 0, none⟩) 1 1 (fun _ => A) (fun _ => c) (fun _ => xs) := by
  refine ⟨Nat.le_refl _, by unfold maxLen; omega, (fun e => by cases e), fun _ => ⟨w.heap.size, 0, rfl, fun i hi => ?_⟩⟩
  obtain rfl : i = 0 := by omega
  refine ⟨?_, ?_⟩
  · rw [(Row.new w e #[.slice A n c]).cell, h.len]
    rfl
  · rw [h.len]
    exact h.past (past_alloc6 _ _)
theorem cat_one (xs : List Int) : cat (fun _ => xs) 1 = xs := by simp [cat, List.range, List.range.loop]

theorem zero32 (w : World) : (zeroValue 27).run Try.prog w = .ok (.agg (arr .u8 32 fun _ => 0)) w := by kernel_rfl
theorem zero64 (w : World) : (zeroValue 29).run Try.prog w = .ok (.agg (arr .u8 64 fun _ => 0)) w := by kernel_rfl

theorem few_yes (P : Option Addr) (n c : Nat) (V : Nat → Option Addr) (C : Nat → Nat) (X : Nat → List Int) (w : World) (h : Sls w P n c V C X) (hn : n ≤ 20) (hlen : (cat X n).length ≤ 1000) :
    Calls Try.prog 8 #[.slice P n c] w fun e w' => ∃ A d, e = .returned (.tuple #[.slice A (cat X n).length d, .bool true]) ∧ Sl w' A (cat X n).length d (cat X n) ∧ Past w w' := by
  have HJ := Lib.hid (rjoin_any P n c V C X w h (by omega) (by omega))
  have hr := Lib.hid (cat_rng X n (Sls.rng h))
  clear h
  generalize cat X n = xs at *
  generalize hm : xs.length = m at *
  have HM := Lib.hid hm
  clear hm
  go_enter Try.func8, Try.ntmps8
  go_wp2_with fail
  refine HJ.out.mono ?_
  rintro e w1 ⟨A, d, rfl, ho, hp⟩
  rw [HM.out] at ho ⊢
  have hb : decide ((m : Int) ≤ 1000) = true := by simp; omega
  have HS := Lib.hid (Sl.of_own ho hr.out)
  have HP := Lib.hid hp
  clear ho hp
  go_wp2_with fail
  go_ret2
  exact ⟨A, d, rfl, HS.out, HP.out⟩
theorem few_no (P : Option Addr) (n c : Nat) (V : Nat → Option Addr) (C : Nat → Nat) (X : Nat → List Int) (w : World) (h : Sls w P n c V C X) (hl : (cat X n).length ≤ 140737488355328) (hno : 20 < n ∨ 1000 < (cat X n).length) :
    Calls Try.prog 8 #[.slice P n c] w fun e w' => ∃ v, e = .returned (.tuple #[v, .bool false]) ∧ Past w w' := by
  have hcp := h.cap
  have hcm := h.big
  unfold maxLen at hcm
  by_cases hn : 20 < n
  · clear h hl hno
    go_enter Try.func8, Try.ntmps8
    go_wp2_with fail
    go_ret2
    exact ⟨_, rfl, Below.refl _ _⟩
  · have HJ := Lib.hid (rjoin_any P n c V C X w h (by omega) hl)
    have hlo : 1000 < (cat X n).length := by omega
    clear h hno
    generalize cat X n = xs at *
    go_enter Try.func8, Try.ntmps8
    go_wp2_with fail
    refine HJ.out.mono ?_
    rintro e w1 ⟨A, d, rfl, _, hp⟩
    have HP := Lib.hid hp
    clear hp HJ
    generalize xs.length = m at *
    have hb : decide ((m : Int) ≤ 1000) = false := by simp; omega
    go_wp2_with fail
    go_ret2
    exact ⟨_, rfl, HP.out⟩

theorem Sl.lit4 (w : World) (a b c d : Int) (ha : 0 ≤ a ∧ a < 256) (hb : 0 ≤ b ∧ b < 256) (hc : 0 ≤ c ∧ c < 256) (hd : 0 ≤ d ∧ d < 256) : Sl (w.alloc (.cells #[.int .u8 a, .int .u8 b, .int .u8 c, .int .u8 d] 5)) (some ⟨w.heap.size, 0, none⟩) 4 4 [a, b, c, d] :=
  Sl.of_own (World.ownsRow_lit w #[.int .u8 a, .int .u8 b, .int .u8 c, .int .u8 d] 4 (Nat.le_refl _) (by unfold maxLen; omega) rfl) (by
    intro x hx
    simp at hx
    omega)
theorem bl4 (f : Nat → Int) : bl f 4 = [f 0, f 1, f 2, f 3] := rfl

end Go.Proofs.Ytamgbkadiobklaa
