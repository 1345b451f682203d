/- The reference's reader: words about places. -/
import Derived.Test.YtoinjjnlgjakkaaDoorJs11E
import Derived.Test.YtoinjjnlgjakkaaDoorPg11J
namespace Go.Proofs.YtoinjjnlgjakkaaDoor
open Go.RowKit
set_option linter.unusedVariables false

theorem isB_yes {xs : List Int} {p : Nat} {c : Int} (h : isB xs p c = true) : p < xs.length ∧ xs.getD p 0 = c := of_decide_eq_true h
theorem isB_no {xs : List Int} {p : Nat} {c : Int} (h : isB xs p c = false) : p < xs.length → xs.getD p 0 ≠ c := fun hp e => of_decide_eq_false h ⟨hp, e⟩
/-- The bytes from one place to another one. -/
def seg (xs : List Int) (a b : Nat) : List Int := (xs.drop a).take (b - a)
theorem take_seg (xs : List Int) {a b : Nat} (h : a ≤ b) : xs.take b = xs.take a ++ seg xs a b := by
  unfold seg
  rw [← List.take_add]
  congr 1
  omega
theorem take_one11 {xs : List Int} {p : Nat} (h : p < xs.length) : xs.take (p + 1) = xs.take p ++ [xs.getD p 0] := by
  rw [List.take_succ_eq_append_getElem h, List.getD_eq_getElem?_getD, List.getElem?_eq_getElem h]
  rfl
theorem seg_mem {xs : List Int} {a b : Nat} {f : Int → Bool} (hb : b ≤ xs.length) (h : ∀ j, a ≤ j → j < b → f (xs.getD j 0) = true) : ∀ x ∈ seg xs a b, f x = true := by
  intro x hx
  unfold seg at hx
  obtain ⟨j, hj, rfl⟩ := List.getElem_of_mem hx
  rw [List.length_take, List.length_drop] at hj
  rw [List.getElem_take, List.getElem_drop]
  have := h (a + j) (by omega) (by omega)
  rwa [List.getD_eq_getElem?_getD, List.getElem?_eq_getElem (by omega)] at this
theorem seg_len {xs : List Int} {a b : Nat} (hb : b ≤ xs.length) : (seg xs a b).length = b - a := by
  unfold seg
  rw [List.length_take, List.length_drop]
  omega
theorem stB_cases (l : List P2) : stB l = 1 ∧ l = [] ∨ stB l = 2 ∧ l ≠ [] := by
  unfold stB
  cases l with
  | nil => exact .inl ⟨rfl, rfl⟩
  | cons p l => exact .inr ⟨rfl, by simp⟩
theorem stB_quote (l : List P2) : stp (stB l) 34 = some 3 := by
  rcases stB_cases l with ⟨h, _⟩ | ⟨h, _⟩ <;> rw [h] <;> rfl
theorem stB_no {l : List P2} {c : Int} (h : c ≠ 34) (h0 : l = [] → c ≠ 125) : stp (stB l) c = none := by
  rcases stB_cases l with ⟨h1, h2⟩ | ⟨h1, h2⟩
  · rw [h1]
    unfold stp
    simp [h, h0 h2]
  · rw [h1]
    unfold stp
    simp [h]
theorem stB_9 (l : List P2) : stB l ≠ 9 := by
  rcases stB_cases l with ⟨h, _⟩ | ⟨h, _⟩ <;> rw [h] <;> decide
/-- Between two pairs. -/
structure Hd (xs : List Int) (acc : List P2) (p : Nat) : Prop where
  loose : Loose acc
  pos : p = (preI acc).length
  pre : xs.take p = preI acc
  at' : At xs p (stB acc)
  first : acc = [] → isB xs 1 125 = false
/-- A name, from its first place on, up to a place. -/
structure Nm (xs : List Int) (a q : Nat) : Prop where
  ge : a ≤ q
  at' : At xs q (if q = a then 3 else 4)
  all : ∀ j, a ≤ j → j < q → letB (xs.getD j 0) = true
theorem Hd.stop {xs : List Int} {acc : List P2} {p : Nat} (h : Hd xs acc p) (hn : xs.length ≤ 1000000) (hq : isB xs p 34 = false) : readS xs 0 0 = (p, stB acc) := by
  refine h.at'.stop hn fun hp => stB_no (isB_no hq hp) fun h0 => ?_
  have h1 := h.first h0
  have hp1 : p = 1 := by rw [h.pos, h0]; rfl
  rw [hp1] at hp ⊢
  exact isB_no h1 hp
theorem Hd.name {xs : List Int} {acc : List P2} {p : Nat} (h : Hd xs acc p) (hq : isB xs p 34 = true) : Nm xs (p + 1) (p + 1) := by
  obtain ⟨h1, h2⟩ := isB_yes hq
  refine ⟨Nat.le_refl _, ?_, fun j h3 h4 => by omega⟩
  rw [if_pos rfl]
  exact h.at'.next h1 (by rw [h2]; exact stB_quote acc)
theorem Nm.next {xs : List Int} {a q : Nat} (h : Nm xs a q) (hq : q < xs.length) (hl : letB (xs.getD q 0) = true) : Nm xs a (q + 1) := by
  have hs : stp (if q = a then 3 else 4) (xs.getD q 0) = some 4 := by
    generalize xs.getD q 0 = x at hl ⊢
    split
    · unfold stp
      simp [hl]
    · unfold stp
      simp [hl, letB_ne hl]
  refine ⟨by have := h.ge; omega, ?_, fun j h1 h2 => ?_⟩
  · rw [if_neg (by have := h.ge; omega)]
    exact h.at'.next hq hs
  · by_cases hj : j = q
    · rw [hj]; exact hl
    · exact h.all j h1 (by omega)
/-- Where the letters end. -/
def NmEnd (xs : List Int) (q : Nat) : Prop := q < xs.length → letB (xs.getD q 0) = false
theorem Nm.stop {xs : List Int} {a q : Nat} (h : Nm xs a q) (hn : xs.length ≤ 1000000) (he : NmEnd xs q) (hq : q = a ∨ isB xs q 34 = false) : ∃ s, readS xs 0 0 = (q, s) ∧ s ≠ 9 := by
  refine ⟨if q = a then 3 else 4, h.at'.stop hn fun hp => ?_, by split <;> decide⟩
  have hl := he hp
  have hm : q ≠ a → xs.getD q 0 ≠ 34 := fun hne => isB_no (hq.resolve_left hne) hp
  generalize xs.getD q 0 = x at hl hm ⊢
  split
  · unfold stp
    simp [hl]
  · rename_i hne
    have := hm hne
    unfold stp
    simp [hl, this]
theorem Nm.done {xs : List Int} {a q : Nat} (h : Nm xs a q) (hqa : q ≠ a) (hq : isB xs q 34 = true) : At xs (q + 1) 5 := by
  obtain ⟨h1, h2⟩ := isB_yes hq
  have h3 := h.at'
  rw [if_neg hqa] at h3
  exact h3.next h1 (by rw [h2]; rfl)
theorem at_stop {xs : List Int} {p s : Nat} {c : Int} (h : At xs p s) (hn : xs.length ≤ 1000000) (hs : ∀ x, x ≠ c → stp s x = none) (hq : isB xs p c = false) : readS xs 0 0 = (p, s) :=
  h.stop hn fun hp => hs _ (isB_no hq hp)
theorem at_next {xs : List Int} {p s t : Nat} {c : Int} (h : At xs p s) (hs : stp s c = some t) (hq : isB xs p c = true) : At xs (p + 1) t := by
  obtain ⟨h1, h2⟩ := isB_yes hq
  exact h.next h1 (by rw [h2]; exact hs)
theorem s5_no (x : Int) (h : x ≠ 58) : stp 5 x = none := by unfold stp; simp [h]
theorem s6_no (x : Int) (h : x ≠ 34) : stp 6 x = none := by unfold stp; simp [h]
/-- A value, from its first place on, up to a place. -/
structure Vl (xs : List Int) (a q : Nat) : Prop where
  ge : a ≤ q
  at' : At xs q 7
  all : ∀ j, a ≤ j → j < q → plainB (xs.getD j 0) = true
theorem Vl.start {xs : List Int} {a : Nat} (h : At xs a 7) : Vl xs a a := ⟨Nat.le_refl _, h, fun j h1 h2 => by omega⟩
theorem Vl.next {xs : List Int} {a q : Nat} (h : Vl xs a q) (hq : q < xs.length) (hl : plainB (xs.getD q 0) = true) : Vl xs a (q + 1) := by
  have hs : stp 7 (xs.getD q 0) = some 7 := by
    generalize xs.getD q 0 = x at hl ⊢
    unfold stp
    simp [hl, plainB_ne hl]
  refine ⟨by have := h.ge; omega, h.at'.next hq hs, fun j h1 h2 => ?_⟩
  by_cases hj : j = q
  · rw [hj]; exact hl
  · exact h.all j h1 (by omega)
def VlEnd (xs : List Int) (q : Nat) : Prop := q < xs.length → plainB (xs.getD q 0) = false
theorem Vl.stop {xs : List Int} {a q : Nat} (h : Vl xs a q) (hn : xs.length ≤ 1000000) (he : VlEnd xs q) (hq : isB xs q 34 = false) : readS xs 0 0 = (q, 7) := by
  refine h.at'.stop hn fun hp => ?_
  have hl := he hp
  have := isB_no hq hp
  generalize xs.getD q 0 = x at hl this ⊢
  unfold stp
  simp [hl, this]
theorem s8_no {xs : List Int} {p : Nat} (h : At xs p 8) (hn : xs.length ≤ 1000000) (h1 : isB xs p 125 = false) (h2 : isB xs p 44 = false) : readS xs 0 0 = (p, 8) := by
  refine h.stop hn fun hp => ?_
  have a1 := isB_no h1 hp
  have a2 := isB_no h2 hp
  generalize xs.getD p 0 = x at a1 a2 ⊢
  unfold stp
  simp [a1, a2]
/-- The pair that has been read. -/
def prAt (xs : List Int) (p q e : Nat) : P2 := (txt (seg xs (p + 1) q), txt (seg xs (q + 3) e))
theorem pr_facts {xs : List Int} {acc : List P2} {p q e : Nat} (h : Hd xs acc p) (h0 : isB xs p 34 = true) (hn : Nm xs (p + 1) q) (hqa : q ≠ p + 1) (h1 : isB xs q 34 = true) (h2 : isB xs (q + 1) 58 = true) (h3 : isB xs (q + 2) 34 = true) (hv : Vl xs (q + 3) e) (h4 : isB xs e 34 = true) :
    looseP (prAt xs p q e) ∧ xs.take (e + 1) = preI acc ++ pI (prAt xs p q e) := by
  obtain ⟨a0, b0⟩ := isB_yes h0
  obtain ⟨a1, b1⟩ := isB_yes h1
  obtain ⟨a2, b2⟩ := isB_yes h2
  obtain ⟨a3, b3⟩ := isB_yes h3
  obtain ⟨a4, b4⟩ := isB_yes h4
  have m1 := seg_mem (f := letB) (a := p + 1) (b := q) (by omega) hn.all
  have m2 := seg_mem (f := plainB) (a := q + 3) (b := e) (by omega) hv.all
  have e1 : ints (txt (seg xs (p + 1) q)) = seg xs (p + 1) q := ints_txt fun x hx => letB_rng (m1 x hx)
  have e2 : ints (txt (seg xs (q + 3) e)) = seg xs (q + 3) e := ints_txt fun x hx => plainB_rng (m2 x hx)
  refine ⟨⟨?_, ?_, ?_⟩, ?_⟩
  · show 0 < (txt (seg xs (p + 1) q)).size
    rw [txt_size, seg_len (by omega)]
    have := hn.ge
    omega
  · show ∀ x ∈ ints (txt (seg xs (p + 1) q)), _
    rw [e1]
    exact m1
  · show ∀ x ∈ ints (txt (seg xs (q + 3) e)), _
    rw [e2]
    exact m2
  · have g1 := hn.ge
    have g2 := hv.ge
    rw [take_one11 a4, b4, take_seg xs g2, take_one11 a3, b3, take_one11 a2, b2, take_one11 a1, b1, take_seg xs g1, take_one11 a0, b0, h.pre]
    unfold pI prAt
    simp only [e1, e2]
    simp
/-- Behind a comma. -/
theorem hd_next {xs : List Int} {acc : List P2} {pr : P2} {p e : Nat} (h : Hd xs acc p) (hp : looseP pr) (ht : xs.take (e + 1) = preI acc ++ pI pr) (h8 : At xs (e + 1) 8) (hc : isB xs (e + 1) 44 = true) : Hd xs (acc ++ [pr]) (e + 2) := by
  obtain ⟨a1, b1⟩ := isB_yes hc
  have ht2 : xs.take (e + 2) = preI (acc ++ [pr]) := by rw [take_one11 a1, b1, ht, preI_snoc]
  refine ⟨fun q hq => (List.mem_append.1 hq).elim (h.loose q) fun hq => by rw [List.mem_singleton.1 hq]; exact hp, ?_, ht2, ?_, fun h0 => by simp at h0⟩
  · rw [← ht2, List.length_take]
    omega
  · have hs : stB (acc ++ [pr]) = 2 := by
      unfold stB
      simp
    rw [hs]
    exact at_next h8 rfl hc
/-- Behind the last bracket. -/
theorem hd_last {xs : List Int} {acc : List P2} {pr : P2} {e : Nat} (hn : xs.length ≤ 1000000) (ht : xs.take (e + 1) = preI acc ++ pI pr) (h8 : At xs (e + 1) 8) (hc : isB xs (e + 1) 125 = true) : xs.take (e + 2) = textI (acc ++ [pr]) ∧ readS xs 0 0 = (e + 2, 9) := by
  obtain ⟨a1, b1⟩ := isB_yes hc
  refine ⟨by rw [take_one11 a1, b1, ht, textI_snoc], ?_⟩
  exact (at_next h8 rfl hc).stop hn fun _ => stp9 _
theorem hd_start {xs : List Int} (h0 : isB xs 0 123 = true) (h1 : isB xs 1 125 = false) : Hd xs [] 1 := by
  obtain ⟨a0, b0⟩ := isB_yes h0
  refine ⟨fun p hp => (by cases hp), rfl, by rw [take_one11 a0, b0]; rfl, ?_, fun _ => h1⟩
  exact at_next (At.start xs) rfl h0
theorem rd_none {xs : List Int} (hn : xs.length ≤ 1000000) (h0 : isB xs 0 123 = false) : readS xs 0 0 = (0, 0) :=
  at_stop (At.start xs) hn (fun x h => by unfold stp; simp [h]) h0
theorem rd_empty {xs : List Int} (hn : xs.length ≤ 1000000) (h0 : isB xs 0 123 = true) (h1 : isB xs 1 125 = true) : readS xs 0 0 = (2, 9) ∧ xs.take 2 = textI [] := by
  obtain ⟨a0, b0⟩ := isB_yes h0
  obtain ⟨a1, b1⟩ := isB_yes h1
  refine ⟨(at_next (at_next (At.start xs) (t := 1) rfl h0) (t := 9) rfl h1).stop hn fun _ => stp9 _, ?_⟩
  rw [take_one11 a1, take_one11 a0, b0, b1]
  rfl

end Go.Proofs.YtoinjjnlgjakkaaDoor
