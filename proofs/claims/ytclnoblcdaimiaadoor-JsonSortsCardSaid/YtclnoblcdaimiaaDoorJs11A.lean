/- The reader of package json as a plain function on lists of bytes; what it accepts is the text of pairs. -/
import Derived.Test.YtclnoblcdaimiaaDoorTx11
namespace Go.Proofs.YtclnoblcdaimiaaDoor
open Go.RowKit
set_option linter.unusedVariables false

/-- The state after a byte, if it may come there. -/
def stp (s : Nat) (c : Int) : Option Nat :=
  if s = 0 then (if c = 123 then some 1 else none)
  else if s = 1 then (if c = 125 then some 9 else if c = 34 then some 3 else none)
  else if s = 2 then (if c = 34 then some 3 else none)
  else if s = 3 then (if letB c = true then some 4 else none)
  else if s = 4 then (if c = 34 then some 5 else if letB c = true then some 4 else none)
  else if s = 5 then (if c = 58 then some 6 else none)
  else if s = 6 then (if c = 34 then some 7 else none)
  else if s = 7 then (if c = 34 then some 8 else if plainB c = true then some 7 else none)
  else if s = 8 then (if c = 44 then some 2 else if c = 125 then some 9 else none)
  else none
theorem letB_34 : letB 34 = false := by decide
theorem plainB_34 : plainB 34 = false := by decide
theorem stp_le {s t : Nat} {c : Int} (h : stp s c = some t) : t ≤ 9 := by
  unfold stp at h
  repeat' split at h
  all_goals first | (injection h with h; omega) | cases h
theorem stp9 (c : Int) : stp 9 c = none := by
  unfold stp
  simp
/-- The least number of bytes that are missing in a state. -/
def restL : List Nat := [2, 1, 7, 6, 5, 4, 3, 2, 1, 0]
def restN (s : Nat) : Nat := restL.getD s 0
theorem restN_le (s : Nat) : restN s ≤ 7 := by
  unfold restN
  by_cases h : s < 10
  · have : ∀ k : Fin 10, restL.getD k.1 0 ≤ 7 := by decide
    exact this ⟨s, h⟩
  · rw [List.getD_eq_getElem?_getD, List.getElem?_eq_none (by show 10 ≤ s; omega)]
    exact Nat.zero_le _
/-- The bytes that are read, and the state behind them. -/
def readS : List Int → Nat → Nat → Nat × Nat
  | [], i, s => (i, s)
  | c :: cs, i, s => match stp s c with
    | none => (i, s)
    | some t => if 1048576 < i + 1 + restN t then (i, s) else readS cs (i + 1) t
theorem readS_none {s : Nat} {c : Int} (h : stp s c = none) (cs : List Int) (i : Nat) : readS (c :: cs) i s = (i, s) := by
  show (match stp s c with | none => (i, s) | some t => _) = _
  rw [h]
theorem readS_some {s t : Nat} {c : Int} (h : stp s c = some t) (cs : List Int) (i : Nat) (hi : i + 1 + restN t ≤ 1048576) : readS (c :: cs) i s = readS cs (i + 1) t := by
  show (match stp s c with | none => (i, s) | some t => if 1048576 < i + 1 + restN t then (i, s) else readS cs (i + 1) t) = _
  rw [h]
  exact if_neg (by omega)
theorem readS_long {s t : Nat} {c : Int} (h : stp s c = some t) (cs : List Int) (i : Nat) (hi : 1048576 < i + 1 + restN t) : readS (c :: cs) i s = (i, s) := by
  show (match stp s c with | none => (i, s) | some t => if 1048576 < i + 1 + restN t then (i, s) else readS cs (i + 1) t) = _
  rw [h]
  exact if_pos hi
/-- The state behind all bytes. -/
def run : Nat → List Int → Option Nat
  | s, [] => some s
  | s, c :: cs => match stp s c with
    | none => none
    | some t => run t cs
theorem run_cons (s : Nat) (c : Int) (cs : List Int) : run s (c :: cs) = (stp s c).bind fun t => run t cs := by
  show (match stp s c with | none => none | some t => run t cs) = _
  cases stp s c <;> rfl
theorem run_app : ∀ (a b : List Int) (s : Nat), run s (a ++ b) = (run s a).bind fun t => run t b
  | [], b, s => rfl
  | c :: a, b, s => by
    rw [List.cons_append, run_cons, run_cons]
    cases stp s c with
    | none => rfl
    | some t => exact run_app a b t
theorem run_snoc (a : List Int) (c : Int) (s : Nat) : run s (a ++ [c]) = (run s a).bind fun t => stp t c := by
  rw [run_app]
  cases run s a with
  | none => rfl
  | some t =>
    show run t [c] = stp t c
    rw [run_cons]
    cases stp t c <;> rfl
/-- What is read of a string that begins with what may be read. -/
theorem readS_app : ∀ (a b : List Int) (i s t : Nat), run s a = some t → i + a.length + 7 ≤ 1048576 → readS (a ++ b) i s = readS b (i + a.length) t
  | [], b, i, s, t, h, _ => by
    injection h with h
    subst h
    rfl
  | c :: a, b, i, s, t, h, hi => by
    rw [run_cons] at h
    cases hs : stp s c with
    | none => rw [hs] at h; cases h
    | some u =>
      rw [hs] at h
      rw [List.length_cons] at hi ⊢
      rw [List.cons_append, readS_some hs _ _ (by have := restN_le u; omega), readS_app a b (i + 1) u t h (by omega)]
      congr 1
      omega
theorem readS_ge : ∀ (a : List Int) (i s : Nat), i ≤ (readS a i s).1 ∧ (readS a i s).1 ≤ i + a.length
  | [], i, s => ⟨Nat.le_refl _, Nat.le_refl _⟩
  | c :: a, i, s => by
    cases hs : stp s c with
    | none => rw [readS_none hs]; exact ⟨Nat.le_refl _, Nat.le_add_right _ _⟩
    | some t =>
      by_cases hl : 1048576 < i + 1 + restN t
      · rw [readS_long hs _ _ hl]; exact ⟨Nat.le_refl _, Nat.le_add_right _ _⟩
      · rw [readS_some hs _ _ (by omega)]
        have := readS_ge a (i + 1) t
        rw [List.length_cons]
        omega
/-- What has been read can be read. -/
theorem readS_run : ∀ (a : List Int) (i s k t : Nat), readS a i s = (k, t) → run s (a.take (k - i)) = some t
  | [], i, s, k, t, h => by
    injection h with h1 h2
    subst h1 h2
    rw [Nat.sub_self]
    rfl
  | c :: a, i, s, k, t, h => by
    cases hs : stp s c with
    | none =>
      rw [readS_none hs] at h
      injection h with h1 h2
      subst h1 h2
      rw [Nat.sub_self]
      rfl
    | some u =>
      by_cases hl : 1048576 < i + 1 + restN u
      · rw [readS_long hs _ _ hl] at h
        injection h with h1 h2
        subst h1 h2
        rw [Nat.sub_self]
        rfl
      · rw [readS_some hs _ _ (by omega)] at h
        have hg := (readS_ge a (i + 1) u).1
        rw [h] at hg
        have hg' : i + 1 ≤ k := hg
        have := readS_run a (i + 1) u k t h
        rw [show k - i = (k - (i + 1)) + 1 by omega, List.take_succ_cons, run_cons, hs]
        exact this

/-- A place in a string up to which all may be read, and the state there. -/
structure At (xs : List Int) (p s : Nat) : Prop where
  le : p ≤ xs.length
  run : run 0 (xs.take p) = some s
theorem At.start (xs : List Int) : At xs 0 0 := ⟨Nat.zero_le _, rfl⟩
theorem At.next {xs : List Int} {p s t : Nat} (h : At xs p s) (hp : p < xs.length) (hs : stp s (xs.getD p 0) = some t) : At xs (p + 1) t := by
  refine ⟨hp, ?_⟩
  have e : xs.take (p + 1) = xs.take p ++ [xs.getD p 0] := by
    rw [List.take_succ_eq_append_getElem hp, List.getD_eq_getElem?_getD, List.getElem?_eq_getElem hp]
    rfl
  rw [e, run_snoc, h.run]
  exact hs
theorem At.stop {xs : List Int} {p s : Nat} (h : At xs p s) (hn : xs.length ≤ 1000000) (hs : p < xs.length → stp s (xs.getD p 0) = none) : readS xs 0 0 = (p, s) := by
  have e : xs = xs.take p ++ xs.drop p := (List.take_append_drop p xs).symm
  have hl : (xs.take p).length = p := by rw [List.length_take]; have := h.le; omega
  rw [e, readS_app _ _ _ _ s h.run (by have := h.le; omega), hl, Nat.zero_add]
  by_cases hp : p < xs.length
  · have ed : xs.drop p = xs.getD p 0 :: xs.drop (p + 1) := by
      rw [List.drop_eq_getElem_cons hp, List.getD_eq_getElem?_getD, List.getElem?_eq_getElem hp]
      rfl
    rw [ed]
    exact readS_none (hs hp) _ _
  · rw [List.drop_of_length_le (by omega)]
    rfl

theorem snoc_ind {α : Type} {P : List α → Prop} (h0 : P []) (hs : ∀ l a, P l → P (l ++ [a])) (l : List α) : P l := by
  have h : ∀ r : List α, P r.reverse := by
    intro r
    induction r with
    | nil => exact h0
    | cons a r ih =>
      rw [List.reverse_cons]
      exact hs _ _ ih
  have := h l.reverse
  rwa [List.reverse_reverse] at this

/-! ### The text of pairs -/
def pI (p : P2) : List Int := 34 :: (ints p.1 ++ [34, 58, 34] ++ ints p.2 ++ [34])
def preI (l : List P2) : List Int := 123 :: l.flatMap fun p => pI p ++ [44]
/-- The text of the pairs before the last one, the last one and the end. -/
def textI (l : List P2) : List Int := match l.getLast? with
  | none => [123, 125]
  | some p => preI l.dropLast ++ pI p ++ [125]
theorem textI_snoc (l : List P2) (p : P2) : textI (l ++ [p]) = preI l ++ pI p ++ [125] := by
  unfold textI
  rw [List.getLast?_append, List.dropLast_concat]
  rfl
theorem preI_snoc (l : List P2) (p : P2) : preI (l ++ [p]) = preI l ++ pI p ++ [44] := by
  unfold preI
  rw [List.flatMap_append]
  simp
theorem pI_len (p : P2) : (pI p).length = 5 + p.1.size + p.2.size := by
  unfold pI
  simp [ints_len]
  omega
/-- Names and values as they are read. -/
def looseP (p : P2) : Prop := 0 < p.1.size ∧ (∀ x ∈ ints p.1, letB x = true) ∧ ∀ x ∈ ints p.2, plainB x = true
def Loose (l : List P2) : Prop := ∀ p ∈ l, looseP p
theorem letB_ne {x : Int} (h : letB x = true) : x ≠ 34 := by
  rintro rfl
  rw [letB_34] at h
  cases h
theorem plainB_ne {x : Int} (h : plainB x = true) : x ≠ 34 := by
  rintro rfl
  rw [plainB_34] at h
  cases h
theorem run_letters : ∀ (a : List Int), (∀ x ∈ a, letB x = true) → run 4 a = some 4
  | [], _ => rfl
  | c :: a, h => by
    have hc := h c (List.mem_cons_self ..)
    have hs : stp 4 c = some 4 := by
      unfold stp
      simp [hc, letB_ne hc]
    rw [run_cons, hs]
    exact run_letters a fun x hx => h x (List.mem_cons_of_mem _ hx)
theorem run_name {a : List Int} (h0 : 0 < a.length) (h : ∀ x ∈ a, letB x = true) : run 3 a = some 4 := by
  cases a with
  | nil => cases h0
  | cons c a =>
    have hc := h c (List.mem_cons_self ..)
    have hs : stp 3 c = some 4 := by
      unfold stp
      simp [hc]
    rw [run_cons, hs]
    exact run_letters a fun x hx => h x (List.mem_cons_of_mem _ hx)
theorem run_value : ∀ (a : List Int), (∀ x ∈ a, plainB x = true) → run 7 a = some 7
  | [], _ => rfl
  | c :: a, h => by
    have hc := h c (List.mem_cons_self ..)
    have hs : stp 7 c = some 7 := by
      unfold stp
      simp [hc, plainB_ne hc]
    rw [run_cons, hs]
    exact run_value a fun x hx => h x (List.mem_cons_of_mem _ hx)
theorem run_pair {s : Nat} (hs : s = 1 ∨ s = 2) {p : P2} (h : looseP p) : run s (pI p) = some 8 := by
  have h1 : stp s 34 = some 3 := by rcases hs with rfl | rfl <;> rfl
  unfold pI
  rw [run_cons, h1]
  show run 3 _ = _
  rw [run_app, run_app, run_app, run_name (by rw [ints_len]; exact h.1) h.2.1]
  show ((run 7 (ints p.2)).bind fun t => run t [34]) = some 8
  rw [run_value _ h.2.2]
  rfl
/-- The state in which the next pair begins. -/
def stB (l : List P2) : Nat := if l.isEmpty then 1 else 2
theorem run_pre (l : List P2) : Loose l → run 0 (preI l) = some (stB l) := by
  induction l using snoc_ind with
  | h0 => intro _; rfl
  | hs l p ih =>
    intro h
    have hl := ih fun q hq => h q (List.mem_append_left _ hq)
    have hs : stB l = 1 ∨ stB l = 2 := by
      unfold stB
      split
      · exact .inl rfl
      · exact .inr rfl
    rw [preI_snoc, run_app, run_app, hl]
    show ((run (stB l) (pI p)).bind fun t => run t [44]) = _
    rw [run_pair hs (h p (by simp))]
    unfold stB
    simp
    rfl
theorem run_text (l : List P2) (h : Loose l) : run 0 (textI l) = some 9 := by
  induction l using snoc_ind with
  | h0 => rfl
  | hs l p =>
    have hl := run_pre l fun q hq => h q (List.mem_append_left _ hq)
    have hs : stB l = 1 ∨ stB l = 2 := by
      unfold stB
      split
      · exact .inl rfl
      · exact .inr rfl
    rw [textI_snoc, run_app, run_app, hl]
    show ((run (stB l) (pI p)).bind fun t => run t [125]) = _
    rw [run_pair hs (h p (by simp))]
    rfl

/-! ### What is accepted is the text of pairs -/
theorem acc9 {xs : List Int} (h : run 9 xs = some 9) : xs = [] := by
  cases xs with
  | nil => rfl
  | cons c xs =>
    rw [run_cons, stp9] at h
    cases h
theorem acc_cons {s : Nat} {xs : List Int} (hs : s ≠ 9) (h : run s xs = some 9) : ∃ c r t, xs = c :: r ∧ stp s c = some t ∧ run t r = some 9 := by
  cases xs with
  | nil =>
    injection h with h
    exact absurd h hs
  | cons c r =>
    rw [run_cons] at h
    cases ht : stp s c with
    | none => rw [ht] at h; cases h
    | some t =>
      rw [ht] at h
      exact ⟨c, r, t, rfl, ht, h⟩
theorem stp_one {s t : Nat} {c d : Int} {u : Nat} (hd : ∀ c, stp s c = if c = d then some u else none) (h : stp s c = some t) : c = d ∧ t = u := by
  rw [hd] at h
  split at h
  · injection h with h
    exact ⟨by assumption, h.symm⟩
  · cases h
theorem acc4 : ∀ (xs : List Int), run 4 xs = some 9 → ∃ a r, xs = a ++ 34 :: r ∧ (∀ x ∈ a, letB x = true) ∧ run 5 r = some 9
  | [], h => by cases h
  | c :: xs, h => by
    obtain ⟨c', r, t, e, hs, hr⟩ := acc_cons (by decide) h
    injection e with e1 e2
    subst e1 e2
    by_cases h34 : c = 34
    · subst h34
      have : stp 4 34 = some 5 := rfl
      rw [this] at hs
      injection hs with hs
      subst hs
      exact ⟨[], xs, rfl, fun x hx => (by cases hx), hr⟩
    · have h4 : stp 4 c = if letB c = true then some 4 else none := by
        unfold stp
        simp [h34]
      rw [h4] at hs
      split at hs
      · rename_i hl
        injection hs with hs
        subst hs
        obtain ⟨a, r, rfl, ha, hr'⟩ := acc4 xs hr
        exact ⟨c :: a, r, rfl, fun x hx => (List.mem_cons.1 hx).elim (fun e => by rw [e]; exact hl) (ha x), hr'⟩
      · cases hs
theorem acc7 : ∀ (xs : List Int), run 7 xs = some 9 → ∃ a r, xs = a ++ 34 :: r ∧ (∀ x ∈ a, plainB x = true) ∧ run 8 r = some 9
  | [], h => by cases h
  | c :: xs, h => by
    obtain ⟨c', r, t, e, hs, hr⟩ := acc_cons (by decide) h
    injection e with e1 e2
    subst e1 e2
    by_cases h34 : c = 34
    · subst h34
      have : stp 7 34 = some 8 := rfl
      rw [this] at hs
      injection hs with hs
      subst hs
      exact ⟨[], xs, rfl, fun x hx => (by cases hx), hr⟩
    · have h4 : stp 7 c = if plainB c = true then some 7 else none := by
        unfold stp
        simp [h34]
      rw [h4] at hs
      split at hs
      · rename_i hl
        injection hs with hs
        subst hs
        obtain ⟨a, r, rfl, ha, hr'⟩ := acc7 xs hr
        exact ⟨c :: a, r, rfl, fun x hx => (List.mem_cons.1 hx).elim (fun e => by rw [e]; exact hl) (ha x), hr'⟩
      · cases hs
theorem letB_rng {x : Int} (h : letB x = true) : 0 ≤ x ∧ x < 256 := by
  have := of_decide_eq_true h
  omega
theorem plainB_rng {x : Int} (h : plainB x = true) : 0 ≤ x ∧ x < 256 := by
  have := of_decide_eq_true h
  omega
/-- A pair is read from its quotation mark on. -/
theorem acc3 {xs : List Int} (h : run 3 xs = some 9) : ∃ p r, looseP p ∧ 34 :: xs = pI p ++ r ∧ run 8 r = some 9 := by
  obtain ⟨c, r, t, rfl, hs, hr⟩ := acc_cons (by decide) h
  have h3 : stp 3 c = if letB c = true then some 4 else none := rfl
  rw [h3] at hs
  split at hs
  · rename_i hl
    injection hs with hs
    subst hs
    obtain ⟨a, r, rfl, ha, h5⟩ := acc4 _ hr
    obtain ⟨c5, r5, t5, rfl, hs5, hr5⟩ := acc_cons (by decide) h5
    obtain ⟨rfl, rfl⟩ := stp_one (d := 58) (u := 6) (fun c => rfl) hs5
    obtain ⟨c6, r6, t6, rfl, hs6, hr6⟩ := acc_cons (by decide) hr5
    obtain ⟨rfl, rfl⟩ := stp_one (d := 34) (u := 7) (fun c => rfl) hs6
    obtain ⟨v, r, rfl, hv, h8⟩ := acc7 _ hr6
    have hca : ∀ x ∈ c :: a, letB x = true := fun x hx => (List.mem_cons.1 hx).elim (fun e => by rw [e]; exact hl) (ha x)
    have e1 : ints (txt (c :: a)) = c :: a := ints_txt fun x hx => letB_rng (hca x hx)
    have e2 : ints (txt v) = v := ints_txt fun x hx => plainB_rng (hv x hx)
    refine ⟨(txt (c :: a), txt v), r, ⟨by rw [txt_size]; exact Nat.succ_pos _, by rw [e1]; exact hca, by rw [e2]; exact hv⟩, ?_, h8⟩
    unfold pI
    simp only [e1, e2]
    simp
  · cases hs
theorem acc_pairs : ∀ (n : Nat) (xs : List Int) (l : List P2), xs.length ≤ n → Loose l → run (stB l) xs = some 9 → (l = [] → xs ≠ [125]) → ∃ l', Loose l' ∧ preI l ++ xs = textI l'
  | 0, xs, l, hn, hl, h, _ => by
    obtain rfl : xs = [] := List.eq_nil_of_length_eq_zero (by omega)
    injection h with h
    unfold stB at h
    split at h <;> cases h
  | n + 1, xs, l, hn, hl, h, h0 => by
    have hs : stB l = 1 ∨ stB l = 2 := by
      unfold stB
      split
      · exact .inl rfl
      · exact .inr rfl
    obtain ⟨c, r, t, rfl, hst, hr⟩ := acc_cons (by rcases hs with e | e <;> rw [e] <;> decide) h
    have hq : c = 34 ∧ t = 3 := by
      rcases hs with e | e
      · rw [e] at hst
        have h1 : stp 1 c = if c = 125 then some 9 else if c = 34 then some 3 else none := rfl
        rw [h1] at hst
        split at hst
        · injection hst with hst
          subst hst
          have hle : l = [] := by
            unfold stB at e
            split at e
            · rename_i hh
              exact List.isEmpty_iff.1 hh
            · cases e
          rename_i hc
          have := acc9 hr
          subst this
          rw [hc] at h0
          exact absurd rfl (h0 hle)
        · split at hst
          · injection hst with hst
            exact ⟨by assumption, hst.symm⟩
          · cases hst
      · rw [e] at hst
        exact stp_one (d := 34) (u := 3) (fun c => rfl) hst
    obtain ⟨rfl, rfl⟩ := hq
    obtain ⟨p, r', hp, e, h8⟩ := acc3 hr
    obtain ⟨c8, r8, t8, rfl, hs8, hr8⟩ := acc_cons (by decide) h8
    have hlp : Loose (l ++ [p]) := fun q hq => (List.mem_append.1 hq).elim (hl q) fun h => by
      rw [List.mem_singleton.1 h]
      exact hp
    have h8' : stp 8 c8 = if c8 = 44 then some 2 else if c8 = 125 then some 9 else none := rfl
    rw [h8'] at hs8
    split at hs8
    · rename_i hc
      injection hs8 with hs8
      subst hs8 hc
      have hlen := congrArg List.length e
      rw [List.length_append, List.length_cons, List.length_cons] at hlen
      rw [List.length_cons] at hn
      have hst2 : stB (l ++ [p]) = 2 := by
        unfold stB
        simp
      obtain ⟨l', hl', e'⟩ := acc_pairs n r8 (l ++ [p]) (by omega) hlp (by rw [hst2]; exact hr8) (fun h => by simp at h)
      refine ⟨l', hl', ?_⟩
      rw [← e', preI_snoc, e]
      simp
    · split at hs8
      · rename_i hc
        injection hs8 with hs8
        subst hs8 hc
        obtain rfl := acc9 hr8
        exact ⟨l ++ [p], hlp, by rw [textI_snoc, e]; simp⟩
      · cases hs8
/-- A string that is read to the end is the text of pairs. -/
theorem accepted {xs : List Int} (h : run 0 xs = some 9) : ∃ l, Loose l ∧ xs = textI l := by
  obtain ⟨c, r, t, rfl, hs, hr⟩ := acc_cons (by decide) h
  obtain ⟨rfl, rfl⟩ := stp_one (d := 123) (u := 1) (fun c => rfl) hs
  by_cases h1 : r = [125]
  · subst h1
    exact ⟨[], fun p hp => (by cases hp), rfl⟩
  · exact acc_pairs r.length r [] (Nat.le_refl _) (fun p hp => by cases hp) hr fun _ => h1

end Go.Proofs.YtclnoblcdaimiaaDoor
