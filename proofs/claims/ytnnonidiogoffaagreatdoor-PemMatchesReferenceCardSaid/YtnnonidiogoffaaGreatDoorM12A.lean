/- Labels, lines and armours as lists of bytes. -/
import Derived.Test.YtnnonidiogoffaaGreatDoorB64b
namespace Go.Proofs.YtnnonidiogoffaaGreatDoor
set_option linter.unusedVariables false

/-- A letter of a word. -/
def upB (c : Int) : Bool := (decide (65 ≤ c) && decide (c ≤ 90)) || (decide (48 ≤ c) && decide (c ≤ 57))
/-- A label, read letter by letter: w words so far, the last one with k letters. -/
def labR : List Int → Nat → Nat → Bool
  | [], w, k => decide (0 < k) && decide (w ≤ 5)
  | c :: l, w, k => if c = 32 then (if k = 0 then false else labR l (w + 1) 0) else if upB c = true then (if 20 < k + 1 then false else labR l w (k + 1)) else false
def labB (l : List Int) : Bool := labR l 1 0
/-- A word. -/
def wordB (l : List Int) : Bool := decide (0 < l.length) && decide (l.length ≤ 20) && l.all upB
/-- How many bytes stand before the first d. -/
def ix (d : Int) : List Int → Nat
  | [] => 0
  | c :: l => if c = d then 0 else ix d l + 1
theorem ix_le (d : Int) (l : List Int) : ix d l ≤ l.length := by
  induction l with
  | nil => exact Nat.le_refl _
  | cons c l ih => unfold ix; split <;> simp; omega
theorem ix_ne {d : Int} {l : List Int} {j : Nat} (h : j < ix d l) : l.getD j 0 ≠ d := by
  induction l generalizing j with
  | nil => cases h
  | cons c l ih =>
    unfold ix at h
    split at h
    · cases h
    · rename_i hc
      cases j with
      | zero => simpa using hc
      | succ j => have := ih (j := j) (by omega); simpa using this
theorem ix_at {d : Int} {l : List Int} (h : ix d l < l.length) : l.getD (ix d l) 0 = d := by
  induction l with
  | nil => cases h
  | cons c l ih =>
    unfold ix at h ⊢
    split
    · rename_i hc; simpa using hc
    · rename_i hc
      rw [if_neg hc] at h
      have := ih (by simpa using h)
      simpa using this
theorem ix_of {d : Int} {l : List Int} {j : Nat} (hj : j < l.length) (hd : l.getD j 0 = d) (hn : ∀ i, i < j → l.getD i 0 ≠ d) : ix d l = j := by
  rcases Nat.lt_trichotomy (ix d l) j with h | h | h
  · exact absurd (ix_at (by omega)) (hn _ h)
  · exact h
  · exact absurd hd (ix_ne h)
theorem ix_none {d : Int} {l : List Int} (h : ∀ x ∈ l, x ≠ d) : ix d l = l.length := by
  induction l with
  | nil => rfl
  | cons c l ih =>
    unfold ix
    rw [if_neg (h c (by simp)), ih fun x hx => h x (by simp [hx])]
    simp
theorem ix_app {d : Int} {a b : List Int} (h : ∀ x ∈ a, x ≠ d) : ix d (a ++ d :: b) = a.length := by
  induction a with
  | nil => simp [ix]
  | cons c a ih =>
    rw [List.cons_append, ix, if_neg (h c (by simp)), ih fun x hx => h x (by simp [hx])]
    simp
/-- The pieces between the bytes d. -/
def spl (d : Int) : List Int → List (List Int)
  | [] => [[]]
  | c :: l => if c = d then [] :: spl d l else match spl d l with
    | [] => [[c]]
    | p :: ps => (c :: p) :: ps
theorem spl_ne (d : Int) (l : List Int) : spl d l ≠ [] := by
  cases l with
  | nil => simp [spl]
  | cons c l =>
    unfold spl
    split
    · simp
    · split <;> simp
theorem spl_cut {d : Int} {l : List Int} (h : ix d l < l.length) : spl d l = l.take (ix d l) :: spl d (l.drop (ix d l + 1)) := by
  induction l with
  | nil => cases h
  | cons c l ih =>
    unfold ix at h ⊢
    split
    · rename_i hc; simp [spl, hc]
    · rename_i hc
      rw [if_neg hc] at h
      have := ih (by simpa using h)
      rw [spl, if_neg hc, this]
      simp
theorem spl_end {d : Int} {l : List Int} (h : ix d l = l.length) : spl d l = [l] := by
  induction l with
  | nil => rfl
  | cons c l ih =>
    unfold ix at h
    split at h
    · simp at h
    · rename_i hc
      rw [spl, if_neg hc, ih (by simpa using h)]
theorem spl_app {d : Int} {a b : List Int} (h : ∀ x ∈ a, x ≠ d) : spl d (a ++ d :: b) = a :: spl d b := by
  have := ix_app (b := b) h
  rw [spl_cut (by rw [this]; simp), this]
  simp
theorem spl_len (d : Int) (l : List Int) : 1 ≤ (spl d l).length := by
  have := spl_ne d l
  cases h : spl d l with
  | nil => exact absurd h this
  | cons => simp
theorem spl_len_le (d : Int) (l : List Int) : (spl d l).length ≤ l.length + 1 := by
  induction l with
  | nil => simp [spl]
  | cons c l ih =>
    unfold spl
    split
    · simp; omega
    · split
      · simp
      · rename_i h; rw [h] at ih; simp at ih ⊢; omega
/-- Where the piece with a number begins. -/
def off (d : Int) (l : List Int) : Nat → Nat
  | 0 => 0
  | k + 1 => off d l k + ix d (l.drop (off d l k)) + 1
theorem off_piece (d : Int) : ∀ (k : Nat) (l : List Int), k < (spl d l).length → off d l k ≤ l.length ∧ spl d (l.drop (off d l k)) = (spl d l).drop k
  | 0, l, h => ⟨Nat.zero_le _, by simp [off]⟩
  | k + 1, l, h => by
    obtain ⟨h1, h2⟩ := off_piece d k l (by omega)
    have h3 : ix d (l.drop (off d l k)) < (l.drop (off d l k)).length := by
      rcases Nat.lt_or_ge (ix d (l.drop (off d l k))) (l.drop (off d l k)).length with h' | h'
      · exact h'
      · have := ix_le d (l.drop (off d l k))
        rw [spl_end (by omega)] at h2
        have := congrArg List.length h2
        simp at this
        omega
    have h4 := spl_cut h3
    rw [h2] at h4
    have h5 : (spl d l).drop (k + 1) = ((spl d l).drop k).drop 1 := by simp
    rw [List.length_drop] at h3
    refine ⟨by show _ + _ + 1 ≤ _; omega, ?_⟩
    show spl d (l.drop (off d l k + ix d (l.drop (off d l k)) + 1)) = _
    rw [h5, h4, List.drop_drop, List.drop_one, List.tail_cons, Nat.add_assoc]
/-- The piece with a number: the bytes from its offset to the next d. -/
theorem piece_at {d : Int} {l : List Int} {k : Nat} (h : k < (spl d l).length) : (spl d l).getD k [] = (l.drop (off d l k)).take (ix d (l.drop (off d l k))) := by
  obtain ⟨h1, h2⟩ := off_piece d k l h
  have e : (spl d l).getD k [] = ((spl d l).drop k).getD 0 [] := by simp [List.getD]
  rw [e, ← h2]
  rcases Nat.lt_or_ge (ix d (l.drop (off d l k))) (l.drop (off d l k)).length with h' | h'
  · rw [spl_cut h']; rfl
  · have := ix_le d (l.drop (off d l k))
    rw [spl_end (by omega), show ix d (l.drop (off d l k)) = (l.drop (off d l k)).length by omega, List.take_length]; rfl
theorem piece_more {d : Int} {l : List Int} {k : Nat} (h : k < (spl d l).length) : k + 1 < (spl d l).length ↔ off d l k + ix d (l.drop (off d l k)) < l.length := by
  obtain ⟨h1, h2⟩ := off_piece d k l h
  have hl : ((spl d l).drop k).length = (spl d l).length - k := List.length_drop
  have hd : (l.drop (off d l k)).length = l.length - off d l k := List.length_drop
  rcases Nat.lt_or_ge (ix d (l.drop (off d l k))) (l.drop (off d l k)).length with h' | h'
  · rw [← h2, spl_cut h'] at hl
    have := spl_len d ((l.drop (off d l k)).drop (ix d (l.drop (off d l k)) + 1))
    simp only [List.length_cons] at hl
    constructor
    · intro; omega
    · intro; omega
  · have := ix_le d (l.drop (off d l k))
    rw [← h2, spl_end (by omega)] at hl
    simp only [List.length_cons, List.length_nil] at hl
    constructor
    · intro; omega
    · intro; omega

/-- Words, told one after the other. -/
def wordsB : List (List Int) → Nat → Bool
  | [], _ => true
  | p :: ps, n => decide (n + 1 ≤ 5) && wordB p && wordsB ps (n + 1)
theorem labR_words (l : List Int) : ∀ (w k : Nat), k ≤ 20 → ∃ p ps, spl 32 l = p :: ps ∧ labR l w k = (decide (0 < k + p.length) && decide (k + p.length ≤ 20) && p.all upB && (ps.all wordB && decide (w + ps.length ≤ 5))) := by
  induction l with
  | nil =>
    intro w k hk
    refine ⟨[], [], rfl, ?_⟩
    simp [labR, hk]
  | cons c l ih =>
    intro w k hk
    by_cases hc : c = 32
    · obtain ⟨p, ps, h1, h2⟩ := ih (w + 1) 0 (by omega)
      refine ⟨[], p :: ps, by simp [spl, hc, h1], ?_⟩
      rw [labR, if_pos hc]
      by_cases h0 : k = 0
      · simp [h0]
      · have hk0 : 0 < k := by omega
        rw [if_neg h0, h2]
        simp [wordB, hk, hk0, Bool.and_assoc, show w + 1 + ps.length = w + (ps.length + 1) by omega]
    · rw [labR, if_neg hc]
      by_cases hu : upB c = true
      · rw [if_pos hu]
        by_cases h20 : 20 < k + 1
        · obtain ⟨p, ps, h1, h2⟩ := ih w 0 (by omega)
          refine ⟨c :: p, ps, by simp [spl, hc, h1], ?_⟩
          rw [if_pos h20]
          have : ¬ (k + (c :: p).length ≤ 20) := by simp; omega
          simp only [decide_eq_false this]
          simp
        · obtain ⟨p, ps, h1, h2⟩ := ih w (k + 1) (by omega)
          refine ⟨c :: p, ps, by simp [spl, hc, h1], ?_⟩
          rw [if_neg h20, h2]
          simp only [List.length_cons, List.all_cons, hu, Bool.true_and]
          rw [show k + 1 + p.length = k + (p.length + 1) by omega]
      · obtain ⟨p, ps, h1, h2⟩ := ih w 0 (by omega)
        refine ⟨c :: p, ps, by simp [spl, hc, h1], ?_⟩
        rw [if_neg hu]
        simp [hu]
theorem wordsB_eq (ps : List (List Int)) : ∀ n, wordsB ps n = (ps.all wordB && decide (ps = [] ∨ n + ps.length ≤ 5)) := by
  induction ps with
  | nil => intro n; simp [wordsB]
  | cons p ps ih =>
    intro n
    rw [wordsB, ih]
    cases hw : wordB p with
    | false => simp [hw]
    | true =>
      cases ha : ps.all wordB with
      | false => simp [hw, ha]
      | true =>
        simp only [hw, ha, List.all_cons, Bool.and_true, Bool.true_and, List.length_cons]
        by_cases h1 : n + 1 ≤ 5
        · by_cases h2 : ps = []
          · subst h2; simp [h1]
          · have : ps.length ≠ 0 := by simpa using h2
            simp [h2, h1, show n + 1 + ps.length = n + (ps.length + 1) by omega]
        · have : ¬ (n + (ps.length + 1) ≤ 5) := by omega
          simp [h1, this]
theorem labB_words (l : List Int) : labB l = wordsB (spl 32 l) 0 := by
  obtain ⟨p, ps, h1, h2⟩ := labR_words l 1 0 (by omega)
  rw [labB, h2, h1, wordsB_eq]
  simp [wordB, Bool.and_assoc, show (1 + ps.length ≤ 5) = (ps.length ≤ 4) from propext (by omega)]
/-- What is in a label. -/
theorem labR_in {l : List Int} : ∀ {w k : Nat}, labR l w k = true → ∀ x ∈ l, x = 32 ∨ upB x = true := by
  induction l with
  | nil => intro w k _ x hx; cases hx
  | cons c l ih =>
    intro w k h x hx
    rw [labR] at h
    by_cases hc : c = 32
    · rw [if_pos hc] at h
      split at h
      · cases h
      · rcases List.mem_cons.1 hx with rfl | hx
        · exact .inl hc
        · exact ih h x hx
    · rw [if_neg hc] at h
      split at h
      · rename_i hu
        split at h
        · cases h
        · rcases List.mem_cons.1 hx with rfl | hx
          · exact .inr hu
          · exact ih h x hx
      · cases h
theorem labB_in {l : List Int} (h : labB l = true) : ∀ x ∈ l, x = 32 ∨ upB x = true := labR_in h
theorem up_rng {x : Int} (h : x = 32 ∨ upB x = true) : 32 ≤ x ∧ x ≤ 90 ∧ x ≠ 45 := by
  rcases h with rfl | h
  · omega
  · simp [upB] at h; omega
theorem labB_ne {l : List Int} (h : labB l = true) : l ≠ [] := by
  rintro rfl
  simp [labB, labR] at h
/-- A label in front of a space. -/
theorem labR_app (a b : List Int) : ∀ w k, labR (a ++ 32 :: b) w k = true → labR a w k = true ∧ ∃ w' , w ≤ w' ∧ labR b (w' + 1) 0 = true := by
  induction a with
  | nil =>
    intro w k h
    rw [List.nil_append, labR, if_pos rfl] at h
    split at h
    · cases h
    · rename_i h0
      refine ⟨?_, w, Nat.le_refl _, h⟩
      obtain ⟨p, ps, h1, h2⟩ := labR_words b (w + 1) 0 (by omega)
      rw [h2] at h
      simp at h
      have := h.2.2
      simp [labR]
      omega
  | cons c a ih =>
    intro w k h
    rw [List.cons_append, labR] at h
    rw [labR]
    by_cases hc : c = 32
    · rw [if_pos hc] at h ⊢
      split at h
      · cases h
      · rename_i h0
        rw [if_neg h0]
        obtain ⟨h1, w', h2, h3⟩ := ih _ _ h
        exact ⟨h1, w', by omega, h3⟩
    · rw [if_neg hc] at h ⊢
      split at h
      · rename_i hu
        rw [if_pos hu]
        split at h
        · cases h
        · rename_i h20
          rw [if_neg h20]
          exact ih _ _ h
      · cases h
theorem labR_less {l : List Int} {w w' k : Nat} (h : labR l w k = true) (hk : k ≤ 20) (hw : w' ≤ w) : labR l w' k = true := by
  obtain ⟨p, ps, h1, h2⟩ := labR_words l w k hk
  obtain ⟨p', ps', h1', h2'⟩ := labR_words l w' k hk
  rw [h1] at h1'
  injection h1' with e1 e2
  subst e1 e2
  rw [h2] at h
  rw [h2']
  simp at h ⊢
  exact ⟨h.1, h.2.1, by omega⟩
theorem labB_app {a b : List Int} (h : labB (a ++ 32 :: b) = true) : labB a = true ∧ labB b = true := by
  obtain ⟨h1, w', h2, h3⟩ := labR_app a b 1 0 h
  exact ⟨h1, labR_less h3 (by omega) (by omega)⟩
end Go.Proofs.YtnnonidiogoffaaGreatDoor
