/- The text of a list of arcs: what is written is what is read; one text below another. Plain lists of numbers. -/
import Derived.Test.YtnjoccmjembppaaDoorMth9A
namespace Go.Proofs.YtnjoccmjembppaaDoor
open Go.RowKit

/-- The arcs in digits, each with a dot behind it. -/
def jn : List Int → List Int
  | [] => []
  | x :: l => decL x.toNat ++ 46 :: jn l
theorem jn_app : ∀ a b : List Int, jn (a ++ b) = jn a ++ jn b
  | [], b => rfl
  | x :: a, b => by
    show decL x.toNat ++ 46 :: jn (a ++ b) = (decL x.toNat ++ 46 :: jn a) ++ jn b
    rw [jn_app a b, List.append_assoc, List.cons_append]
theorem jn_one (x : Int) : jn [x] = decL x.toNat ++ [46] := rfl
theorem tS_jn (l : List Int) : ∀ k, k < l.length → ints (tS l k) ++ [46] = jn (l.take (k + 1))
  | 0, h => by
    have e : l.take 1 = [l.getD 0 0] := by
      cases l with
      | nil => simp at h
      | cons x l => simp
    rw [e]
    rfl
  | k + 1, h => by
    have e : l.take (k + 1 + 1) = l.take (k + 1) ++ [l.getD (k + 1) 0] := by
      rw [List.take_add_one]
      simp [List.getD, h]
    have ih := tS_jn l k (by omega)
    rw [e, jn_app, ← ih, jn_one]
    show ints (tS l k ++ ⟨#[46]⟩ ++ decS (l.getD (k + 1) 0).toNat) ++ [46] = _
    rw [ints_app, ints_app, List.append_assoc, List.append_assoc, List.append_assoc]
    rfl
theorem textS_jn {l : List Int} (h : okL l = true) : ints (textS l) ++ [46] = jn l := by
  obtain ⟨q1, q2, _⟩ := okL_true h
  unfold textS
  rw [if_pos h, tS_jn l (l.length - 1) (by omega), show l.length - 1 + 1 = l.length by omega, List.take_length]
theorem textS_no {l : List Int} (h : okL l = false) : textS l = ⟨#[]⟩ := by
  unfold textS
  rw [h]
  rfl
theorem app_one_inj {a b : List Int} {x : Int} (h : a ++ [x] = b ++ [x]) : a = b := (List.append_inj' h rfl).1

/-- No dot among digits. -/
theorem decL_nodot (n : Nat) : ∀ x ∈ decL n, x ≠ 46 := fun x hx => by
  have := decL_rng n x hx
  omega
theorem split_dot : ∀ (a b r s : List Int), (∀ x ∈ a, x ≠ 46) → (∀ x ∈ b, x ≠ 46) → a ++ 46 :: r = b ++ 46 :: s → a = b ∧ r = s
  | [], [], r, s, _, _, h => by
    injection h with _ h
    exact ⟨rfl, h⟩
  | [], y :: b, r, s, _, hb, h => by
    injection h with h1 _
    exact absurd h1.symm (hb y (by simp))
  | x :: a, [], r, s, ha, _, h => by
    injection h with h1 _
    exact absurd h1 (ha x (by simp))
  | x :: a, y :: b, r, s, ha, hb, h => by
    injection h with h1 h2
    obtain ⟨h3, h4⟩ := split_dot a b r s (fun z hz => ha z (by simp [hz])) (fun z hz => hb z (by simp [hz])) h2
    exact ⟨by rw [h1, h3], h4⟩
/-- A list's joined text ahead of another's: the list is ahead of the other. -/
theorem jn_pre : ∀ (b a r : List Int), (∀ x ∈ a, 0 ≤ x) → (∀ x ∈ b, 0 ≤ x) → jn b ++ r = jn a → ∃ c, a = b ++ c ∧ jn c = r
  | [], a, r, _, _, h => ⟨a, rfl, h.symm⟩
  | x :: b, [], r, _, _, h => by
    have : (decL x.toNat ++ 46 :: jn b) ++ r = [] := h
    simp at this
  | x :: b, y :: a, r, ha, hb, h => by
    have h1 : decL x.toNat ++ 46 :: (jn b ++ r) = decL y.toNat ++ 46 :: jn a := by
      have : (decL x.toNat ++ 46 :: jn b) ++ r = decL y.toNat ++ 46 :: jn a := h
      rwa [List.append_assoc, List.cons_append] at this
    obtain ⟨h2, h3⟩ := split_dot _ _ _ _ (decL_nodot _) (decL_nodot _) h1
    have hxy : x = y := by
      have := decL_inj h2
      have hx := hb x (by simp)
      have hy := ha y (by simp)
      omega
    obtain ⟨c, h4, h5⟩ := jn_pre b a r (fun z hz => ha z (by simp [hz])) (fun z hz => hb z (by simp [hz])) h3
    exact ⟨c, by rw [hxy, h4]; rfl, h5⟩
theorem jn_inj {a b : List Int} (ha : ∀ x ∈ a, 0 ≤ x) (hb : ∀ x ∈ b, 0 ≤ x) (h : jn a = jn b) : a = b := by
  obtain ⟨c, h1, h2⟩ := jn_pre b a [] ha hb (by rw [List.append_nil]; exact h.symm)
  cases c with
  | nil => rw [h1, List.append_nil]
  | cons x c =>
    have : decL x.toNat ++ 46 :: jn c = [] := h2
    simp at this

/-! ### What Parse finds -/
theorem pc_len (xs : List Int) (f i : Nat) (hi : i ≤ xs.length) : (pc xs f i).length = i - f := by
  unfold pc
  rw [List.length_drop, List.length_take, Nat.min_eq_left hi]
theorem take_pc (ys : List Int) (f i : Nat) (h : f ≤ i) : ys.take i = ys.take f ++ pc ys f i := by
  unfold pc
  conv => lhs; rw [← List.take_append_drop f (ys.take i)]
  rw [List.take_take, Nat.min_eq_left h]
/-- What is scanned so far is the text of what was found. -/
theorem pS_text (xs : List Int) : ∀ i f l, i ≤ xs.length + 1 → pS xs i = some (f, l) → (xs ++ [46]).take f = jn l ∧ f ≤ i ∧ (i = xs.length + 1 → f = i)
  | 0, f, l, _, h => by
    injection h with h
    injection h with h1 h2
    subst h1 h2
    exact ⟨rfl, Nat.le_refl _, fun e => by omega⟩
  | i + 1, f, l, hi, h => by
    cases hq : pS xs i with
    | none =>
      have := pS_none xs i hq 1
      rw [this] at h
      cases h
    | some p =>
      obtain ⟨f0, l0⟩ := p
      obtain ⟨q1, q2, _⟩ := pS_text xs i f0 l0 (by omega) hq
      by_cases hc : i < xs.length ∧ xs.getD i 0 ≠ 46
      · rw [pS_in xs i f0 l0 hq hc] at h
        injection h with h
        injection h with h1 h2
        subst h1 h2
        exact ⟨q1, by omega, fun e => by omega⟩
      · rw [pS_end xs i f0 l0 hq hc] at h
        split at h
        · cases h
        · rename_i hn
          injection h with h
          injection h with h1 h2
          subst h1 h2
          refine ⟨?_, Nat.le_refl _, fun _ => rfl⟩
          have hd := numI_canon (pc xs f0 i) (by omega)
          have e1 : pc (xs ++ [46]) f0 i = pc xs f0 i := by
            unfold pc
            rw [List.take_append_of_le_length (by omega)]
          have e2 : (xs ++ [46]).take (i + 1) = (xs ++ [46]).take i ++ [46] := by
            rw [List.take_add_one]
            congr 1
            by_cases hl : i < xs.length
            · rw [List.getElem?_append_left hl, List.getElem?_eq_getElem hl]
              have : xs.getD i 0 = 46 := by
                by_cases h46 : xs.getD i 0 = 46
                · exact h46
                · exact absurd ⟨hl, h46⟩ hc
              rw [List.getD_eq_getElem?_getD, List.getElem?_eq_getElem hl] at this
              simp only [Option.getD_some] at this
              rw [this]
              rfl
            · have : i = xs.length := by omega
              subst this
              simp
          rw [e2, take_pc (xs ++ [46]) f0 i q2, q1, e1, jn_app, jn_one, hd.1, List.append_assoc]
theorem parse_text {s : ByteArray} {l : List Int} (h : parseL (ints s) = some l) : textS l = s ∧ okL l = true ∧ ∀ x ∈ l, 0 ≤ x ∧ x < 4294967296 := by
  unfold parseL at h
  cases hq : pS (ints s) ((ints s).length + 1) with
  | none => rw [hq] at h; cases h
  | some p =>
    obtain ⟨f, l0⟩ := p
    rw [hq] at h
    simp only at h
    by_cases hk : okL l0 = true
    · rw [if_pos hk] at h
      injection h with h
      subst h
      obtain ⟨q1, q2, q3⟩ := pS_text _ _ f l0 (Nat.le_refl _) hq
      have q4 := q3 rfl
      subst q4
      rw [List.take_of_length_le (by rw [List.length_append, List.length_singleton]; exact Nat.le_refl _), ← textS_jn hk] at q1
      exact ⟨ints_inj (app_one_inj q1.symm), hk, (pS_from _ _ _ _ hq).2.2⟩
    · rw [if_neg hk] at h
      cases h

/-- The scan over a piece without a dot. -/
theorem pS_piece (xs : List Int) (f : Nat) (l : List Int) : ∀ k, (∀ j, f ≤ j → j < f + k → j < xs.length ∧ xs.getD j 0 ≠ 46) → pS xs f = some (f, l) → pS xs (f + k) = some (f, l)
  | 0, _, h => h
  | k + 1, hk, h => pS_in xs (f + k) f l (pS_piece xs f l k (fun j h1 h2 => hk j h1 (by omega)) h) (hk (f + k) (by omega) (by omega))
theorem pS_jn (xs : List Int) : ∀ (a b r : List Int), (∀ x ∈ a, 0 ≤ x ∧ x < 4294967296) → xs ++ [46] = jn b ++ jn a ++ r → pS xs (jn b).length = some ((jn b).length, b) → pS xs (jn b ++ jn a).length = some ((jn b ++ jn a).length, b ++ a)
  | [], b, r, _, _, h => by
    show pS xs (jn b ++ []).length = some ((jn b ++ []).length, b ++ [])
    rw [List.append_nil, List.append_nil]
    exact h
  | x :: a, b, r, ha, hx, h => by
    have hxr := ha x (by simp)
    have e1 : jn (b ++ [x]) = jn b ++ (decL x.toNat ++ [46]) := by rw [jn_app, jn_one]
    have e2 : xs ++ [46] = jn (b ++ [x]) ++ jn a ++ r := by
      rw [hx, e1]
      show jn b ++ (decL x.toNat ++ 46 :: jn a) ++ r = _
      simp only [List.append_assoc, List.cons_append, List.nil_append]
    have hlen : (jn b).length + (decL x.toNat).length + 1 ≤ xs.length + 1 := by
      have := congrArg List.length e2
      rw [e1] at this
      simp only [List.length_append, List.length_singleton] at this
      omega
    have hat : ∀ j, j < (decL x.toNat ++ [46]).length → (xs ++ [46]).getD ((jn b).length + j) 0 = (decL x.toNat ++ [46]).getD j 0 := by
      intro j hj
      rw [e2, e1, List.append_assoc, List.append_assoc, getD_app_right (by omega), Nat.add_sub_cancel_left, getD_app_left hj]
    have hpiece := pS_piece xs (jn b).length b (decL x.toNat).length (fun j h1 h2 => by
      have hj : j < xs.length := by omega
      refine ⟨hj, ?_⟩
      have := hat (j - (jn b).length) (by rw [List.length_append]; omega)
      rw [show (jn b).length + (j - (jn b).length) = j by omega, getD_app_left hj, getD_app_left (by omega)] at this
      rw [this]
      refine decL_nodot x.toNat _ ?_
      rw [List.getD_eq_getElem?_getD, List.getElem?_eq_getElem (by omega)]
      exact List.getElem_mem _) h
    have hdot : ¬ ((jn b).length + (decL x.toNat).length < xs.length ∧ xs.getD ((jn b).length + (decL x.toNat).length) 0 ≠ 46) := by
      rintro ⟨h1, h2⟩
      have := hat (decL x.toNat).length (by rw [List.length_append]; simp)
      rw [getD_app_left h1, getD_app_right (Nat.le_refl _), Nat.sub_self] at this
      exact h2 this
    have hpc : pc xs (jn b).length ((jn b).length + (decL x.toNat).length) = decL x.toNat := by
      have h1 : pc (xs ++ [46]) (jn b).length ((jn b).length + (decL x.toNat).length) = pc xs (jn b).length ((jn b).length + (decL x.toNat).length) := by
        unfold pc
        rw [List.take_append_of_le_length (by omega)]
      rw [← h1, e2, e1]
      unfold pc
      rw [List.append_assoc, List.append_assoc, List.take_append, List.take_of_length_le (by omega), Nat.add_sub_cancel_left, List.drop_append_of_le_length (Nat.le_refl _), List.drop_length, List.nil_append, List.append_assoc, List.take_append_of_le_length (Nat.le_refl _), List.take_length]
    have hend := pS_end xs _ _ b hpiece hdot
    rw [hpc, numI_decL _ (by omega), if_neg (by omega), Int.toNat_of_nonneg hxr.1] at hend
    have ih := pS_jn xs a (b ++ [x]) r (fun y hy => ha y (by simp [hy])) e2 (by
      rw [e1]
      have : (jn b ++ (decL x.toNat ++ [46])).length = (jn b).length + (decL x.toNat).length + 1 := by simp only [List.length_append, List.length_singleton]; omega
      rw [this]
      exact hend)
    have e3 : jn (b ++ [x]) ++ jn a = jn b ++ jn (x :: a) := by
      rw [e1]
      show _ = jn b ++ (decL x.toNat ++ 46 :: jn a)
      simp only [List.append_assoc, List.cons_append, List.nil_append]
    rw [e3, List.append_assoc] at ih
    exact ih
theorem text_parse {l : List Int} (hk : okL l = true) (hr : ∀ x ∈ l, 0 ≤ x ∧ x < 4294967296) : parseL (ints (textS l)) = some l := by
  have h := pS_jn (ints (textS l)) l [] [] hr (by rw [textS_jn hk]; show jn l = [] ++ jn l ++ []; rw [List.nil_append, List.append_nil]) rfl
  have e : ([] ++ jn l : List Int).length = (ints (textS l)).length + 1 := by
    rw [List.nil_append, ← textS_jn hk, List.length_append, List.length_singleton]
  have h2 : pS (ints (textS l)) ((ints (textS l)).length + 1) = some (([] ++ jn l : List Int).length, l) := by rw [← e]; exact h
  unfold parseL
  rw [h2]
  exact if_pos hk
theorem parse_nil : parseL [] = none := by decide +kernel

/-! ### Below -/
/-- Whether a list is below another one. -/
def belowB (a b : List Int) : Bool := decide (okL a = true ∧ okL b = true ∧ b.length < a.length ∧ a.take b.length = b)
theorem below_text {a b : List Int} (ha : okL a = true) (hb : okL b = true) (hra : ∀ x ∈ a, 0 ≤ x ∧ x < 4294967296) (hrb : ∀ x ∈ b, 0 ≤ x ∧ x < 4294967296) :
    belowB a b = decide ((textS b).size + 1 < (textS a).size ∧ (ints (textS a)).take ((textS b).size + 1) = ints (textS b) ++ [46]) := by
  have h1 := textS_jn ha
  have h2 := textS_jn hb
  unfold belowB
  refine decide_eq_decide.2 ⟨fun ⟨_, _, h3, h4⟩ => ?_, fun ⟨h3, h4⟩ => ⟨ha, hb, ?_⟩⟩
  · have h5 : a = b ++ a.drop b.length := by
      have := List.take_append_drop b.length a
      rw [h4] at this
      exact this.symm
    obtain ⟨c, hc⟩ : ∃ c, a.drop b.length = c := ⟨_, rfl⟩
    rw [hc] at h5
    have hcl : 0 < c.length := by rw [← hc, List.length_drop]; omega
    have h6 : ints (textS a) ++ [46] = (ints (textS b) ++ [46]) ++ jn c := by rw [h1, h2, h5, jn_app]
    have hc2 : 2 ≤ (jn c).length := by
      cases c with
      | nil => simp at hcl
      | cons x c =>
        show 2 ≤ (decL x.toNat ++ 46 :: jn c).length
        have := decL_pos x.toNat
        rw [List.length_append, List.length_cons]
        omega
    have h7 := congrArg List.length h6
    simp only [List.length_append, List.length_singleton, ints_len] at h7
    refine ⟨by omega, ?_⟩
    have h8 : (ints (textS a) ++ [46]).take ((textS b).size + 1) = ((ints (textS b) ++ [46]) ++ jn c).take ((textS b).size + 1) := by rw [h6]
    have hbl : (ints (textS b) ++ [46]).length = (textS b).size + 1 := by rw [List.length_append, List.length_singleton, ints_len]
    have e1 : (ints (textS a) ++ [46]).take ((textS b).size + 1) = (ints (textS a)).take ((textS b).size + 1) := List.take_append_of_le_length (by rw [ints_len]; omega)
    have e2 : ((ints (textS b) ++ [46]) ++ jn c).take ((textS b).size + 1) = (ints (textS b) ++ [46]).take ((textS b).size + 1) := List.take_append_of_le_length (by rw [hbl]; exact Nat.le_refl _)
    have e3 : (ints (textS b) ++ [46]).take ((textS b).size + 1) = ints (textS b) ++ [46] := List.take_of_length_le (by rw [hbl]; exact Nat.le_refl _)
    rw [e1, e2, e3] at h8
    exact h8
  · have h5 : jn b ++ ((ints (textS a)).drop ((textS b).size + 1) ++ [46]) = jn a := by
      rw [← h1, ← h2, ← h4, ← List.append_assoc, List.take_append_drop]
    obtain ⟨c, h6, h7⟩ := jn_pre b a _ (fun x hx => (hra x hx).1) (fun x hx => (hrb x hx).1) h5
    have hc : 0 < c.length := by
      cases c with
      | nil =>
        have h8 := congrArg List.length h7
        simp [jn] at h8
      | cons x c => simp
    exact ⟨by rw [h6, List.length_append]; omega, by rw [h6]; simp⟩
theorem below_no_a {a b : List Int} (h : okL a = false) : belowB a b = false := decide_eq_false fun ⟨h1, _⟩ => by rw [h] at h1; cases h1
theorem below_no_b {a b : List Int} (h : okL b = false) : belowB a b = false := decide_eq_false fun ⟨_, h1, _⟩ => by rw [h] at h1; cases h1

/-! ### Contents -/
theorem grpH_scan (xs pre rest : List Int) (acc : List Int) (N : Nat) (hN : N ≤ 4294967375) : ∀ m : Nat, m ≤ N → xs = pre ++ grpH m ++ rest → rS xs pre.length = some (0, acc) → rS xs (pre ++ grpH m).length = some ((m : Int), acc) := by
  intro m
  induction m using Nat.strongRecOn generalizing rest with
  | _ m ih =>
    intro hm hx h
    by_cases h0 : m = 0
    · subst h0
      rw [grpH_zero, List.append_nil]
      exact h
    · rw [grpH_pos h0] at hx ⊢
      have h1 := ih (m / 128) (by omega) ([((128 + m % 128 : Nat) : Int)] ++ rest) (by omega) (by rw [hx]; simp only [List.append_assoc]) h
      have hat : xs.getD (pre ++ grpH (m / 128)).length 0 = ((128 + m % 128 : Nat) : Int) := by
        rw [hx, ← List.append_assoc, List.append_assoc, getD_app_right (Nat.le_refl _), Nat.sub_self]
        rfl
      have h2 := rS_step xs _ _ _ h1
      rw [hat] at h2
      have e1 : ((m / 128 : Nat) : Int) * 128 + ((128 + m % 128 : Nat) : Int) % 128 = (m : Int) := by omega
      rw [e1, if_neg (by omega), if_pos (by omega)] at h2
      have e2 : (pre ++ (grpH (m / 128) ++ [((128 + m % 128 : Nat) : Int)])).length = (pre ++ grpH (m / 128)).length + 1 := by simp only [List.length_append, List.length_singleton]; omega
      rw [e2]
      exact h2
theorem grp_scan (xs pre rest : List Int) (acc : List Int) (n : Nat) (hN : n ≤ 4294967375) (hx : xs = pre ++ grp n ++ rest) (h : rS xs pre.length = some (0, acc)) : rS xs (pre ++ grp n).length = some (0, oneR acc (n : Int)) := by
  unfold grp at hx ⊢
  have h1 := grpH_scan xs pre ([((n % 128 : Nat) : Int)] ++ rest) acc n hN (n / 128) (by omega) (by rw [hx]; simp only [List.append_assoc]) h
  have hat : xs.getD (pre ++ grpH (n / 128)).length 0 = ((n % 128 : Nat) : Int) := by
    rw [hx, ← List.append_assoc, List.append_assoc, getD_app_right (Nat.le_refl _), Nat.sub_self]
    rfl
  have h2 := rS_step xs _ _ _ h1
  rw [hat] at h2
  have e1 : ((n / 128 : Nat) : Int) * 128 + ((n % 128 : Nat) : Int) % 128 = (n : Int) := by omega
  rw [e1, if_neg (by omega), if_neg (by omega)] at h2
  have e2 : (pre ++ (grpH (n / 128) ++ [((n % 128 : Nat) : Int)])).length = (pre ++ grpH (n / 128)).length + 1 := by simp only [List.length_append, List.length_singleton]; omega
  rw [e2]
  exact h2
theorem take_two (l : List Int) (h : 2 ≤ l.length) : l.take 2 = [l.getD 0 0, l.getD 1 0] := by
  match l, h with
  | x :: y :: l, _ => rfl
theorem cS_scan {l : List Int} (hk : okL l = true) (hr : ∀ x ∈ l, 0 ≤ x ∧ x < 4294967296) (rest : List Int) : ∀ k, k + 2 ≤ l.length → ∀ xs, (∃ r, xs = cS l k ++ r) → rS xs (cS l k).length = some (0, l.take (k + 2))
  | 0, hl, xs, ⟨r, hx⟩ => by
    obtain ⟨q1, q2, q3, q4, q5⟩ := okL_true hk
    have r0 := getD_rngK (m := 4294967296) (by omega) hr 0
    have r1 := getD_rngK (m := 4294967296) (by omega) hr 1
    have h5 := q5 1 (by omega)
    have h := grp_scan xs [] r [] (40 * (l.getD 0 0).toNat + (l.getD 1 0).toNat) (by omega) hx rfl
    rw [List.nil_append] at h
    rw [take_two l q1]
    show rS xs (grp _).length = _
    rw [h]
    congr 2
    unfold oneR
    rw [if_neg (by simp)]
    have e : ((40 * (l.getD 0 0).toNat + (l.getD 1 0).toNat : Nat) : Int) = 40 * l.getD 0 0 + l.getD 1 0 := by omega
    rw [e]
    by_cases c0 : l.getD 0 0 = 0
    · rw [c0] at q4 ⊢
      have := q4 (by omega)
      rw [if_pos (by omega)]
      congr 2
      omega
    · by_cases c1 : l.getD 0 0 = 1
      · rw [c1] at q4 ⊢
        have := q4 (by omega)
        rw [if_neg (by omega), if_pos (by omega)]
        congr 2
        omega
      · have c2 : l.getD 0 0 = 2 := by omega
        rw [c2]
        rw [if_neg (by omega), if_neg (by omega)]
        congr 2
        omega
  | k + 1, hl, xs, ⟨r, hx⟩ => by
    obtain ⟨q1, q2, q3, q4, q5⟩ := okL_true hk
    have rk := getD_rngK (m := 4294967296) (by omega) hr (k + 2)
    have hx2 : xs = cS l k ++ grp (l.getD (k + 2) 0).toNat ++ r := hx
    have ih := cS_scan hk hr rest k (by omega) xs ⟨_, by rw [hx2, List.append_assoc]⟩
    have h := grp_scan xs (cS l k) r (l.take (k + 2)) (l.getD (k + 2) 0).toNat (by omega) hx2 ih
    show rS xs (cS l k ++ grp _).length = _
    rw [h]
    congr 2
    unfold oneR
    rw [if_pos (by rw [List.length_take]; omega)]
    have e : l.take (k + 1 + 2) = l.take (k + 2) ++ [l.getD (k + 2) 0] := by
      rw [show k + 1 + 2 = k + 2 + 1 by omega, List.take_add_one]
      simp [List.getD, show k + 2 < l.length by omega]
    rw [e]
    congr 2
    omega
theorem content_read {l : List Int} (hk : okL l = true) (hr : ∀ x ∈ l, 0 ≤ x ∧ x < 4294967296) : readL (contL l) = some l := by
  obtain ⟨q1, q2, _⟩ := okL_true hk
  have e : contL l = cS l (l.length - 2) := by unfold contL; rw [if_pos hk]
  have h := cS_scan hk hr [] (l.length - 2) (by omega) (contL l) ⟨[], by rw [e, List.append_nil]⟩
  rw [show l.length - 2 + 2 = l.length by omega, List.take_length, ← e] at h
  unfold readL
  rw [h]
  exact if_pos ⟨hk, rfl⟩
theorem read_content {xs l : List Int} (h : readL xs = some l) : contL l = xs ∧ okL l = true := by
  unfold readL at h
  split at h
  · cases h
  · split at h
    · rename_i hc
      injection h with h
      subst h
      exact ⟨hc.2, hc.1⟩
    · cases h
theorem read_nil : readL [] = none := by
  unfold readL
  have : rS [] ([] : List Int).length = some (0, []) := rfl
  rw [this]
  exact if_neg fun h => by have := h.1; revert this; decide
theorem contL_no {l : List Int} (h : okL l = false) : contL l = [] := by
  unfold contL
  rw [h]
  rfl
theorem contL_inj {a b : List Int} (ha : okL a = true) (hb : okL b = true) (hra : ∀ x ∈ a, 0 ≤ x ∧ x < 4294967296) (hrb : ∀ x ∈ b, 0 ≤ x ∧ x < 4294967296) (h : contL a = contL b) : a = b := by
  have h1 := content_read ha hra
  rw [h, content_read hb hrb] at h1
  injection h1 with h1
  exact h1.symm
theorem textS_inj {a b : List Int} (ha : okL a = true) (hb : okL b = true) (hra : ∀ x ∈ a, 0 ≤ x ∧ x < 4294967296) (hrb : ∀ x ∈ b, 0 ≤ x ∧ x < 4294967296) (h : textS a = textS b) : a = b := by
  have h1 := text_parse ha hra
  rw [h, text_parse hb hrb] at h1
  injection h1 with h1
  exact h1.symm

end Go.Proofs.YtnjoccmjembppaaDoor
