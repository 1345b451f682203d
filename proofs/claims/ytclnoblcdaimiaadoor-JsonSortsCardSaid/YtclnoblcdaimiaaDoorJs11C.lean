/- The text of pairs, cut at its quotation marks. -/
import Derived.Test.YtclnoblcdaimiaaDoorJs11B
import Derived.Lib.SplitLaws
import Derived.Lib.Split
namespace Go.Proofs.YtclnoblcdaimiaaDoor
open Go.RowKit
set_option linter.unusedVariables false

/-! ### Lists of bytes, cut at a byte -/
theorem pre_one (c b : UInt8) (l : List UInt8) : ([c] : List UInt8).isPrefixOf (b :: l) = (c == b) := by
  show ((c == b) && ([] : List UInt8).isPrefixOf l) = _
  rw [show ([] : List UInt8).isPrefixOf l = true by cases l <;> rfl, Bool.and_true]
theorem index_hit (c : UInt8) : ∀ (a r : List UInt8), (∀ x ∈ a, x ≠ c) → Lib.index (a ++ c :: r) [c] = a.length
  | [], r, _ => by
    show Lib.index (c :: r) [c] = _
    unfold Lib.index
    rw [pre_one, if_pos (by simp)]
    rfl
  | b :: a, r, h => by
    show Lib.index (b :: (a ++ c :: r)) [c] = _
    have ih := index_hit c a r fun x hx => h x (List.mem_cons_of_mem _ hx)
    unfold Lib.index
    rw [pre_one, if_neg (by have := h b (List.mem_cons_self ..); simpa using fun e => this e.symm), ih, if_neg (by simp)]
    simp
theorem index_miss (c : UInt8) : ∀ (a : List UInt8), (∀ x ∈ a, x ≠ c) → Lib.index a [c] = -1
  | [], _ => rfl
  | b :: a, h => by
    have ih := index_miss c a fun x hx => h x (List.mem_cons_of_mem _ hx)
    unfold Lib.index
    rw [pre_one, if_neg (by have := h b (List.mem_cons_self ..); simpa using fun e => this e.symm), ih]
    rfl
theorem splitK_hit (c : UInt8) (k : Nat) (a r : List UInt8) (h : ∀ x ∈ a, x ≠ c) : Lib.splitK [c] 0 (k + 1) (a ++ c :: r) = a :: Lib.splitK [c] 0 k r := by
  show (if Lib.index (a ++ c :: r) [c] == -1 then _ else _) = _
  rw [index_hit c a r h, if_neg (by simp)]
  congr 1
  · simp
  · congr 1
    have e : ((a.length : Int)).toNat + [c].length = (a ++ [c]).length := by simp
    rw [e, show a ++ c :: r = (a ++ [c]) ++ r by simp, List.drop_left]

/-! ### The text of pairs from its first quotation mark on -/
abbrev uL (s : ByteArray) : List UInt8 := s.data.toList
def restU : List P2 → List UInt8
  | [] => []
  | [p] => uL p.1 ++ 34 :: ([58] ++ 34 :: (uL p.2 ++ 34 :: [125]))
  | p :: q :: r => uL p.1 ++ 34 :: ([58] ++ 34 :: (uL p.2 ++ 34 :: ([44] ++ 34 :: restU (q :: r))))
def pcsU : List P2 → List (List UInt8)
  | [] => []
  | p :: r => uL p.1 :: [58] :: uL p.2 :: (match r with | [] => [[125]] | _ :: _ => [44] :: pcsU r)
def pcsB : List P2 → List ByteArray
  | [] => []
  | p :: r => p.1 :: ⟨#[58]⟩ :: p.2 :: (match r with | [] => [⟨#[125]⟩] | _ :: _ => ⟨#[44]⟩ :: pcsB r)
theorem pcsB_map : ∀ l : List P2, (pcsB l).map uL = pcsU l
  | [] => rfl
  | p :: r => by
    show uL p.1 :: [58] :: uL p.2 :: _ = _
    cases r with
    | nil => rfl
    | cons q r =>
      show uL p.1 :: [58] :: uL p.2 :: [44] :: (pcsB (q :: r)).map uL = _
      rw [pcsB_map (q :: r)]
      rfl
theorem pcsB_len : ∀ l : List P2, (pcsB l).length = 4 * l.length
  | [] => rfl
  | p :: r => by
    cases r with
    | nil => rfl
    | cons q r =>
      show (pcsB (q :: r)).length + 1 + 1 + 1 + 1 = _
      rw [pcsB_len (q :: r)]
      simp only [List.length_cons]
      omega
theorem pcsB_at : ∀ (l : List P2) (i : Nat), i < l.length → (pcsB l)[4 * i]? = some (l.getD i default).1 ∧ (pcsB l)[4 * i + 2]? = some (l.getD i default).2
  | [], i, h => absurd h (Nat.not_lt_zero i)
  | p :: r, 0, _ => ⟨rfl, rfl⟩
  | p :: r, i + 1, h => by
    cases r with
    | nil => simp at h
    | cons q r =>
      have ih := pcsB_at (q :: r) i (by simpa using h)
      have e : pcsB (p :: q :: r) = [p.1, ⟨#[58]⟩, p.2, ⟨#[44]⟩] ++ pcsB (q :: r) := rfl
      rw [e, show 4 * (i + 1) = 4 + 4 * i by omega, show 4 + 4 * i + 2 = 4 + (4 * i + 2) by omega]
      constructor
      · rw [List.getElem?_append_right (by simp)]
        simpa using ih.1
      · rw [List.getElem?_append_right (by simp)]
        simpa using ih.2
theorem let_ne {s : ByteArray} (h : ∀ x ∈ ints s, letB x = true) : ∀ x ∈ uL s, x ≠ 34 := by
  intro x hx e
  have := letB_ne (h _ (List.mem_map_of_mem (f := fun b : UInt8 => (b.toNat : Int)) hx))
  subst e
  exact this rfl
theorem plain_ne {s : ByteArray} (h : ∀ x ∈ ints s, plainB x = true) : ∀ x ∈ uL s, x ≠ 34 := by
  intro x hx e
  have := plainB_ne (h _ (List.mem_map_of_mem (f := fun b : UInt8 => (b.toNat : Int)) hx))
  subst e
  exact this rfl
theorem split_rest : ∀ (l : List P2), l ≠ [] → Loose l → Lib.splitK [34] 0 (4 * l.length - 1) (restU l) = pcsU l
  | [], h, _ => absurd rfl h
  | p :: r, _, hl => by
    have hp := hl p (List.mem_cons_self ..)
    have h58 : ∀ x ∈ ([58] : List UInt8), x ≠ 34 := by decide
    have h44 : ∀ x ∈ ([44] : List UInt8), x ≠ 34 := by decide
    cases r with
    | nil =>
      show Lib.splitK [34] 0 (2 + 1) (uL p.1 ++ 34 :: ([58] ++ 34 :: (uL p.2 ++ 34 :: [125]))) = _
      rw [splitK_hit 34 2 _ _ (let_ne hp.2.1), splitK_hit 34 1 _ _ h58, splitK_hit 34 0 _ _ (plain_ne hp.2.2)]
      rfl
    | cons q r =>
      have ih := split_rest (q :: r) (by simp) fun x hx => hl x (List.mem_cons_of_mem _ hx)
      show Lib.splitK [34] 0 _ (uL p.1 ++ 34 :: ([58] ++ 34 :: (uL p.2 ++ 34 :: ([44] ++ 34 :: restU (q :: r))))) = _
      rw [show 4 * (p :: q :: r).length - 1 = (4 * (q :: r).length - 1) + 1 + 1 + 1 + 1 by simp only [List.length_cons]; omega]
      rw [splitK_hit 34 _ _ _ (let_ne hp.2.1), splitK_hit 34 _ _ _ h58, splitK_hit 34 _ _ _ (plain_ne hp.2.2), splitK_hit 34 _ _ _ h44, ih]
      rfl
theorem count_no {c : UInt8} {a : List UInt8} (h : ∀ x ∈ a, x ≠ c) : a.count c = 0 := List.count_eq_zero.2 fun hc => h c hc rfl
theorem count_rest : ∀ (l : List P2), l ≠ [] → Loose l → (restU l).count 34 = 4 * l.length - 1
  | [], h, _ => absurd rfl h
  | p :: r, _, hl => by
    have hp := hl p (List.mem_cons_self ..)
    have c1 := count_no (let_ne hp.2.1)
    have c2 := count_no (plain_ne hp.2.2)
    cases r with
    | nil =>
      show (uL p.1 ++ 34 :: ([58] ++ 34 :: (uL p.2 ++ 34 :: [125]))).count 34 = _
      simp only [List.count_append, List.count_cons, c1, c2, List.count_nil]
      rfl
    | cons q r =>
      have ih := count_rest (q :: r) (by simp) fun x hx => hl x (List.mem_cons_of_mem _ hx)
      show (uL p.1 ++ 34 :: ([58] ++ 34 :: (uL p.2 ++ 34 :: ([44] ++ 34 :: restU (q :: r))))).count 34 = _
      simp only [List.count_append, List.count_cons, c1, c2, ih, List.count_nil, List.length_cons]
      simp
      omega

/-! ### The text of pairs is what stands there -/
def toI (l : List UInt8) : List Int := l.map fun b => (b.toNat : Int)
theorem toI_inj {a b : List UInt8} (h : toI a = toI b) : a = b :=
  (List.map_inj_right (f := fun b : UInt8 => (b.toNat : Int)) (fun a b hab => by
    have : a.toNat = b.toNat := by exact_mod_cast hab
    exact UInt8.toNat_inj.1 this)).1 h
theorem toI_app (a b : List UInt8) : toI (a ++ b) = toI a ++ toI b := List.map_append
/-- What follows a pair. -/
def tailI : List P2 → List Int
  | [] => [125]
  | q :: r => 44 :: (pI q ++ tailI r)
theorem textI_cons : ∀ (r : List P2) (acc : List P2) (p : P2), preI acc ++ pI p ++ tailI r = textI (acc ++ p :: r)
  | [], acc, p => by rw [textI_snoc]; rfl
  | q :: r, acc, p => by
    have ih := textI_cons r (acc ++ [p]) q
    rw [preI_snoc] at ih
    show preI acc ++ pI p ++ 44 :: (pI q ++ tailI r) = _
    rw [show acc ++ p :: q :: r = acc ++ [p] ++ q :: r by simp, ← ih]
    simp
theorem toI_rest : ∀ (r : List P2) (p : P2), toI (34 :: restU (p :: r)) = pI p ++ tailI r
  | [], p => by
    show toI (34 :: (uL p.1 ++ 34 :: ([58] ++ 34 :: (uL p.2 ++ 34 :: [125])))) = _
    unfold pI tailI ints toI
    simp
  | q :: r, p => by
    have ih := toI_rest r q
    show toI (34 :: (uL p.1 ++ 34 :: ([58] ++ 34 :: (uL p.2 ++ 34 :: ([44] ++ 34 :: restU (q :: r)))))) = pI p ++ 44 :: (pI q ++ tailI r)
    rw [← ih]
    unfold pI ints toI
    simp
theorem text_data (p : P2) (r : List P2) : uL (textP (p :: r)) = [123] ++ 34 :: restU (p :: r) := by
  apply toI_inj
  have h1 : toI (uL (textP (p :: r))) = textI (p :: r) := ints_textP (p :: r)
  have h2 := textI_cons r [] p
  rw [h1, show p :: r = [] ++ p :: r from rfl, ← h2, toI_app]
  have h3 := toI_rest r p
  rw [show ([] : List P2) ++ p :: r = p :: r from rfl, h3]
  rfl
/-- The string is cut at its first quotation mark. -/
theorem cut_text (p : P2) (r : List P2) : Lib.cut (uL (textP (p :: r))) [34] = ([123], restU (p :: r), true) := by
  rw [text_data]
  unfold Lib.cut
  rw [index_hit 34 [123] _ (by decide), if_pos (by simp)]
  rfl
theorem cut_none : Lib.cut (uL (textP [])) [34] = ([123, 125], [], false) := by
  have e : uL (textP []) = [123, 125] := rfl
  rw [e]
  unfold Lib.cut
  rw [index_miss 34 [123, 125] (by decide), if_neg (by decide)]
theorem uL_inj {a b : ByteArray} (h : uL a = uL b) : a = b := by
  have : a.data = b.data := Array.toList_inj.1 h
  cases a
  cases b
  simpa using this
theorem map_uL_inj {a b : List ByteArray} (h : a.map uL = b.map uL) : a = b :=
  (List.map_inj_right (f := uL) (fun a b hab => uL_inj hab)).1 h
/-- The rest is split at its quotation marks. -/
theorem split_text (l : List P2) (h0 : l ≠ []) (hl : Loose l) : Lib.countB (⟨(restU l).toArray⟩ : ByteArray) ⟨#[34]⟩ = 4 * l.length - 1 ∧ Lib.splitB ⟨#[34]⟩ 0 (4 * l.length - 1) ⟨(restU l).toArray⟩ = pcsB l := by
  constructor
  · show Lib.count (restU l) [34] = _
    rw [Lib.count_one, count_rest l h0 hl]
  · apply map_uL_inj
    rw [pcsB_map]
    have h := Lib.splitB_data (⟨#[34]⟩ : ByteArray) 0 (4 * l.length - 1) ⟨(restU l).toArray⟩
    exact h.trans (split_rest l h0 hl)
/-- Pairs are told by their text. -/
theorem text_inj {l k : List P2} (hl : Loose l) (hk : Loose k) (h : textI l = textI k) : l = k := by
  have e : textP l = textP k := ints_inj (by rw [ints_textP, ints_textP, h])
  cases l with
  | nil =>
    cases k with
    | nil => rfl
    | cons q s =>
      have h1 := cut_none
      rw [e, cut_text] at h1
      cases h1
  | cons p r =>
    cases k with
    | nil =>
      have h1 := cut_none
      rw [← e, cut_text] at h1
      cases h1
    | cons q s =>
      have h1 := cut_text p r
      rw [e, cut_text] at h1
      have h2 : restU (q :: s) = restU (p :: r) := by injection h1 with _ h1; injection h1
      have c1 := count_rest _ (by simp) hl
      have c2 := count_rest _ (by simp) hk
      rw [h2, c1] at c2
      simp only [List.length_cons] at c2
      have hlen : r.length = s.length := by omega
      have s1 := split_text _ (by simp) hl
      have s2 := split_text _ (by simp) hk
      rw [h2] at s2
      have hP : pcsB (p :: r) = pcsB (q :: s) := by
        rw [← s1.2, ← s2.2]
        simp only [List.length_cons, hlen]
      refine same_all (by simp [hlen]) fun j hj => ?_
      have a1 := pcsB_at (p :: r) j hj
      have a2 := pcsB_at (q :: s) j (by simpa [hlen] using hj)
      rw [hP] at a1
      have b1 := a1.1.symm.trans a2.1
      have b2 := a1.2.symm.trans a2.2
      injection b1 with b1
      injection b2 with b2
      exact Prod.ext b1 b2

end Go.Proofs.YtclnoblcdaimiaaDoor
