/- The library's texts beside the reference's: decimal digits, parts joined with dots, a string cut at its dots, a number read. Plain lists. -/
import Derived.Test.YtnjoccmjembppaaDoorSame9
import Derived.Lib.ItoaMem
import Derived.Lib.Join
import Derived.Lib.Split
import Derived.Lib.ParseIntBCases
namespace Go.Proofs.YtnjoccmjembppaaDoor
open Go.RowKit

def intsB (l : List UInt8) : List Int := l.map fun b => (b.toNat : Int)
theorem ints_eq (s : ByteArray) : ints s = intsB s.data.toList := rfl
theorem intsB_app (a b : List UInt8) : intsB (a ++ b) = intsB a ++ intsB b := List.map_append
theorem intsB_inj {a b : List UInt8} (h : intsB a = intsB b) : a = b :=
  (List.map_inj_right (fun x y (e : (x.toNat : Int) = (y.toNat : Int)) => UInt8.toNat_inj.1 (by omega))).1 h

theorem dec_ints (n : Nat) : intsB (Lib.decDigits n) = decL n := by
  induction n using Nat.strongRecOn with
  | _ n ih =>
    by_cases h : n < 10
    · rw [Lib.decDigits, dif_pos h, decL_one h]
      have e : (UInt8.ofNat (48 + n)).toNat = 48 + n := by rw [UInt8.toNat_ofNat']; omega
      show [((UInt8.ofNat (48 + n)).toNat : Int)] = _
      rw [e]
    · rw [Lib.decDigits, dif_neg h, decL_more h, intsB_app, ih (n / 10) (by omega)]
      have e : (UInt8.ofNat (48 + n % 10)).toNat = 48 + n % 10 := by rw [UInt8.toNat_ofNat']; omega
      congr 1
      show [((UInt8.ofNat (48 + n % 10)).toNat : Int)] = _
      rw [e]
theorem dec_nodot (n : Nat) : ∀ x ∈ Lib.decDigits n, x ≠ 46 := by
  rintro x hx rfl
  have h : ((46 : UInt8).toNat : Int) ∈ intsB (Lib.decDigits n) := List.mem_map_of_mem hx
  rw [dec_ints] at h
  have := decL_rng n _ h
  have e : ((46 : UInt8).toNat : Int) = 46 := rfl
  omega
theorem dec_pos (n : Nat) : 1 ≤ (Lib.decDigits n).length := by
  have h := decL_pos n
  rw [← dec_ints] at h
  simpa [intsB] using h

/-- Parts with a dot behind each. -/
def dotted (ps : List (List UInt8)) : List UInt8 := (ps.map (· ++ [46])).flatten
theorem dotted_cons (p : List UInt8) (ps : List (List UInt8)) : dotted (p :: ps) = p ++ 46 :: dotted ps := by
  simp [dotted]
theorem tail_dotted (r : List (List UInt8)) : Lib.joinTail [46] r ++ [46] = 46 :: dotted r := by
  induction r with
  | nil => rfl
  | cons y r ih =>
    have e : Lib.joinTail [46] (y :: r) = [46] ++ y ++ Lib.joinTail [46] r := by simp [Lib.joinTail]
    rw [e, List.append_assoc, ih, dotted_cons]
    simp
theorem join_dotted {ps : List (List UInt8)} (h : ps ≠ []) : Lib.join ps [46] ++ [46] = dotted ps := by
  match ps, h with
  | p :: r, _ => rw [Lib.join_cons, List.append_assoc, tail_dotted, dotted_cons]
theorem jn_dotted (l : List Int) : jn l = intsB (dotted (l.map fun x => Lib.decDigits x.toNat)) := by
  induction l with
  | nil => rfl
  | cons x l ih =>
    rw [List.map_cons, dotted_cons, intsB_app, dec_ints]
    show decL x.toNat ++ 46 :: jn l = decL x.toNat ++ ((46 : UInt8).toNat : Int) :: intsB _
    rw [ih]
    rfl
/-- The text of an identifier is its numbers joined. -/
theorem text_join {l : List Int} (h : okL l = true) : (⟨(Lib.join (l.map fun x => Lib.decDigits x.toNat) [46]).toArray⟩ : ByteArray) = textS l := by
  refine ints_inj ?_
  have h1 := textS_jn h
  rw [jn_dotted, ← join_dotted (by
    have := (okL_true h).1
    intro e
    have := congrArg List.length e
    simp at this
    subst this
    simp at *), intsB_app] at h1
  exact (app_one_inj h1).symm

theorem index_dot (p t : List UInt8) (h : ∀ x ∈ p, x ≠ 46) : Lib.index (p ++ 46 :: t) [46] = (p.length : Int) := by
  induction p with
  | nil => simp [Lib.index, List.isPrefixOf]
  | cons b p ih =>
    have hb : b ≠ 46 := h b (List.mem_cons_self ..)
    have h1 := ih fun x hx => h x (List.mem_cons_of_mem _ hx)
    show Lib.index (b :: (p ++ 46 :: t)) [46] = _
    unfold Lib.index
    have e : ([46] : List UInt8).isPrefixOf (b :: (p ++ 46 :: t)) = false := by
      simp [List.isPrefixOf]
      exact fun e => hb e.symm
    have e2 : ((p.length : Int) == -1) = false := by rw [beq_eq_false_iff_ne]; omega
    rw [e, h1, e2]
    simp
theorem index_nodot (p : List UInt8) (h : ∀ x ∈ p, x ≠ 46) : Lib.index p [46] = -1 := by
  induction p with
  | nil => rfl
  | cons b p ih =>
    have hb : b ≠ 46 := h b (List.mem_cons_self ..)
    have h1 := ih fun x hx => h x (List.mem_cons_of_mem _ hx)
    unfold Lib.index
    have e : ([46] : List UInt8).isPrefixOf (b :: p) = false := by
      simp [List.isPrefixOf]
      exact fun e => hb e.symm
    rw [e, h1]
    rfl
theorem split_dotted : ∀ (ps : List (List UInt8)) (k : Nat) (s : List UInt8), s ++ [46] = dotted ps → ps ≠ [] → (∀ p ∈ ps, ∀ x ∈ p, x ≠ 46) → ps.length ≤ k + 1 → Lib.splitK [46] 0 k s = ps
  | [], _, _, _, h, _, _ => absurd rfl h
  | [p], k, s, hs, _, hp, _ => by
    have e : s = p := by
      rw [dotted_cons] at hs
      exact (List.append_inj' hs rfl).1
    subst e
    have hi := index_nodot s (hp s (List.mem_cons_self ..))
    cases k with
    | zero => rfl
    | succ k => unfold Lib.splitK; rw [hi]; rfl
  | p :: q :: r, k, s, hs, _, hp, hk => by
    obtain ⟨t, ht⟩ : ∃ t, dotted (q :: r) = t ++ [46] := ⟨Lib.join (q :: r) [46], (join_dotted (by simp)).symm⟩
    have e : s = p ++ 46 :: t := by
      rw [dotted_cons, ht] at hs
      refine (List.append_inj' (t₁ := [46]) (t₂ := [46]) ?_ rfl).1
      rw [hs]
      simp
    subst e
    have hi := index_dot p t (hp p (List.mem_cons_self ..))
    match k, hk with
    | k + 1, hk =>
      have e2 : ((p.length : Int) == -1) = false := by rw [beq_eq_false_iff_ne]; omega
      unfold Lib.splitK
      rw [hi, e2]
      have e3 : (p ++ 46 :: t).take ((p.length : Int).toNat + 0) = p := by simp
      have e4 : (p ++ 46 :: t).drop ((p.length : Int).toNat + ([46] : List UInt8).length) = t := by simp
      rw [if_neg (by simp), e3, e4, split_dotted (q :: r) k t ht.symm (by simp) (fun x hx => hp x (List.mem_cons_of_mem _ hx)) (by simp at hk ⊢; omega)]

theorem parseM_app (M : Nat) : ∀ (a b : List UInt8) (acc u : Nat), Lib.parseUintM M acc a = .ok u → Lib.parseUintM M acc (a ++ b) = Lib.parseUintM M u b
  | [], _, acc, u, h => by
    obtain rfl : acc = u := by simpa [Lib.parseUintM] using h
    rfl
  | c :: a, b, acc, u, h => by
    rw [List.cons_append]
    unfold Lib.parseUintM at h
    conv => lhs; unfold Lib.parseUintM
    split at h
    · rename_i h1
      rw [if_pos h1]
      split at h
      · cases h
      · rename_i h2
        rw [if_neg h2]
        split at h
        · cases h
        · rename_i h3
          rw [if_neg h3]
          exact parseM_app M a b _ u h
    · cases h
theorem parseM_one (M acc d : Nat) (hd : d < 10) (ha : acc * 10 + d ≤ M) (hM : M < 4294967296) : Lib.parseUintM M acc [UInt8.ofNat (48 + d)] = .ok (acc * 10 + d) := by
  have e : (UInt8.ofNat (48 + d)).toNat = 48 + d := by rw [UInt8.toNat_ofNat']; omega
  unfold Lib.parseUintM
  rw [e, if_pos (by omega), if_neg (by omega), if_neg (by omega)]
  show Lib.NumEnd.ok _ = _
  congr 1
  omega
theorem parseM_dec (n : Nat) (hn : n < 4294967296) : Lib.parseUintM 4294967295 0 (Lib.decDigits n) = .ok n := by
  induction n using Nat.strongRecOn with
  | _ n ih =>
    by_cases h : n < 10
    · rw [Lib.decDigits, dif_pos h, parseM_one _ 0 n h (by omega) (by omega)]
      congr 1
      omega
    · rw [Lib.decDigits, dif_neg h, parseM_app _ _ _ _ _ (ih (n / 10) (by omega) (by omega)), parseM_one _ _ _ (by omega) (by omega) (by omega)]
      congr 1
      omega
theorem parseB_dec (n : Nat) (hn : n < 4294967296) : Lib.parseUintB 32 (Lib.decDigits n) = .ok n := by
  unfold Lib.parseUintB
  rw [if_neg (by intro e; have := dec_pos n; rw [e] at this; simp at this)]
  exact parseM_dec n hn

theorem dotted_len (ps : List (List UInt8)) : ps.length ≤ (dotted ps).length := by
  induction ps with
  | nil => exact Nat.le_refl _
  | cons p ps ih => rw [dotted_cons]; simp; omega
/-- The pieces of the text of an identifier. -/
def pieces (s : ByteArray) : List ByteArray := Lib.splitB ⟨#[46]⟩ 0 (min 21 (s.size + 1) - 1) s
theorem parse_pieces {s : ByteArray} {l : List Int} (h : parseL (ints s) = some l) : (pieces s).map (·.data.toList) = l.map fun x => Lib.decDigits x.toNat := by
  obtain ⟨h1, h2, h3⟩ := parse_text h
  have h4 := textS_jn h2
  rw [h1, jn_dotted, ints_eq] at h4
  have h5 : s.data.toList ++ [46] = dotted (l.map fun x => Lib.decDigits x.toNat) := by
    refine intsB_inj ?_
    rw [intsB_app]
    exact h4
  have h6 := okL_true h2
  have h7 := dotted_len (l.map fun x => Lib.decDigits x.toNat)
  rw [← h5, List.length_map, List.length_append] at h7
  have h8 : s.data.toList.length = s.size := by rw [Array.length_toList]; rfl
  have h9 : ([46] : List UInt8).length = 1 := rfl
  unfold pieces
  rw [Lib.splitB_data]
  refine split_dotted _ _ _ h5 ?_ ?_ ?_
  · intro e
    have := congrArg List.length e
    rw [List.length_map, List.length_nil] at this
    omega
  · intro p hp
    obtain ⟨x, _, rfl⟩ := List.mem_map.1 hp
    exact dec_nodot _
  · rw [List.length_map]
    omega
theorem parse_piece {s : ByteArray} {l : List Int} (h : parseL (ints s) = some l) (i : Nat) (p : ByteArray) (hp : (pieces s)[i]? = some p) : Lib.parseUintB 32 p.data.toList = .ok (l.getD i 0).toNat := by
  have h1 := parse_pieces h
  have h2 := congrArg (fun x => x[i]?) h1
  simp only [List.getElem?_map, hp, Option.map_some] at h2
  cases hl : l[i]? with
  | none => rw [hl] at h2; cases h2
  | some x =>
    rw [hl] at h2
    simp only [Option.map_some, Option.some.injEq] at h2
    have hx := (parse_text h).2.2 x (List.mem_of_getElem? hl)
    rw [h2, List.getD_eq_getElem?_getD, hl]
    exact parseB_dec _ (by omega)
theorem pieces_len (s : ByteArray) : (pieces s).length ≤ 21 := by
  have := Lib.splitB_length_le ⟨#[46]⟩ 0 (min 21 (s.size + 1) - 1) s
  unfold pieces
  omega
theorem parse_len {s : ByteArray} {l : List Int} (h : parseL (ints s) = some l) : (pieces s).length = l.length := by
  have h1 := congrArg List.length (parse_pieces h)
  simpa using h1

end Go.Proofs.YtnjoccmjembppaaDoor
