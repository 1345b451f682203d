/- The encoding of a tree of the right shape is read as that tree. -/
import Derived.Test.YtmhgpdfllpgjpaaDoorRd10C
namespace Go.Proofs.YtmhgpdfllpgjpaaDoor
open Go.RowKit
set_option linter.unusedVariables false

mutual
/-- A tree whose parts are of Go's ranges. -/
def okT : T → Prop
  | .node _ nm bs ks => (0 ≤ nm ∧ nm < 18446744073709551616) ∧ bs.length < 18446744073709551616 ∧ ks.length < 18446744073709551616 ∧ okTL ks
def okTL : List T → Prop
  | [] => True
  | k :: ks => okT k ∧ okTL ks
end
theorem okTL_mem : ∀ (ks : List T) (t : T), t ∈ ks → okTL ks → okT t
  | [], t, h, _ => by cases h
  | k :: ks, t, h, ho => by
    rcases List.mem_cons.1 h with rfl | h
    · exact ho.1
    · exact okTL_mem ks t h ho.2
theorem txtL_acc : ∀ (ks : List T) (a : List Int), txtL ks a = a ++ txtL ks []
  | [], a => by simp [txtL]
  | k :: ks, a => by
    rw [txtL_cons, txtL_cons, txtL_acc ks (a ++ txt k), txtL_acc ks ([] ++ txt k), List.nil_append, List.append_assoc]
theorem shpL_mem : ∀ (ks : List T) (t : T), t ∈ ks → shpL ks = true → shp t = true
  | [], t, h, _ => by cases h
  | k :: ks, t, h, ho => by
    have ho' : (shp k && shpL ks) = true := ho
    rw [Bool.and_eq_true] at ho'
    rcases List.mem_cons.1 h with rfl | h
    · exact ho'.1
    · exact shpL_mem ks t h ho'.2
theorem depL_mem (f : Nat) : ∀ (ks : List T) (a : Nat), depL ks a ≤ f + 1 → ∀ t ∈ ks, dep t ≤ f
  | [], _, _, t, h => by cases h
  | k :: ks, a, hd, t, h => by
    have hd' : depL ks (max a (1 + dep k)) ≤ f + 1 := hd
    have h1 := depL_one ks (max a (1 + dep k))
    rcases List.mem_cons.1 h with rfl | h
    · omega
    · exact depL_mem f ks _ hd' t h
theorem ordN_all (ks : List T) (n i : Nat) (hi : i < n) (h : ordN ks n = true) : ordAt ks i = true := by
  cases ho : ordAt ks i with
  | true => rfl
  | false => rw [ordN_at ks n i hi ho] at h; cases h
theorem szOf_hlow (n : Nat) : szOf (hlow n) = hsz n := by
  unfold hsz szOf hlow
  repeat' split
  all_goals omega
theorem hsz_bd (n : Nat) (h : n < 18446744073709551616) (h24 : ¬ n < 24) : (n : Int) < 256 ^ hsz n := by
  unfold hsz
  repeat' split
  all_goals (first | omega | (simp only [Int.reducePow]; omega))
theorem findBad_all : ∀ (xs : List Int) (i : Nat), asciiB xs = true → findBad xs i = none
  | [], i, _ => rfl
  | x :: xs, i, h => by
    unfold asciiB at h
    rw [List.all_cons, Bool.and_eq_true, decide_eq_true_iff] at h
    unfold findBad
    rw [if_pos h.1]
    exact findBad_all xs (i + 1) h.2

/-- A head in its place. -/
theorem head_put {b : List Int} {p kd n : Nat} {rest : List Int} (hb : b.drop p = headB kd n ++ rest) (hk : kd ≤ 5) (hn : n < 18446744073709551616) :
    p < b.length ∧ (b.getD p 0).toNat / 32 = kd ∧ (b.getD p 0).toNat % 32 = hlow n ∧ p + 1 + hsz n ≤ b.length ∧ numAt b p (hlow n) = n ∧ b.drop (p + 1 + hsz n) = rest := by
  have hl := congrArg List.length hb
  rw [List.length_drop, List.length_append, headB_len] at hl
  have hp : p < b.length := by omega
  have hlo := hlow_le n
  have ed : b.drop p = b.getD p 0 :: b.drop (p + 1) := by
    rw [List.drop_eq_getElem_cons hp, List.getD_eq_getElem?_getD, List.getElem?_eq_getElem hp]
    rfl
  have hb2 := hb
  rw [ed] at hb2
  unfold headB at hb2
  rw [List.cons_append] at hb2
  injection hb2 with e1 e2
  have hd : b.drop (p + 1 + hsz n) = rest := by
    rw [← List.drop_drop, e2, List.drop_append_of_le_length (by rw [beB_len]; exact Nat.le_refl _), List.drop_of_length_le (by rw [beB_len]; exact Nat.le_refl _), List.nil_append]
  refine ⟨hp, ?_, ?_, by omega, ?_, hd⟩
  · rw [e1, Int.toNat_natCast]; omega
  · rw [e1, Int.toNat_natCast]; omega
  · unfold numAt
    by_cases h24 : n < 24
    · have e : hlow n = n := by unfold hlow; rw [if_pos h24]
      rw [e, if_pos h24]
    · have h24' : ¬ hlow n < 24 := by
        unfold hlow
        repeat' split
        all_goals omega
      rw [if_neg h24', szOf_hlow, e2, List.take_append_of_le_length (by rw [beB_len]; exact Nat.le_refl _), List.take_of_length_le (by rw [beB_len]; exact Nat.le_refl _), beI_beB _ _ (by omega), Int.emod_eq_of_lt (by omega) (hsz_bd n hn h24), Int.toNat_natCast]

theorem items_put {b : List Int} {rc : Nat → R10} (mp : Bool) : ∀ (n : Nat) (us acc : List T) (nx : Nat) (rest : List Int),
    (∀ k ∈ us, ∀ q rest, b.drop q = txt k ++ rest → rc q = .good k (q + (txt k).length)) →
    b.drop nx = txtL us [] ++ rest → us.length = (if mp = true then 2 * n else n) → (mp = true → acc.length % 2 = 0 ∧ ordN (acc ++ us) (acc ++ us).length = true) →
    itemsR rc mp n nx acc = .inr (acc ++ us, nx + (txtL us []).length)
  | 0, us, acc, nx, rest, hrc, hb, hl, hm => by
    have h0 : us = [] := List.length_eq_zero_iff.1 (by rw [hl]; cases mp <;> rfl)
    subst h0
    show Sum.inr (acc, nx) = _
    simp [txtL]
  | n + 1, us, acc, nx, rest, hrc, hb, hl, hm => by
    cases mp with
    | false =>
      obtain ⟨k, us, rfl⟩ : ∃ k us', us = k :: us' := by cases us with | nil => simp at hl | cons k us => exact ⟨k, us, rfl⟩
      have et : txtL (k :: us) [] = txt k ++ txtL us [] := by rw [txtL_cons, List.nil_append, txtL_acc]
      rw [et, List.append_assoc] at hb
      have h1 := hrc k List.mem_cons_self nx _ hb
      have hb2 : b.drop (nx + (txt k).length) = txtL us [] ++ rest := by rw [← List.drop_drop, hb, List.drop_append_of_le_length (Nat.le_refl _), List.drop_length, List.nil_append]
      have ih := items_put (b := b) (rc := rc) false n us (acc ++ [k]) (nx + (txt k).length) rest (fun t ht => hrc t (List.mem_cons_of_mem _ ht)) hb2 (by simpa using hl) (fun h => by cases h)
      unfold itemsR
      rw [h1]
      simp only
      rw [if_neg (by simp), ih, et, List.length_append, List.append_assoc, Nat.add_assoc]
      rfl
    | true =>
      obtain ⟨k, v, us, rfl⟩ : ∃ k v us', us = k :: v :: us' := by
        cases us with
        | nil => simp at hl
        | cons k us => cases us with
          | nil => simp at hl; omega
          | cons v us => exact ⟨k, v, us, rfl⟩
      obtain ⟨hm1, hm2⟩ := hm rfl
      have et : txtL (k :: v :: us) [] = txt k ++ (txt v ++ txtL us []) := by rw [txtL_cons, txtL_cons, List.nil_append, txtL_acc, List.append_assoc]
      rw [et, List.append_assoc, List.append_assoc] at hb
      have h1 := hrc k List.mem_cons_self nx _ hb
      have hb2 : b.drop (nx + (txt k).length) = txt v ++ (txtL us [] ++ rest) := by rw [← List.drop_drop, hb, List.drop_append_of_le_length (Nat.le_refl _), List.drop_length, List.nil_append]
      have h2 := hrc v (List.mem_cons_of_mem _ List.mem_cons_self) _ _ hb2
      have hb3 : b.drop (nx + (txt k).length + (txt v).length) = txtL us [] ++ rest := by rw [← List.drop_drop, hb2, List.drop_append_of_le_length (Nat.le_refl _), List.drop_length, List.nil_append]
      have ea : acc ++ k :: v :: us = (acc ++ [k, v]) ++ us := by rw [List.append_assoc]; rfl
      have ih := items_put (b := b) (rc := rc) true n us (acc ++ [k, v]) (nx + (txt k).length + (txt v).length) rest (fun t ht => hrc t (List.mem_cons_of_mem _ (List.mem_cons_of_mem _ ht))) hb3
        (by simp only [List.length_cons, if_true] at hl ⊢; omega) (fun _ => ⟨by rw [List.length_append]; show (acc.length + 2) % 2 = 0; omega, by rw [← ea]; exact hm2⟩)
      have hnb : ¬ (acc ≠ [] ∧ befB (txt (acc.getD (acc.length - 2) default)) (txt k) = false) := by
        rintro ⟨hne, hf⟩
        have hlen : 0 < acc.length := List.length_pos_iff.2 hne
        have ho := ordN_all _ _ acc.length (by rw [List.length_append, List.length_cons]; omega) hm2
        unfold ordAt at ho
        have g1 : (acc ++ k :: v :: us).getD (acc.length - 2) default = acc.getD (acc.length - 2) default := by
          rw [List.getD_eq_getElem?_getD, List.getD_eq_getElem?_getD, List.getElem?_append_left (by omega)]
        have g2 : (acc ++ k :: v :: us).getD acc.length default = k := by
          rw [List.getD_eq_getElem?_getD, List.getElem?_append_right (Nat.le_refl _), Nat.sub_self]
          rfl
        rw [g1, g2, hf, decide_eq_true (by omega)] at ho
        cases ho
      unfold itemsR
      rw [h1]
      simp only
      rw [if_pos trivial, if_neg hnb, h2]
      simp only
      rw [ih, et, ← ea, List.length_append, List.length_append]
      congr 2
      omega
end Go.Proofs.YtmhgpdfllpgjpaaDoor
