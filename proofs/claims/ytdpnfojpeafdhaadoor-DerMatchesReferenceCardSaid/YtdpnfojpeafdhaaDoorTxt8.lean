/- What is read is what was written: the text of a node that the reference reads, and the node that it reads from a text. -/
import Derived.Test.YtdpnfojpeafdhaaDoorRef8P
namespace Go.Proofs.YtdpnfojpeafdhaaDoor
open Go.RowKit
set_option linter.unusedVariables false

/-- The bytes from a to b. -/
def seg (xs : List Int) (a b : Nat) : List Int := (xs.drop a).take (b - a)
theorem seg_len (xs : List Int) (a b : Nat) (hb : b ≤ xs.length) : (seg xs a b).length = b - a := by
  unfold seg
  rw [List.length_take, List.length_drop]
  omega
theorem seg_app (xs : List Int) (a b c : Nat) (h1 : a ≤ b) (h2 : b ≤ c) : seg xs a b ++ seg xs b c = seg xs a c := by
  unfold seg
  have e : xs.drop b = (xs.drop a).drop (b - a) := by rw [List.drop_drop]; congr 1; omega
  rw [e, show c - a = (b - a) + (c - b) by omega, List.take_add]
theorem seg_one (xs : List Int) (a : Nat) (h : a < xs.length) : seg xs a (a + 1) = [xs.getD a 0] := by
  unfold seg
  rw [Nat.add_sub_cancel_left, List.drop_eq_getElem_cons h, List.getD_eq_getElem?_getD, List.getElem?_eq_getElem h]
  rfl
theorem seg_nil (xs : List Int) (a : Nat) : seg xs a a = [] := by
  unfold seg
  rw [Nat.sub_self, List.take_zero]
theorem seg_all (xs : List Int) : seg xs 0 xs.length = xs := by
  unfold seg
  rw [List.drop_zero, Nat.sub_zero, List.take_length]

section
variable {xs : List Int} (hr : ∀ i, 0 ≤ xs.getD i 0 ∧ xs.getD i 0 < 256)
include hr
theorem numB_beN (p : Nat) : ∀ k, p + k ≤ xs.length → (numB (beN xs p k)).length = k → numB (beN xs p k) = seg xs p (p + k)
  | 0, _, _ => by rw [Nat.add_zero, seg_nil, show beN xs p 0 = 0 from rfl, numB_zero]
  | k + 1, h, hl => by
    have hb := hr (p + k)
    have e : beN xs p (k + 1) = beN xs p k * 256 + (xs.getD (p + k) 0).toNat := rfl
    have h0 : beN xs p (k + 1) ≠ 0 := by
      intro e0
      rw [e0, numB_zero] at hl
      cases hl
    have hd : beN xs p (k + 1) / 256 = beN xs p k := by rw [e]; omega
    have hm : ((beN xs p (k + 1) % 256 : Nat) : Int) = xs.getD (p + k) 0 := by rw [e]; omega
    rw [numB_pos h0, hd, hm] at hl ⊢
    rw [List.length_append] at hl
    rw [numB_beN p k (by omega) (by simpa using hl), ← seg_one xs (p + k) (by omega), seg_app _ _ _ _ (by omega) (by omega), Nat.add_assoc]
theorem beN_numB (p : Nat) : ∀ k l, seg xs p (p + k) = numB l → p + k ≤ xs.length → beN xs p k = l
  | 0, l, h, _ => by
    rw [Nat.add_zero, seg_nil] at h
    by_cases h0 : l = 0
    · rw [h0]
      rfl
    · rw [numB_pos h0] at h
      simp at h
  | k + 1, l, h, hp => by
    have hb := hr (p + k)
    rw [← Nat.add_assoc, ← seg_app xs p (p + k) (p + k + 1) (by omega) (by omega), seg_one xs (p + k) (by omega)] at h
    by_cases h0 : l = 0
    · rw [h0, numB_zero] at h
      simp at h
    · rw [numB_pos h0] at h
      obtain ⟨h1, h2⟩ := List.append_inj' h rfl
      have ih := beN_numB p k (l / 256) h1 (by omega)
      have h3 : xs.getD (p + k) 0 = ((l % 256 : Nat) : Int) := by simpa using h2
      show beN xs p k * 256 + (xs.getD (p + k) 0).toNat = l
      rw [ih, h3]
      omega

/-- The length that is read is written so. -/
theorem hdr_txt {at0 fin nx l : Nat} (hf : fin ≤ xs.length) (h : hdr xs at0 fin = .ok nx l) : seg xs (at0 + 1) nx = lenB l ∧ nx ≤ fin ∧ at0 + 2 ≤ nx := by
  have hb := hr (at0 + 1)
  unfold hdr at h
  obtain ⟨L, hL⟩ : ∃ L, (xs.getD (at0 + 1) 0).toNat = L := ⟨_, rfl⟩
  rw [hL] at h
  by_cases h1 : fin ≤ at0 + 1
  · rw [if_pos h1] at h
    cases h
  · rw [if_neg h1] at h
    by_cases h2 : L = 128 ∨ 131 < L
    · rw [if_pos h2] at h
      cases h
    · rw [if_neg h2] at h
      by_cases h3 : 128 < L
      · rw [if_pos h3] at h
        by_cases h4 : fin < at0 + 2 + (L - 128)
        · rw [if_pos h4] at h
          cases h
        · rw [if_neg h4] at h
          by_cases h5 : beN xs (at0 + 2) (L - 128) < 128 ∨ (numB (beN xs (at0 + 2) (L - 128))).length ≠ L - 128
          · rw [if_pos h5] at h
            cases h
          · rw [if_neg h5] at h
            injection h with h6 h7
            subst h6 h7
            have h8 : (numB (beN xs (at0 + 2) (L - 128))).length = L - 128 := by
              refine Decidable.byContradiction fun hn => h5 (.inr hn)
            refine ⟨?_, by omega, by omega⟩
            unfold lenB
            rw [if_neg (by omega), h8, numB_beN hr (at0 + 2) (L - 128) (by omega) h8]
            rw [← seg_app xs (at0 + 1) (at0 + 2) _ (by omega) (by omega), seg_one xs (at0 + 1) (by omega)]
            show _ :: _ = _
            rw [show xs.getD (at0 + 1) 0 = ((128 + (L - 128) : Nat) : Int) by omega]
            rfl
      · rw [if_neg h3] at h
        injection h with h6 h7
        subst h6 h7
        refine ⟨?_, by omega, Nat.le_refl _⟩
        unfold lenB
        rw [if_pos (by omega), seg_one xs (at0 + 1) (by omega), ← hL]
        congr 1
        omega

omit hr in
theorem shp_leaf (tag : Int) (bs : List Int) (ht : tagB tag = true) (hs : simB tag = true) : shp (.node tag bs []) = true := by simp [shp, shpL, okB, ht, hs]
omit hr in
theorem shp_comp (tag : Int) (ks : List T) (ht : tagB tag = true) (hs : simB tag = false) (hk : shpL ks = true) : shp (.node tag [] ks) = true := by simp [shp, okB, ht, hs, hk]
/-- What is told of a node that was read. -/
def Told (xs : List Int) (lv a : Nat) (t : T) (n : Nat) : Prop := txt t = seg xs a n ∧ dep t ≤ lv ∧ shp t = true ∧ cnt t ≤ n - a
omit hr in
theorem kidsW_txt {r : Nat → Nat → Res} {tag : Int} {stop lv : Nat} (h : ∀ a t n, r a stop = .ok t n → Told xs lv a t n ∧ a + 2 ≤ n ∧ n ≤ stop) :
    ∀ f nx acc t nx', nx ≤ stop → stop ≤ nx + f → shpL acc = true → depL acc 1 ≤ lv + 1 → kidsW r tag stop f nx acc = .ok t nx' →
      ∃ ks, t = .node tag [] ks ∧ nx' = stop ∧ txtL ks [] = txtL acc [] ++ seg xs nx stop ∧ depL ks 1 ≤ lv + 1 ∧ shpL ks = true ∧ cntL ks 1 ≤ cntL acc 1 + (stop - nx)
  | 0, nx, acc, t, nx', h1, h2, hs, hd, hk => by
    simp only [kidsW] at hk
    injection hk with e1 e2
    obtain rfl : nx = stop := by omega
    exact ⟨acc, e1.symm, e2.symm, by rw [seg_nil, List.append_nil], hd, hs, by omega⟩
  | f + 1, nx, acc, t, nx', h1, h2, hs, hd, hk => by
    simp only [kidsW] at hk
    by_cases hlt : nx < stop
    · rw [if_pos hlt] at hk
      cases hq : r nx stop with
      | err c a => rw [hq] at hk; cases hk
      | ok t1 n1 =>
        rw [hq] at hk
        obtain ⟨⟨q1, q2, q3, q4⟩, q5, q6⟩ := h _ _ _ hq
        obtain ⟨ks, a1, a2, a3, a4, a5, a6⟩ := kidsW_txt h f n1 (acc ++ [t1]) t nx' q6 (by omega) (by rw [shpL_snoc, hs, q3]; rfl) (by rw [depL_snoc]; omega) hk
        refine ⟨ks, a1, a2, ?_, a4, a5, ?_⟩
        · rw [a3, txtL_snoc, q1, List.append_assoc, seg_app _ _ _ _ (by omega) q6]
        · rw [cntL_snoc] at a6
          omega
    · rw [if_neg hlt] at hk
      injection hk with e1 e2
      obtain rfl : nx = stop := by omega
      exact ⟨acc, e1.symm, e2.symm, by rw [seg_nil, List.append_nil], hd, hs, by omega⟩
theorem rd_txt : ∀ lv at0 fin t nx, fin ≤ xs.length → rd xs lv at0 fin = .ok t nx → Told xs lv at0 t nx
  | 0, at0, fin, t, nx, hf, h => by
    simp only [rd] at h
    repeat' split at h
    all_goals cases h
  | lv + 1, at0, fin, t, nx, hf, h => by
    have hnx := rd_next xs (lv + 1) at0 fin t nx h
    simp only [rd] at h
    by_cases c1 : fin ≤ at0
    · rw [if_pos c1] at h
      cases h
    · rw [if_neg c1] at h
      cases ht : tagB (xs.getD at0 0) with
      | false => rw [ht] at h; simp at h
      | true =>
        rw [ht] at h
        rw [if_neg (by decide)] at h
        cases hq : hdr xs at0 fin with
        | err c a => rw [hq] at h; cases h
        | ok n1 l =>
          rw [hq] at h
          obtain ⟨q1, q2, q3⟩ := hdr_txt hr hf hq
          simp only at h
          have hh : ∀ c : List Int, c.length = l → c = seg xs n1 (n1 + l) → n1 + l ≤ xs.length → headB (xs.getD at0 0) c = seg xs at0 (n1 + l) := fun c hc he hx => by
            unfold headB
            rw [hc, ← q1, he, ← seg_app xs at0 (at0 + 1) (n1 + l) (by omega) (by omega), ← seg_app xs (at0 + 1) n1 (n1 + l) (by omega) (by omega), seg_one xs at0 (by omega)]
            rfl
          by_cases c2 : fin < n1 + l
          · rw [if_pos c2] at h
            cases h
          · rw [if_neg c2] at h
            have hsl : (seg xs n1 (n1 + l)).length = l := by rw [seg_len xs _ _ (by omega)]; omega
            by_cases c3 : simB (xs.getD at0 0) = true
            · rw [if_pos c3] at h
              injection h with h2 h3
              subst h2 h3
              have hse : (xs.drop n1).take l = seg xs n1 (n1 + l) := by unfold seg; rw [Nat.add_sub_cancel_left]
              rw [hse]
              refine ⟨hh _ hsl rfl (by omega), by show depL [] 1 ≤ _; simp [depL], shp_leaf _ _ ht c3, by show cntL [] 1 ≤ _; simp only [cntL]; omega⟩
            · rw [if_neg c3] at h
              obtain ⟨ks, a1, a2, a3, a4, a5, a6⟩ := kidsW_txt (xs := xs) (lv := lv) (fun a t n hr2 => ⟨rd_txt lv a _ t n (by omega) hr2, by have := rd_next xs lv a _ t n hr2; omega⟩) _ _ _ _ _ (by omega) (by omega) rfl (by simp [depL]) h
              subst a1 a2
              have a3' : txtL ks [] = seg xs n1 (n1 + l) := by rw [a3]; rfl
              have c3' : simB (xs.getD at0 0) = false := by simpa using c3
              refine ⟨?_, a4, shp_comp _ _ ht c3' a5, ?_⟩
              · show headB _ (txtL ks []) = _
                exact hh _ (by rw [a3']; exact hsl) a3' (by omega)
              · show cntL ks 1 ≤ _
                simp only [cntL] at a6
                omega
theorem parse_txt {t : T} {n nx : Nat} (hn : xs.length = n) (h : parseW xs n = .ok t nx) : txt t = xs ∧ dep t ≤ 8 ∧ shp t = true ∧ cnt t ≤ n := by
  unfold parseW at h
  cases hq : rd xs 8 0 n with
  | err c a => rw [hq] at h; cases h
  | ok t1 n1 =>
    rw [hq] at h
    have h1 := rd_next xs 8 0 n t1 n1 hq
    simp only at h
    split at h
    · cases h
    · injection h with h2 h3
      subst h2 h3
      obtain rfl : n1 = n := by omega
      obtain ⟨q1, q2, q3, q4⟩ := rd_txt hr 8 0 _ _ _ (by omega) hq
      refine ⟨?_, q2, q3, by omega⟩
      rw [q1, ← hn, seg_all]

/-- A node without kids is read again. -/
theorem rd_leaf (tag : Int) (c : List Int) (hx : xs = headB tag c) (hl : c.length < 16777216) (ht : tagB tag = true) (hs : simB tag = true) : parseW xs xs.length = .ok (.node tag c []) xs.length := by
  have hx0 : xs = tag :: (lenB c.length ++ c) := hx
  have hxl : xs.length = 1 + (lenB c.length).length + c.length := by rw [hx0, List.length_cons, List.length_append]; omega
  have hg0 : xs.getD 0 0 = tag := by rw [hx0]; rfl
  have hd : ∀ k, xs.drop (1 + k) = (lenB c.length ++ c).drop k := fun k => by rw [hx0, Nat.add_comm, List.drop_succ_cons]
  have hh : hdr xs 0 xs.length = .ok (1 + (lenB c.length).length) c.length := by
    unfold hdr
    by_cases h128 : c.length < 128
    · have hle : lenB c.length = [(c.length : Int)] := by unfold lenB; rw [if_pos h128]
      have hg1 : xs.getD (0 + 1) 0 = (c.length : Int) := by rw [hx0, hle]; rfl
      have hll : (lenB c.length).length = 1 := by rw [hle]; rfl
      rw [hg1, Int.toNat_natCast, if_neg (by omega), if_neg (by omega), if_neg (by omega), hll]
    · obtain ⟨k, hk⟩ : ∃ k, (numB c.length).length = k := ⟨_, rfl⟩
      have hle : lenB c.length = ((128 + k : Nat) : Int) :: numB c.length := by unfold lenB; rw [if_neg h128, hk]
      have hk3 : k ≤ 3 := by rw [← hk]; exact numB_le 3 _ (by omega)
      have hk1 : 1 ≤ k := by
        rw [← hk, numB_pos (by omega), List.length_append]
        simp
      have hll : (lenB c.length).length = k + 1 := by rw [hle, List.length_cons, hk]
      have hg1 : xs.getD (0 + 1) 0 = ((128 + k : Nat) : Int) := by rw [hx0, hle]; rfl
      have hsg : seg xs 2 (2 + k) = numB c.length := by
        unfold seg
        rw [Nat.add_sub_cancel_left, show (2 : Nat) = 1 + 1 from rfl, hd 1, hle, List.cons_append, List.drop_succ_cons, List.drop_zero, List.take_append_of_le_length (by omega), List.take_of_length_le (by omega)]
      have hbe : beN xs (0 + 2) k = c.length := beN_numB hr 2 k c.length hsg (by omega)
      rw [hg1, Int.toNat_natCast, Nat.add_sub_cancel_left, hbe, hk]
      rw [if_neg (by omega), if_neg (by omega), if_pos (by omega), if_neg (by omega), if_neg (by omega)]
      congr 1
      omega
  have hrd : rd xs 8 0 xs.length = .ok (.node tag c []) xs.length := by
    simp only [rd]
    rw [if_neg (by omega), hg0, ht, if_neg (by decide), hh]
    simp only
    rw [if_neg (by omega), if_pos hs]
    congr 1
    · rw [hd, List.drop_left, List.take_length]
    · omega
  unfold parseW
  rw [hrd]
  simp only
  rw [if_neg (Nat.lt_irrefl _)]
end

end Go.Proofs.YtdpnfojpeafdhaaDoor
