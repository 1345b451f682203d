/- What was read, whole. -/
import Derived.Test.YtmhgpdfllpgjpaaDoorRd10B
import Derived.Test.YtmhgpdfllpgjpaaDoorRef10K
namespace Go.Proofs.YtmhgpdfllpgjpaaDoor
open Go.RowKit
set_option linter.unusedVariables false

theorem findBad_none : ∀ (xs : List Int) (i : Nat), findBad xs i = none → asciiB xs = true
  | [], i, _ => rfl
  | x :: xs, i, h => by
    unfold findBad at h
    by_cases hx : 32 ≤ x ∧ x ≤ 126
    · rw [if_pos hx] at h
      have := findBad_none xs (i + 1) h
      unfold asciiB at this ⊢
      rw [List.all_cons, this, decide_eq_true hx]
      rfl
    · rw [if_neg hx] at h; cases h
theorem txt_node (kd : Nat) (nm : Int) (bs : List Int) (ks : List T) : txt (.node (kd : Int) nm bs ks) = txtL ks (headB kd (numOf (kd : Int) nm bs.length ks.length) ++ bs) := by
  show txtL ks (headB (kd : Int).toNat (numOf (kd : Int) nm bs.length ks.length) ++ bs) = _
  rw [Int.toNat_natCast]

theorem rdW_good {b : List Int} {f : Nat} {rc : Nat → R10} (hr : ∀ x ∈ b, 0 ≤ x ∧ x < 256) (hrc : ∀ p t e, rc p = .good t e → Rd b f p t e) (p : Nat) (t : T) (e : Nat) (h : rdW rc false b p = .good t e) : Rd b (f + 1) p t e := by
  unfold rdW at h
  by_cases h1 : b.length ≤ p
  · rw [if_pos h1] at h; cases h
  rw [if_neg h1] at h
  by_cases h2 : 5 < (b.getD p 0).toNat / 32 ∨ 27 < (b.getD p 0).toNat % 32
  · rw [if_pos h2] at h; cases h
  rw [if_neg h2, if_neg (by simp)] at h
  by_cases h3 : b.length < p + 1 + szOf ((b.getD p 0).toNat % 32)
  · rw [if_pos h3] at h; cases h
  rw [if_neg h3] at h
  by_cases h4 : hsz (numAt b p ((b.getD p 0).toNat % 32)) ≠ szOf ((b.getD p 0).toNat % 32)
  · rw [if_pos h4] at h; cases h
  rw [if_neg h4] at h
  have hd := head_read b hr p (by omega) (by omega) (by omega) (by omega)
  generalize numAt b p ((b.getD p 0).toNat % 32) = n at *
  generalize szOf ((b.getD p 0).toNat % 32) = sz at *
  generalize hkd : (b.getD p 0).toNat / 32 = kd at *
  have hk5 : kd ≤ 5 := by omega
  clear h2 h4 hkd
  have hs : (b.drop p).take (p + 1 + sz - p) = headB kd n := by rw [show p + 1 + sz - p = 1 + sz by omega]; exact hd
  by_cases h5 : kd < 2
  · rw [if_pos h5] at h
    injection h with ht he
    subst ht he
    refine ⟨by omega, by omega, ?_, ?_, ?_⟩
    · rw [hs, txt_node]
      have e0 : numOf (kd : Int) (n : Int) 0 0 = n := by unfold numOf; rw [if_neg (by omega), if_neg (by omega), if_neg (by omega)]; omega
      show headB kd n = txtL [] (headB kd (numOf (kd : Int) (n : Int) 0 0) ++ [])
      rw [e0, List.append_nil]
      rfl
    · rw [shp_good (n := 0) (m := 0) rfl rfl (by unfold OkP; omega), decide_eq_false (by omega), decide_eq_false (by omega)]
      rfl
    · show 1 ≤ f + 1
      omega
  rw [if_neg h5] at h
  by_cases h6 : kd < 4
  · rw [if_pos h6] at h
    by_cases h7 : b.length - (p + 1 + sz) < n
    · rw [if_pos h7] at h; cases h
    rw [if_neg h7] at h
    have hl : ((b.drop (p + 1 + sz)).take n).length = n := by rw [List.length_take, List.length_drop]; omega
    have hall : (if kd = 3 then findBad ((b.drop (p + 1 + sz)).take n) (p + 1 + sz) else none) = none := by
      cases hq : (if kd = 3 then findBad ((b.drop (p + 1 + sz)).take n) (p + 1 + sz) else none) with
      | none => rfl
      | some i => rw [hq] at h; cases h
    rw [hall] at h
    injection h with ht he
    subst ht he
    refine ⟨by omega, by omega, ?_, ?_, ?_⟩
    · rw [← slice_app b (show p ≤ p + 1 + sz by omega) (show p + 1 + sz ≤ p + 1 + sz + n by omega), hs, show p + 1 + sz + n - (p + 1 + sz) = n by omega, txt_node, hl]
      have e0 : numOf (kd : Int) 0 n 0 = n := by unfold numOf; rw [if_pos (by omega)]
      show _ = txtL [] (headB kd (numOf (kd : Int) 0 n 0) ++ _)
      rw [e0]
      rfl
    · rw [shp_good (n := n) (m := 0) hl rfl (by unfold OkP; omega)]
      have h50 : decide ((kd : Int) = 5) = false := decide_eq_false (by omega)
      rw [h50]
      by_cases h3' : kd = 3
      · rw [if_pos h3'] at hall
        rw [findBad_none _ _ hall]
        simp [shpL]
      · rw [decide_eq_false (by omega)]
        rfl
    · show 1 ≤ f + 1
      omega
  rw [if_neg h6] at h
  cases hi : itemsR rc (kd == 5) n (p + 1 + sz) [] with
  | inl q => rw [hi] at h; obtain ⟨c, q⟩ := q; cases h
  | inr q =>
    rw [hi] at h
    obtain ⟨ks, e'⟩ := q
    injection h with ht he
    subst ht he
    obtain ⟨us, g1, g2, g3, g4, g5, g6, g7, g8⟩ := items_good hrc (kd == 5) n (p + 1 + sz) [] ks e' (by omega) hi rfl (fun _ => ⟨rfl, rfl⟩)
    obtain rfl : ks = us := by rw [g1]; rfl
    have hnum : numOf (kd : Int) 0 0 ks.length = n := by
      unfold numOf
      rw [if_neg (by omega)]
      by_cases h54 : kd = 4
      · subst h54
        rw [if_pos (by decide), g2]
        rfl
      · obtain rfl : kd = 5 := by omega
        rw [if_neg (by decide), if_pos (by decide), g2]
        simp
    refine ⟨by omega, g4, ?_, ?_, ?_⟩
    · rw [← slice_app b (show p ≤ p + 1 + sz by omega) g3, hs, txt_node]
      show _ = txtL ks (headB kd (numOf (kd : Int) 0 0 ks.length) ++ [])
      rw [hnum, List.append_nil, g5]
    · by_cases h54 : kd = 4
      · subst h54
        rw [shp_good (n := 0) rfl rfl (by unfold OkP; omega), g6]
        rfl
      · obtain rfl : kd = 5 := by omega
        have h2n : ks.length = 2 * n := by rw [g2]; simp
        rw [shp_good (n := 0) rfl rfl (by unfold OkP; omega), g6, g8 rfl]
        rfl
    · exact depL_bd f ks 1 (by omega) g7
theorem rd_good (b : List Int) (hr : ∀ x ∈ b, 0 ≤ x ∧ x < 256) : ∀ (f p : Nat) (t : T) (e : Nat), rd b f p = .good t e → Rd b f p t e
  | 0, p, t, e, h => by
    exfalso
    have h' : rdW (fun _ => .bad 2 0) true b p = .good t e := h
    unfold rdW at h'
    by_cases h1 : b.length ≤ p
    · rw [if_pos h1] at h'; cases h'
    rw [if_neg h1] at h'
    by_cases h2 : 5 < (b.getD p 0).toNat / 32 ∨ 27 < (b.getD p 0).toNat % 32
    · rw [if_pos h2] at h'; cases h'
    rw [if_neg h2, if_pos rfl] at h'
    cases h'
  | f + 1, p, t, e, h => rdW_good hr (rd_good b hr f) p t e h
/-- What Parse gives is the one tree whose encoding the bytes are. -/
theorem pars_good {b : List Int} (hr : ∀ x ∈ b, 0 ≤ x ∧ x < 256) {t : T} {e : Nat} (h : pars b = .good t e) : txt t = b ∧ shp t = true ∧ dep t ≤ 8 := by
  unfold pars at h
  cases hq : rd b 8 0 with
  | bad c p => rw [hq] at h; cases h
  | good t' e' =>
    rw [hq] at h
    have G := rd_good b hr 8 0 t' e' hq
    by_cases hlt : e' < b.length
    · simp only [if_pos hlt] at h; cases h
    · simp only [if_neg hlt] at h
      injection h with h1 h2
      subst h1
      have h3 := G.txt
      rw [List.drop_zero, Nat.sub_zero, List.take_of_length_le (by omega)] at h3
      exact ⟨h3.symm, G.shp, G.dep⟩
end Go.Proofs.YtmhgpdfllpgjpaaDoor
