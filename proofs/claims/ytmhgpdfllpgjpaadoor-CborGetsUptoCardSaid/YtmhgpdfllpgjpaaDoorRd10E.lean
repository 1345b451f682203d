/- The encoding of a tree of the right shape is read as that tree: whole. -/
import Derived.Test.YtmhgpdfllpgjpaaDoorRd10D
namespace Go.Proofs.YtmhgpdfllpgjpaaDoor
open Go.RowKit
set_option linter.unusedVariables false

theorem shp_parts {kd nm : Int} {bs : List Int} {ks : List T} (h : shp (.node kd nm bs ks) = true) : OkP kd nm bs.length ks.length ∧ (kd = 3 → asciiB bs = true) ∧ shpL ks = true ∧ (kd = 5 → ordN ks ks.length = true) := by
  have h1 : (okB kd nm bs.length ks.length && (!decide (kd = 3) || asciiB bs) && shpL ks && (!decide (kd = 5) || ordN ks ks.length)) = true := h
  simp only [Bool.and_eq_true] at h1
  obtain ⟨⟨⟨a, b⟩, c⟩, d⟩ := h1
  refine ⟨okB_iff.1 a, fun h3 => ?_, c, fun h5 => ?_⟩
  · rw [decide_eq_true h3] at b; exact b
  · rw [decide_eq_true h5] at d; exact d

theorem rd_put (b : List Int) : ∀ (f : Nat) (t : T) (p : Nat) (rest : List Int), b.drop p = txt t ++ rest → shp t = true → dep t ≤ f → okT t → rd b f p = .good t (p + (txt t).length)
  | 0, .node kd nm bs ks, p, rest, hb, hs, hd, ho => by
    have := depL_one ks 1
    have : depL ks 1 ≤ 0 := hd
    omega
  | f + 1, .node kd nm bs ks, p, rest, hb, hs, hd, ho => by
    obtain ⟨hP, hasc, hsk, hord⟩ := shp_parts hs
    obtain ⟨hnm, hbl, hkl, hok⟩ := ho
    have hdl : depL ks 1 ≤ f + 1 := hd
    obtain ⟨k, rfl⟩ := Int.eq_ofNat_of_zero_le hP.1.1
    have hk5 : k ≤ 5 := by have := hP.1.2; omega
    unfold OkP at hP
    have hnum : numOf (k : Int) nm bs.length ks.length < 18446744073709551616 := by
      unfold numOf
      repeat' split
      all_goals omega
    have et : txt (.node (k : Int) nm bs ks) = headB k (numOf (k : Int) nm bs.length ks.length) ++ (bs ++ txtL ks []) := by rw [txt_node, txtL_acc, List.append_assoc]
    have hlen : (txt (.node (k : Int) nm bs ks)).length = 1 + hsz (numOf (k : Int) nm bs.length ks.length) + (bs.length + (txtL ks []).length) := by rw [et, List.length_append, List.length_append, headB_len]
    rw [hlen]
    rw [et, List.append_assoc] at hb
    obtain ⟨q1, q2, q3, q4, q5, q6⟩ := head_put hb hk5 hnum
    show rdW (rd b f) false b p = _
    unfold rdW
    rw [q2, q3, q5, szOf_hlow]
    have hlo := hlow_le (numOf (k : Int) nm bs.length ks.length)
    rw [if_neg (by omega), if_neg (by omega), if_neg (by simp), if_neg (by omega), if_neg (by simp)]
    by_cases h2 : k < 2
    · have hb0 : bs = [] := List.length_eq_zero_iff.1 (by omega)
      have hk0 : ks = [] := List.length_eq_zero_iff.1 (by omega)
      subst hb0 hk0
      have en : numOf (k : Int) nm ([] : List Int).length ([] : List T).length = nm.toNat := by unfold numOf; rw [if_neg (by omega), if_neg (by omega), if_neg (by omega)]
      rw [if_pos h2, en, Int.toNat_of_nonneg hnm.1]
      congr 1
      show _ = p + (1 + hsz nm.toNat + (0 + 0))
      omega
    rw [if_neg h2]
    have hnm0 : nm = 0 := by omega
    subst hnm0
    by_cases h4 : k < 4
    · have hk0 : ks = [] := List.length_eq_zero_iff.1 (by omega)
      subst hk0
      have en : numOf (k : Int) 0 bs.length ([] : List T).length = bs.length := by unfold numOf; rw [if_pos (by omega)]
      rw [en] at q6
      rw [en]
      have hq : (b.drop (p + 1 + hsz bs.length)).take bs.length = bs := by
        rw [q6, List.append_assoc, List.take_append_of_le_length (Nat.le_refl _), List.take_of_length_le (Nat.le_refl _)]
      have hql := congrArg List.length q6
      rw [List.length_drop, List.length_append, List.length_append] at hql
      rw [if_pos h4, if_neg (by omega), hq]
      have hf : (if k = 3 then findBad bs (p + 1 + hsz bs.length) else none) = none := by
        by_cases h3 : k = 3
        · rw [if_pos h3]
          exact findBad_all _ _ (hasc (by omega))
        · rw [if_neg h3]
      rw [hf]
      simp only
      congr 1
      show _ = p + (1 + hsz bs.length + (bs.length + 0))
      omega
    rw [if_neg h4]
    have hb0 : bs = [] := List.length_eq_zero_iff.1 (by omega)
    subst hb0
    have hsub : ∀ t ∈ ks, ∀ q rest, b.drop q = txt t ++ rest → rd b f q = .good t (q + (txt t).length) := fun t ht q rest hq =>
      rd_put b f t q rest hq (shpL_mem ks t ht hsk) (depL_mem f ks 1 hdl t ht) (okTL_mem ks t ht hok)
    rw [List.nil_append] at q6
    have hi := items_put (b := b) (rc := rd b f) (k == 5) (numOf (k : Int) 0 ([] : List Int).length ks.length) ks [] (p + 1 + hsz (numOf (k : Int) 0 ([] : List Int).length ks.length)) rest hsub q6 (by
      by_cases h54 : k = 4
      · subst h54
        rw [if_neg (by decide)]
        exact (show numOf ((4 : Nat) : Int) 0 0 ks.length = ks.length by unfold numOf; rw [if_neg (by decide), if_pos (by decide)]).symm
      · obtain rfl : k = 5 := by omega
        have e5 : numOf ((5 : Nat) : Int) 0 ([] : List Int).length ks.length = ks.length / 2 := by unfold numOf; rw [if_neg (by decide), if_neg (by decide), if_pos (by decide)]
        rw [if_pos (by decide), e5]
        have := hP.2.2.2.2
        omega) (fun h5 => ⟨rfl, by rw [List.nil_append]; exact hord (by have := beq_iff_eq.1 h5; omega)⟩)
    rw [hi]
    simp only [List.nil_append]
    congr 1
    show _ = p + (1 + hsz _ + (0 + _))
    simp only [List.length_nil]
    omega
/-- Parse gives back every valid tree's encoding. -/
theorem pars_put {t : T} (hs : shp t = true) (hd : dep t ≤ 8) (ho : okT t) : pars (txt t) = .good t (txt t).length := by
  have h := rd_put (txt t) 8 t 0 [] (by rw [List.drop_zero, List.append_nil]) hs hd ho
  unfold pars
  rw [h, Nat.zero_add]
  simp only
  rw [if_neg (by omega)]
end Go.Proofs.YtmhgpdfllpgjpaaDoor
