/- The reference's test of the shape, whole. -/
import Derived.Test.YtmhgpdfllpgjpaaDoorRef10J
namespace Go.Proofs.YtmhgpdfllpgjpaaDoor
open Go.RowKit
set_option linter.unusedVariables false

mutual
theorem txt_len : ∀ t : T, (txt t).length ≤ 9 * cnt t
  | .node kd nm bs ks => by
    have h := hsz_le (numOf kd nm bs.length ks.length)
    have e := headB_len kd.toNat (numOf kd nm bs.length ks.length)
    exact txtL_len ks _ (1 + bs.length) (by rw [List.length_append, e]; omega)
theorem txtL_len : ∀ (ks : List T) (a : List Int) (b : Nat), a.length ≤ 9 * b → (txtL ks a).length ≤ 9 * cntL ks b
  | [], a, b, h => h
  | k :: ks, a, b, h => by
    have hk := txt_len k
    exact txtL_len ks _ (b + cnt k) (by rw [List.length_append]; omega)
end
/-- What an item's own parts must keep. -/
def OkP (kd nm : Int) (n m : Nat) : Prop := (0 ≤ kd ∧ kd ≤ 5) ∧ ¬(2 ≤ kd ∧ 0 < nm) ∧ ¬(kd ≠ 2 ∧ kd ≠ 3 ∧ 0 < n) ∧ ¬(kd < 4 ∧ 0 < m) ∧ ¬(kd = 5 ∧ 0 < m % 2)
theorem okB_iff {kd nm : Int} {n m : Nat} : okB kd nm n m = true ↔ OkP kd nm n m := by
  unfold okB OkP
  simp only [Bool.and_eq_true, Bool.not_eq_true', decide_eq_true_iff, decide_eq_false_iff_not, and_assoc]
theorem shp_bad {kd nm : Int} {bs : List Int} {ks : List T} {n m : Nat} (hn : bs.length = n) (hm : ks.length = m) (h : ¬ OkP kd nm n m) : shp (.node kd nm bs ks) = false := by
  show (okB kd nm bs.length ks.length && (!decide (kd = 3) || asciiB bs) && shpL ks && (!decide (kd = 5) || ordN ks ks.length)) = false
  rw [hn, hm]
  cases ho : okB kd nm n m with
  | false => rfl
  | true => exact absurd (okB_iff.1 ho) h
theorem shp_good {kd nm : Int} {bs : List Int} {ks : List T} {n m : Nat} (hn : bs.length = n) (hm : ks.length = m) (h : OkP kd nm n m) :
    shp (.node kd nm bs ks) = ((!decide (kd = 3) || asciiB bs) && shpL ks && (!decide (kd = 5) || ordN ks m)) := by
  show (okB kd nm bs.length ks.length && (!decide (kd = 3) || asciiB bs) && shpL ks && (!decide (kd = 5) || ordN ks ks.length)) = _
  rw [hn, hm, okB_iff.2 h]
  rfl
theorem shape_eq {v : Value} {w : World} {r s : Bool} (he : s = r) (h : Calls Tryd.prog 39 #[v] w (ShapeP r w)) : Calls Tryd.prog 39 #[v] w (ShapeP s w) := by
  rw [he]; exact h

theorem rshaped_any {w0 : World} {v : Value} {t : T} (h : InM w0 v t) : ∀ w, Past w0 w → cnt t ≤ 1000000 → Calls Tryd.prog 39 #[v] w (ShapeP (shp t) w) := by
  induction h with
  | mk v0 v1 v2 v3 ht hu hb hl hm hd h0 hc hk ih =>
    rename_i kd nm A n c bytes K m d kids
    intro w hw hn
    have hbl := hb.len
    have hcn : 1 + n + m ≤ cnt (.node kd nm bytes kids) := by
      have := len_cntL kids (1 + bytes.length)
      rw [hbl, hl] at this
      show 1 + n + m ≤ cntL kids (1 + bytes.length)
      rw [hbl]
      exact this
    have hn1 : n ≤ 1000000000000 := by omega
    have hm1 : m ≤ 1000000000000 := by omega
    have hkid : ∀ i, i < m → cnt (kids.getD i default) ≤ 1000000 := fun i hi => by
      have := cnt_kid kids (1 + bytes.length) i (by rw [hl]; exact hi)
      have h2 : cntL kids (1 + bytes.length) ≤ 1000000 := hn
      omega
    have hs : ∀ i, i < m → ∀ w, Past w0 w → Calls Tryd.prog 39 #[.agg #[v0 i, v1 i, v2 i, v3 i]] w (ShapeP (shp (kids.getD i default)) w) := fun i hi w hp => ih i hi w hp (hkid i hi)
    have hcd : ∀ i, i < m → shp (kids.getD i default) = true → ∀ w, Past w0 w → Calls Tryd.prog 21 #[.agg #[v0 i, v1 i, v2 i, v3 i]] w (CodeP (txt (kids.getD i default)) w) := fun i hi hsh w hp =>
      rcode_any (hk i hi) w hp (by have := hkid i hi; omega) (by have := hkid i hi; have := txt_len (kids.getD i default); omega) (shp_kok _ hsh)
    clear ih
    by_cases hlo : kd < 0
    · exact shape_eq (shp_bad hbl hl (by unfold OkP; omega)) (sbad_lo w kd nm A K n c m d hn1 hm1 hlo)
    by_cases hhi : 5 < kd
    · exact shape_eq (shp_bad hbl hl (by unfold OkP; omega)) (sbad_hi w kd nm A K n c m d hn1 hm1 hhi)
    have hk6 : kd = 0 ∨ kd = 1 ∨ kd = 2 ∨ kd = 3 ∨ kd = 4 ∨ kd = 5 := by omega
    have hnil : m = 0 → kids = [] := fun h => List.length_eq_zero_iff.1 (by rw [hl, h])
    rcases hk6 with rfl | rfl | rfl | rfl | rfl | rfl
    · by_cases h1 : 0 < n
      · exact shape_eq (shp_bad hbl hl (by unfold OkP; omega)) (sbad_n0 w 0 nm A K n c m d hn1 hm1 h1)
      obtain rfl : n = 0 := by omega
      by_cases h2 : 0 < m
      · exact shape_eq (shp_bad hbl hl (by unfold OkP; omega)) (sbad_m0 w 0 nm A K 0 c m d hn1 hm1 h2)
      obtain rfl : m = 0 := by omega
      obtain rfl := hnil rfl
      exact shape_eq (by rw [shp_good hbl hl (by unfold OkP; omega)]; rfl) (sgood_0 w nm A K c d)
    · by_cases h1 : 0 < n
      · exact shape_eq (shp_bad hbl hl (by unfold OkP; omega)) (sbad_n1 w 1 nm A K n c m d hn1 hm1 h1)
      obtain rfl : n = 0 := by omega
      by_cases h2 : 0 < m
      · exact shape_eq (shp_bad hbl hl (by unfold OkP; omega)) (sbad_m1 w 1 nm A K 0 c m d hn1 hm1 h2)
      obtain rfl : m = 0 := by omega
      obtain rfl := hnil rfl
      exact shape_eq (by rw [shp_good hbl hl (by unfold OkP; omega)]; rfl) (sgood_1 w nm A K c d)
    · by_cases h1 : 0 < nm
      · exact shape_eq (shp_bad hbl hl (by unfold OkP; omega)) (sbad_u2 w 2 nm A K n c m d hn1 hm1 h1)
      obtain rfl : nm = 0 := by omega
      by_cases h2 : 0 < m
      · exact shape_eq (shp_bad hbl hl (by unfold OkP; omega)) (sbad_m2 w 2 0 A K n c m d hn1 hm1 h2)
      obtain rfl : m = 0 := by omega
      obtain rfl := hnil rfl
      exact shape_eq (by rw [shp_good hbl hl (by unfold OkP; omega)]; rfl) (sgood_2 w A K n c d hn1)
    · by_cases h1 : 0 < nm
      · exact shape_eq (shp_bad hbl hl (by unfold OkP; omega)) (sbad_u3 w 3 nm A K n c m d hn1 hm1 h1)
      obtain rfl : nm = 0 := by omega
      by_cases h2 : 0 < m
      · exact shape_eq (shp_bad hbl hl (by unfold OkP; omega)) (sbad_m3 w 3 0 A K n c m d hn1 hm1 h2)
      obtain rfl : m = 0 := by omega
      obtain rfl := hnil rfl
      exact shape_eq (by rw [shp_good hbl hl (by unfold OkP; omega)]; simp [shpL]) (sgood_3 w A K n c d bytes hn1 (hb.past hw))
    · by_cases h1 : 0 < nm
      · exact shape_eq (shp_bad hbl hl (by unfold OkP; omega)) (sbad_u4 w 4 nm A K n c m d hn1 hm1 h1)
      obtain rfl : nm = 0 := by omega
      by_cases h2 : 0 < n
      · exact shape_eq (shp_bad hbl hl (by unfold OkP; omega)) (sbad_n4 w 4 0 A K n c m d hn1 hm1 h2)
      obtain rfl : n = 0 := by omega
      exact shape_eq (by rw [shp_good hbl hl (by unfold OkP; omega)]; simp) (shaped_list w 0 A 0 c bytes K m d kids v0 v1 v2 v3 hw (by omega) hb hl (by omega) hc hs ⟨rfl, rfl⟩)
    · by_cases h1 : 0 < nm
      · exact shape_eq (shp_bad hbl hl (by unfold OkP; omega)) (sbad_u5 w 5 nm A K n c m d hn1 hm1 h1)
      obtain rfl : nm = 0 := by omega
      by_cases h2 : 0 < n
      · exact shape_eq (shp_bad hbl hl (by unfold OkP; omega)) (sbad_n5 w 5 0 A K n c m d hn1 hm1 h2)
      obtain rfl : n = 0 := by omega
      by_cases h3 : m % 2 = 1
      · exact shape_eq (shp_bad hbl hl (by unfold OkP; omega)) (sbad_o5 w 5 0 A K 0 c m d hn1 hm1 h3)
      exact shape_eq (by rw [shp_good hbl hl (by unfold OkP; omega)]; simp) (shaped_map w 0 A 0 c bytes K m d kids v0 v1 v2 v3 hw (by omega) hb hl (by omega) hc hs hcd ⟨rfl, rfl, by omega⟩)
end Go.Proofs.YtmhgpdfllpgjpaaDoor
