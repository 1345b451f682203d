/- What was read is the encoding of a tree of the right shape. -/
import Derived.Test.YtmhgpdfllpgjpaaDoorRd10A
namespace Go.Proofs.YtmhgpdfllpgjpaaDoor
open Go.RowKit
set_option linter.unusedVariables false

theorem slice_app (b : List Int) {p q e : Nat} (h1 : p ≤ q) (h2 : q ≤ e) : (b.drop p).take (q - p) ++ (b.drop q).take (e - q) = (b.drop p).take (e - p) := by
  have e1 : e - p = (q - p) + (e - q) := by omega
  rw [e1, List.take_add, List.drop_drop, show p + (q - p) = q by omega]
theorem ordAt_app (ks us : List T) (i : Nat) (h : i < ks.length) : ordAt (ks ++ us) i = ordAt ks i := by
  have e : ∀ j, j < ks.length → (ks ++ us).getD j default = ks.getD j default := fun j hj => by
    rw [List.getD_eq_getElem?_getD, List.getD_eq_getElem?_getD, List.getElem?_append_left hj]
  unfold ordAt
  rw [e i h, e (i - 2) (by omega)]
theorem ordN_app (ks us : List T) : ∀ n, n ≤ ks.length → ordN (ks ++ us) n = ordN ks n
  | 0, _ => rfl
  | n + 1, h => by
    show (ordN (ks ++ us) n && ordAt (ks ++ us) n) = (ordN ks n && ordAt ks n)
    rw [ordN_app ks us n (by omega), ordAt_app ks us n (by omega)]
theorem ordN_pair (acc : List T) (k v : T) (he : acc.length % 2 = 0) (ho : ordN acc acc.length = true) (hb : acc ≠ [] → befB (txt (acc.getD (acc.length - 2) default)) (txt k) = true) :
    ordN (acc ++ [k, v]) (acc ++ [k, v]).length = true := by
  have el : (acc ++ [k, v]).length = acc.length + 1 + 1 := by rw [List.length_append]; rfl
  rw [el]
  show ((ordN (acc ++ [k, v]) acc.length && ordAt (acc ++ [k, v]) acc.length) && ordAt (acc ++ [k, v]) (acc.length + 1)) = true
  rw [ordN_app acc _ acc.length (Nat.le_refl _), ho]
  have h2 : ordAt (acc ++ [k, v]) (acc.length + 1) = true := by
    unfold ordAt
    rw [decide_eq_false (by omega)]
    rfl
  rw [h2]
  by_cases h0 : acc.length = 0
  · have h1 : ordAt (acc ++ [k, v]) acc.length = true := by
      unfold ordAt
      rw [decide_eq_false (by omega)]
      rfl
    rw [h1]
    rfl
  · have hne : acc ≠ [] := fun h => h0 (by rw [h]; rfl)
    have h1 : ordAt (acc ++ [k, v]) acc.length = true := by
      unfold ordAt
      have g1 : (acc ++ [k, v]).getD (acc.length - 2) default = acc.getD (acc.length - 2) default := by
        rw [List.getD_eq_getElem?_getD, List.getD_eq_getElem?_getD, List.getElem?_append_left (by omega)]
      have g2 : (acc ++ [k, v]).getD acc.length default = k := by
        rw [List.getD_eq_getElem?_getD, List.getElem?_append_right (Nat.le_refl _), Nat.sub_self]
        rfl
      rw [g1, g2, hb hne, Bool.or_true]
    rw [h1]
    rfl
theorem txtL_cons (k : T) (ks : List T) (a : List Int) : txtL (k :: ks) a = txtL ks (a ++ txt k) := rfl
theorem depL_bd (f : Nat) : ∀ (ks : List T) (a : Nat), a ≤ f + 1 → (∀ t ∈ ks, dep t ≤ f) → depL ks a ≤ f + 1
  | [], a, h, _ => h
  | k :: ks, a, h, hk => by
    have h1 := hk k List.mem_cons_self
    exact depL_bd f ks (max a (1 + dep k)) (by omega) (fun t ht => hk t (List.mem_cons_of_mem _ ht))

/-- What a good reading says. -/
structure Rd (b : List Int) (f p : Nat) (t : T) (e : Nat) : Prop where
  lt : p < e
  le : e ≤ b.length
  txt : (b.drop p).take (e - p) = txt t
  shp : shp t = true
  dep : dep t ≤ f

theorem items_good {b : List Int} {f : Nat} {rc : Nat → R10} (hrc : ∀ p t e, rc p = .good t e → Rd b f p t e) (mp : Bool) : ∀ (n nx : Nat) (acc ks : List T) (e : Nat), nx ≤ b.length →
    itemsR rc mp n nx acc = .inr (ks, e) → shpL acc = true → (mp = true → acc.length % 2 = 0 ∧ ordN acc acc.length = true) →
    ∃ us, ks = acc ++ us ∧ us.length = (if mp = true then 2 * n else n) ∧ nx ≤ e ∧ e ≤ b.length ∧ (∀ a, txtL us a = a ++ (b.drop nx).take (e - nx)) ∧ shpL ks = true ∧ (∀ t ∈ us, dep t ≤ f) ∧ (mp = true → ordN ks ks.length = true)
  | 0, nx, acc, ks, e, hx, h, hs, hm => by
    have h' : (Sum.inr (acc, nx) : (Nat × Nat) ⊕ (List T × Nat)) = .inr (ks, e) := h
    injection h' with h'
    injection h' with h1 h2
    subst h1 h2
    exact ⟨[], by simp, by cases mp <;> rfl, Nat.le_refl _, hx, fun a => by simp [txtL], hs, by simp, fun h => (hm h).2⟩
  | n + 1, nx, acc, ks, e, hx, h, hs, hm => by
    unfold itemsR at h
    cases hk : rc nx with
    | bad c p => rw [hk] at h; cases h
    | good k nk =>
      have K := hrc _ _ _ hk
      rw [hk] at h
      simp only at h
      cases mp with
      | false =>
        rw [if_neg (by simp)] at h
        obtain ⟨us, h1, h2, h3, h4, h5, h6, h7, h8⟩ := items_good hrc false n nk (acc ++ [k]) ks e K.le h (by rw [shpL_app, hs]; simp [shpL, K.shp]) (fun h => by cases h)
        have := K.lt
        refine ⟨k :: us, by rw [h1, List.append_assoc]; rfl, by rw [List.length_cons, h2]; rfl, by omega, h4, fun a => ?_, h6, fun t ht => ?_, fun h => by cases h⟩
        · rw [txtL_cons, h5, ← K.txt, List.append_assoc, slice_app b (by omega) h3]
        · rcases List.mem_cons.1 ht with rfl | ht
          · exact K.dep
          · exact h7 t ht
      | true =>
        rw [if_pos rfl] at h
        by_cases hb : acc ≠ [] ∧ befB (txt (acc.getD (acc.length - 2) default)) (txt k) = false
        · rw [if_pos hb] at h; cases h
        rw [if_neg hb] at h
        cases hv : rc nk with
        | bad c p => rw [hv] at h; cases h
        | good v nv =>
          have V := hrc _ _ _ hv
          rw [hv] at h
          simp only at h
          obtain ⟨hm1, hm2⟩ := hm rfl
          have hbb : acc ≠ [] → befB (txt (acc.getD (acc.length - 2) default)) (txt k) = true := fun hne => by
            cases hq : befB (txt (acc.getD (acc.length - 2) default)) (txt k) with
            | true => rfl
            | false => exact absurd ⟨hne, hq⟩ hb
          obtain ⟨us, h1, h2, h3, h4, h5, h6, h7, h8⟩ := items_good hrc true n nv (acc ++ [k, v]) ks e V.le h (by rw [shpL_app, hs]; simp [shpL, K.shp, V.shp])
            (fun _ => ⟨by rw [List.length_append]; show (acc.length + 2) % 2 = 0; omega, ordN_pair acc k v hm1 hm2 hbb⟩)
          have := K.lt
          have := V.lt
          refine ⟨k :: v :: us, by rw [h1, List.append_assoc]; rfl, by rw [List.length_cons, List.length_cons, h2]; simp only [if_true]; omega, by omega, h4, fun a => ?_, h6, fun t ht => ?_, fun _ => h8 rfl⟩
          · rw [txtL_cons, txtL_cons, h5, ← K.txt, ← V.txt, List.append_assoc, List.append_assoc, slice_app b (by omega) h3, slice_app b (by omega) (by omega)]
          · rcases List.mem_cons.1 ht with rfl | ht
            · exact K.dep
            rcases List.mem_cons.1 ht with rfl | ht
            · exact V.dep
            · exact h7 t ht
end Go.Proofs.YtmhgpdfllpgjpaaDoor
