/- The armour of a label and bytes, and what a string is read as. -/
import Derived.Test.YtnnonidiogoffaaGreatDoorM12A
namespace Go.Proofs.YtnnonidiogoffaaGreatDoor
set_option linter.unusedVariables false

def hyL : List Int := [45, 45, 45, 45, 45]
def begL (lab : List Int) : List Int := [45, 45, 45, 45, 45, 66, 69, 71, 73, 78, 32] ++ (lab ++ hyL)
def endL (lab : List Int) : List Int := [45, 45, 45, 45, 45, 69, 78, 68, 32] ++ (lab ++ hyL)
/-- Lines of 64. -/
def nchk (m : Nat) : Nat := (m + 63) / 64
def chkL (l : List Int) : List (List Int) := (List.range (nchk l.length)).map fun i => (l.drop (64 * i)).take 64
theorem chk_nil : chkL [] = [] := rfl
theorem chk_cons {l : List Int} (h : l ≠ []) : chkL l = l.take 64 :: chkL (l.drop 64) := by
  have hl : 0 < l.length := List.length_pos_iff.2 h
  have e : nchk l.length = nchk (l.drop 64).length + 1 := by unfold nchk; rw [List.length_drop]; omega
  unfold chkL
  rw [e, List.range_succ_eq_map, List.map_cons, List.map_map]
  congr 1
  refine List.map_congr_left fun i _ => ?_
  simp only [Function.comp_apply, List.drop_drop]
  rw [show 64 + 64 * i = 64 * i.succ by omega]
theorem chk_flat (l : List Int) : (chkL l).flatten = l := by
  have go : ∀ n (l : List Int), l.length ≤ n → (chkL l).flatten = l := by
    intro n
    induction n with
    | zero => intro l h; cases l with
      | nil => rfl
      | cons => simp at h
    | succ n ih =>
      intro l h
      by_cases h0 : l = []
      · subst h0; rfl
      · rw [chk_cons h0, List.flatten_cons, ih _ (by rw [List.length_drop]; have := List.length_pos_iff.2 h0; omega), List.take_append_drop]
  exact go _ l (Nat.le_refl _)
/-- Lines that are all full but for the last one. -/
def fullB : List (List Int) → Bool
  | [] => false
  | [p] => decide (0 < p.length) && decide (p.length ≤ 64)
  | p :: ps => decide (p.length = 64) && fullB ps
theorem chk_full {l : List Int} (h : l ≠ []) : fullB (chkL l) = true := by
  have go : ∀ n (l : List Int), l.length ≤ n → l ≠ [] → fullB (chkL l) = true := by
    intro n
    induction n with
    | zero => intro l h h0; exact absurd (List.length_eq_zero_iff.1 (by omega)) h0
    | succ n ih =>
      intro l h h0
      have hl := List.length_pos_iff.2 h0
      rw [chk_cons h0]
      by_cases h1 : l.drop 64 = []
      · rw [h1, chk_nil, fullB, List.length_take]
        simp
        omega
      · have h2 := List.length_pos_iff.2 h1
        rw [List.length_drop] at h2
        have h3 := ih (l.drop 64) (by rw [List.length_drop]; omega) h1
        rw [chk_cons h1] at h3 ⊢
        rw [fullB, h3, List.length_take]
        · simp; omega
        · simp
  exact go _ l (Nat.le_refl _) h
theorem chk_of {ps : List (List Int)} (h : fullB ps = true) : ps.flatten ≠ [] ∧ chkL ps.flatten = ps := by
  induction ps with
  | nil => cases h
  | cons p ps ih =>
    cases ps with
    | nil =>
      rw [fullB] at h
      simp at h
      have h0 : p ≠ [] := List.length_pos_iff.1 h.1
      rw [List.flatten_cons, List.flatten_nil, List.append_nil]
      refine ⟨h0, ?_⟩
      rw [chk_cons h0, List.take_of_length_le h.2, List.drop_eq_nil_of_le h.2, chk_nil]
    | cons q ps =>
      rw [fullB] at h
      · simp only [Bool.and_eq_true, decide_eq_true_eq] at h
        obtain ⟨h1, h2⟩ := ih h.2
        have h0 : p ++ (q :: ps).flatten ≠ [] := by simp at h1 ⊢; intro _ e; exact h1 e
        rw [List.flatten_cons]
        refine ⟨h0, ?_⟩
        rw [chk_cons h0, show (64 : Nat) = p.length from h.1.symm, List.take_left, List.drop_left, h2]
      · simp
/-- Lines with their line feeds. -/
def txtL (ls : List (List Int)) : List Int := ls.flatMap (· ++ [10])
theorem txtL_cons (p : List Int) (ls : List (List Int)) : txtL (p :: ls) = p ++ 10 :: txtL ls := by simp [txtL]
theorem txtL_app (a b : List (List Int)) : txtL (a ++ b) = txtL a ++ txtL b := by simp [txtL]
def lnsL (xs : List Int) : List (List Int) := (spl 10 xs).dropLast
theorem spl_txt {ls : List (List Int)} (h : ∀ p ∈ ls, ∀ x ∈ p, x ≠ 10) : spl 10 (txtL ls) = ls ++ [[]] := by
  induction ls with
  | nil => rfl
  | cons p ls ih => rw [txtL_cons, spl_app (h p (by simp)), ih fun q hq => h q (by simp [hq])]; rfl
theorem lns_txt {ls : List (List Int)} (h : ∀ p ∈ ls, ∀ x ∈ p, x ≠ 10) : lnsL (txtL ls) = ls := by rw [lnsL, spl_txt h]; simp
theorem spl_ends (xs : List Int) : txtL (lnsL xs) ++ (spl 10 xs).getLastD [] = xs := by
  unfold lnsL
  induction xs with
  | nil => rfl
  | cons c xs ih =>
    rw [spl]
    cases hs : spl 10 xs with
    | nil => exact absurd hs (spl_ne _ _)
    | cons p ps =>
      rw [hs] at ih
      by_cases hc : c = 10
      · rw [if_pos hc, List.dropLast_cons_of_ne_nil (by simp), txtL_cons]
        simp only [List.nil_append, List.cons_append, List.getLastD_cons] at ih ⊢
        rw [ih, hc]
      · rw [if_neg hc]
        cases ps with
        | nil => simp [txtL] at ih ⊢; exact ih
        | cons q ps =>
          simp only [List.dropLast_cons_of_ne_nil (List.cons_ne_nil _ _), txtL_cons, List.getLastD_cons, List.cons_append, List.append_assoc] at ih ⊢
          rw [ih]
theorem lns_no (xs : List Int) : ∀ p ∈ spl 10 xs, ∀ x ∈ p, x ≠ 10 := by
  induction xs with
  | nil => intro p hp x hx; simp [spl] at hp; subst hp; cases hx
  | cons c xs ih =>
    rw [spl]
    intro p hp x hx
    split at hp
    · rcases List.mem_cons.1 hp with rfl | hp
      · cases hx
      · exact ih p hp x hx
    · rename_i hc
      split at hp
      · simp at hp; subst hp; simp at hx; subst hx; exact hc
      · rename_i q qs hs
        rcases List.mem_cons.1 hp with rfl | hp
        · rcases List.mem_cons.1 hx with rfl | hx
          · exact hc
          · exact ih q (by rw [hs]; simp) x hx
        · exact ih p (by rw [hs]; simp [hp]) x hx
theorem lastD_app (f : List Int) (m : List (List Int)) (l : List Int) : (f :: (m ++ [l])).getLastD [] = l := by
  rw [← List.cons_append, List.getLastD_eq_getLast?, List.getLast?_append]
  rfl
theorem lastD_mem {l : List (List Int)} (h : l ≠ []) : l.getLastD [] ∈ l := by
  rw [List.getLastD_eq_getLast?, List.getLast?_eq_some_getLast h]
  exact List.getLast_mem h
theorem lns_last {xs : List Int} (h : xs.getLast? = some 10) : txtL (lnsL xs) = xs ∧ lnsL xs ≠ [] := by
  have h1 := spl_ends xs
  have hne : (spl 10 xs) ≠ [] := spl_ne _ _
  have h2 : (spl 10 xs).getLastD [] = [] := by
    cases hp : (spl 10 xs).getLastD [] with
    | nil => rfl
    | cons c p =>
      exfalso
      rw [hp] at h1
      have hm : (c :: p) ∈ spl 10 xs := by
        rw [← hp]
        exact lastD_mem hne
      rw [← h1, List.getLast?_append, List.getLast?_eq_some_getLast (List.cons_ne_nil c p)] at h
      have h' : (c :: p).getLast (List.cons_ne_nil c p) = 10 := by simpa using h
      exact lns_no xs _ hm 10 (by rw [← h']; exact List.getLast_mem _) rfl
  rw [h2, List.append_nil] at h1
  refine ⟨h1, fun e => ?_⟩
  rw [e] at h1
  rw [← h1] at h
  simp [txtL] at h
theorem txt_last {ls : List (List Int)} (h : ls ≠ []) : (txtL ls).getLast? = some 10 := by
  rw [← List.dropLast_concat_getLast h, txtL_app, txtL_cons]
  simp [txtL]

/-- The lines of an armour. -/
def armLs (lab ys : List Int) : List (List Int) := begL lab :: (chkL (renc 1 ys ys.length) ++ [endL lab])
def armL (lab ys : List Int) : List Int := txtL (armLs lab ys)
/-- The label between five hyphens, BEGIN and a space, and five hyphens. -/
def labOf (first : List Int) : List Int := (first.drop 11).take (first.length - 16)
theorem labOf_beg (lab : List Int) : labOf (begL lab) = lab := by
  unfold labOf begL hyL
  simp
def frmB (first last : List Int) : Bool := labB (labOf first) && decide (first = begL (labOf first)) && decide (last = endL (labOf first))
theorem frm_yes {first last : List Int} (h : frmB first last = true) : labB (labOf first) = true ∧ first = begL (labOf first) ∧ last = endL (labOf first) := by
  simpa [frmB, and_assoc] using h
theorem frm_of {lab : List Int} (h : labB lab = true) : frmB (begL lab) (endL lab) = true := by simp [frmB, labOf_beg, h]
inductive PRes where
  | err (c : Int)
  | ok (lab ys : List Int)
def midP (lab : List Int) (mid : List (List Int)) : PRes :=
  if mid.any (fun p => decide (64 < p.length)) = true then .err 5
  else if mid = [] ∨ mid.dropLast.any (fun p => decide (p.length < 64)) = true then .err 6
  else match rdec 1 (txt mid.flatten) with
    | none => .err 5
    | some ys => if mid.getLastD [] = [] then .err 5 else .ok lab ys
def midOf (ls : List (List Int)) : List (List Int) := (ls.drop 1).dropLast
def parP (xs : List Int) : PRes :=
  if xs.getLast? = some 10 then
    if frmB ((lnsL xs).getD 0 []) ((lnsL xs).getLastD []) = true then midP (labOf ((lnsL xs).getD 0 [])) (midOf (lnsL xs)) else .err 5
  else .err 3
theorem beg_ne_end (a b : List Int) : begL a ≠ endL b := by
  intro h
  have := congrArg (fun l => l.getD 5 0) h
  simp [begL, endL] at this
theorem frm_two {xs : List Int} (h : frmB ((lnsL xs).getD 0 []) ((lnsL xs).getLastD []) = true) (hne : lnsL xs ≠ []) : ∃ f m l, lnsL xs = f :: (m ++ [l]) := by
  obtain ⟨_, h1, h2⟩ := frm_yes h
  cases hl : lnsL xs with
  | nil => exact absurd hl hne
  | cons f r =>
    rw [hl] at h1 h2
    cases r with
    | nil =>
      exfalso
      simp at h1 h2
      exact beg_ne_end _ _ (h1.symm.trans h2)
    | cons q r => exact ⟨f, (q :: r).dropLast, (q :: r).getLast (by simp), by rw [List.dropLast_concat_getLast]⟩
theorem rng10 {l : List Int} (h : ∀ x ∈ l, 0 ≤ x ∧ x < 256) : ints (txt l) = l := ints_txt h
theorem renc_no (ys : List Int) : ∀ x ∈ renc 1 ys ys.length, x ≠ 10 := by
  intro x hx
  rw [renc_al (by decide) ys _] at hx
  rcases List.mem_append.1 hx with hx | hx
  · unfold rdigs at hx
    obtain ⟨j, _, rfl⟩ := List.mem_map.1 hx
    have := (dig_lo (al := 1) (v := six ys (8 * ys.length) (6 * j) 6) (by decide) (six_le _ _ _).1 (six_le _ _ _).2).1
    omega
  · have := List.eq_of_mem_replicate hx
    omega
theorem chk_mem {l : List Int} {p : List Int} (hp : p ∈ chkL l) : ∀ x ∈ p, x ∈ l := by
  unfold chkL at hp
  obtain ⟨i, _, rfl⟩ := List.mem_map.1 hp
  intro x hx
  exact List.mem_of_mem_drop (List.mem_of_mem_take hx)
theorem beg_no {lab : List Int} (h : labB lab = true) : (∀ x ∈ begL lab, x ≠ 10) ∧ ∀ x ∈ endL lab, x ≠ 10 := by
  have hl : ∀ x ∈ lab, x ≠ 10 := fun x hx => by have := up_rng (labB_in h x hx); omega
  constructor
  · intro x hx
    simp only [begL, hyL, List.mem_append, List.mem_cons, List.not_mem_nil, or_false] at hx
    rcases hx with h | h | h
    · omega
    · exact hl x h
    · omega
  · intro x hx
    simp only [endL, hyL, List.mem_append, List.mem_cons, List.not_mem_nil, or_false] at hx
    rcases hx with h | h | h
    · omega
    · exact hl x h
    · omega
theorem arm_lns {lab ys : List Int} (h : labB lab = true) : lnsL (armL lab ys) = armLs lab ys := by
  refine lns_txt fun p hp => ?_
  simp only [armLs, List.mem_cons, List.mem_append, List.not_mem_nil, or_false] at hp
  rcases hp with rfl | hp | rfl
  · exact (beg_no h).1
  · exact fun x hx => renc_no ys x (chk_mem hp x hx)
  · exact (beg_no h).2
theorem renc_pos {ys : List Int} (h : ys ≠ []) : renc 1 ys ys.length ≠ [] := by
  intro e
  have h1 := renc_len (al := 1) (by decide) ys ys.length
  rw [e] at h1
  have := List.length_pos_iff.2 h
  simp at h1
  omega
theorem full_parts {ps : List (List Int)} (h : fullB ps = true) : ps ≠ [] ∧ (∀ p ∈ ps, p.length ≤ 64) ∧ (∀ p ∈ ps.dropLast, p.length = 64) ∧ ps.getLastD [] ≠ [] := by
  induction ps with
  | nil => cases h
  | cons p ps ih =>
    cases ps with
    | nil =>
      rw [fullB] at h
      simp at h
      refine ⟨by simp, by simpa using h.2, by simp, ?_⟩
      simpa using List.length_pos_iff.1 h.1
    | cons q ps =>
      rw [fullB] at h
      · simp only [Bool.and_eq_true, decide_eq_true_eq] at h
        obtain ⟨h1, h2, h3, h4⟩ := ih h.2
        refine ⟨by simp, ?_, ?_, ?_⟩
        · intro x hx
          rcases List.mem_cons.1 hx with rfl | hx
          · omega
          · exact h2 x hx
        · rw [List.dropLast_cons_of_ne_nil (by simp)]
          intro x hx
          rcases List.mem_cons.1 hx with rfl | hx
          · exact h.1
          · exact h3 x hx
        · simpa [List.getLastD_cons] using h4
      · simp
theorem full_of {ps : List (List Int)} (h1 : ps ≠ []) (h2 : ∀ p ∈ ps, p.length ≤ 64) (h3 : ∀ p ∈ ps.dropLast, 64 ≤ p.length) (h4 : ps.getLastD [] ≠ []) : fullB ps = true := by
  induction ps with
  | nil => exact absurd rfl h1
  | cons p ps ih =>
    cases ps with
    | nil =>
      rw [fullB]
      have : 0 < p.length := List.length_pos_iff.2 (by simpa using h4)
      simp [this, h2 p (by simp)]
    | cons q ps =>
      rw [List.dropLast_cons_of_ne_nil (by simp)] at h3
      rw [fullB]
      · rw [ih (by simp) (fun x hx => h2 x (by simp [hx])) (fun x hx => h3 x (by simp [hx])) (by simpa [List.getLastD_cons] using h4)]
        have := h2 p (by simp)
        have := h3 p (by simp)
        simp
        omega
      · simp
theorem par_arm {lab ys : List Int} (h : labB lab = true) (h0 : ys ≠ []) (hr : ∀ x ∈ ys, 0 ≤ x ∧ x < 256) : parP (armL lab ys) = .ok lab ys := by
  unfold parP
  rw [if_pos (show (armL lab ys).getLast? = some 10 from txt_last (by simp [armLs])), arm_lns h]
  have e1 : (armLs lab ys).getD 0 [] = begL lab := rfl
  have e2 : (armLs lab ys).getLastD [] = endL lab := lastD_app _ _ _
  have e3 : midOf (armLs lab ys) = chkL (renc 1 ys ys.length) := by simp [armLs, midOf]
  rw [e1, e2, e3, if_pos (frm_of h), labOf_beg]
  obtain ⟨f1, f2, f3, f4⟩ := full_parts (chk_full (renc_pos h0))
  unfold midP
  rw [if_neg (by simp only [List.any_eq_true, decide_eq_true_eq, not_exists, not_and]; intro p hp; have := f2 p hp; omega),
    if_neg (by
      rintro (h | h)
      · exact f1 h
      · simp only [List.any_eq_true, decide_eq_true_eq] at h
        obtain ⟨p, hp, h⟩ := h
        have := f3 p hp
        omega), chk_flat, rdec_renc (by decide) ys hr]
  simp only [if_neg f4]
theorem mid_ok {lab lab' : List Int} {mid : List (List Int)} {ys : List Int} (h : midP lab mid = .ok lab' ys) (hr : ∀ p ∈ mid, ∀ x ∈ p, 0 ≤ x ∧ x < 256) : lab' = lab ∧ ys ≠ [] ∧ mid = chkL (renc 1 ys ys.length) ∧ (∀ x ∈ ys, 0 ≤ x ∧ x < 256) := by
  unfold midP at h
  split at h
  · cases h
  · rename_i h1
    split at h
    · cases h
    · rename_i h2
      cases hd : rdec 1 (txt mid.flatten) with
      | none => rw [hd] at h; cases h
      | some zs =>
        rw [hd] at h
        simp only at h
        split at h
        · cases h
        · rename_i h3
          injection h with e1 e2
          subst e1 e2
          simp only [List.any_eq_true, decide_eq_true_eq, not_exists, not_and] at h1
          have hf : fullB mid = true := full_of (fun e => h2 (.inl e)) (fun p hp => by have := h1 p hp; omega) (fun p hp => by
            rcases Nat.lt_or_ge p.length 64 with h' | h'
            · exact absurd (.inr (List.any_eq_true.2 ⟨p, hp, by simpa using h'⟩)) h2
            · exact h') h3
          obtain ⟨g1, g2⟩ := chk_of hf
          obtain ⟨_, g3, g4⟩ := renc_of_rdec hd
          have g5 := congrArg ints g3
          have hrf : ∀ x ∈ mid.flatten, 0 ≤ x ∧ x < 256 := fun x hx => by
            obtain ⟨p, hp, hx⟩ := List.mem_flatten.1 hx
            exact hr p hp x hx
          rw [ints_txt (renc_rng _ _ _), ints_txt hrf] at g5
          refine ⟨rfl, ?_, by rw [g5, g2], g4⟩
          rintro rfl
          exact g1 (by rw [← g5]; rfl)
theorem spl_mem {d : Int} {xs : List Int} : ∀ p ∈ spl d xs, ∀ x ∈ p, x ∈ xs := by
  induction xs with
  | nil => intro p hp x hx; simp [spl] at hp; subst hp; exact hx
  | cons c xs ih =>
    rw [spl]
    intro p hp x hx
    split at hp
    · rcases List.mem_cons.1 hp with rfl | hp
      · cases hx
      · exact List.mem_cons_of_mem _ (ih p hp x hx)
    · split at hp
      · simp at hp; subst hp; simp at hx; subst hx; simp
      · rename_i q qs hs
        rcases List.mem_cons.1 hp with rfl | hp
        · rcases List.mem_cons.1 hx with rfl | hx
          · simp
          · exact List.mem_cons_of_mem _ (ih q (by rw [hs]; simp) x hx)
        · exact List.mem_cons_of_mem _ (ih p (by rw [hs]; simp [hp]) x hx)
theorem lns_mem {xs : List Int} : ∀ p ∈ lnsL xs, ∀ x ∈ p, x ∈ xs := fun p hp => spl_mem p ((List.dropLast_sublist _).subset hp)
theorem par_ok {xs lab ys : List Int} (h : parP xs = .ok lab ys) (hr : ∀ x ∈ xs, 0 ≤ x ∧ x < 256) : labB lab = true ∧ ys ≠ [] ∧ (∀ x ∈ ys, 0 ≤ x ∧ x < 256) ∧ xs = armL lab ys := by
  unfold parP at h
  split at h
  · rename_i h10
    split at h
    · rename_i hf
      obtain ⟨l1, l2⟩ := lns_last h10
      obtain ⟨f, m, l, hl⟩ := frm_two hf l2
      obtain ⟨h1, h2, h3⟩ := frm_yes hf
      have hm : midOf (lnsL xs) = m := by rw [hl]; simp [midOf]
      rw [hm] at h
      obtain ⟨rfl, g2, g3, g4⟩ := mid_ok h (fun p hp x hx => hr x (lns_mem p (by rw [hl]; simp [hp]) x hx))
      refine ⟨h1, g2, g4, ?_⟩
      have e0 : (lnsL xs).getD 0 [] = f := by rw [hl]; rfl
      have e1 : (lnsL xs).getLastD [] = l := by rw [hl]; exact lastD_app _ _ _
      rw [e0] at h2 h3 ⊢
      rw [e1] at h3
      rw [← l1, armL, armLs, ← h2, ← h3, ← g3, hl]
    · cases h
  · cases h
end Go.Proofs.YtnnonidiogoffaaGreatDoor
