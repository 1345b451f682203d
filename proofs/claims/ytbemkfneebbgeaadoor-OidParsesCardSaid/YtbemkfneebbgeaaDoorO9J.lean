/- What the program reads is what the reference reads: plain lists. -/
import Derived.Test.YtbemkfneebbgeaaDoorO9I
import Derived.Test.YtbemkfneebbgeaaDoorMth9B
namespace Go.Proofs.YtbemkfneebbgeaaDoor
open Go.RowKit
set_option linter.unusedVariables false

theorem gI_grpH (m : Nat) : m < 4294967296 → ∀ r, gI (grpH m ++ r) 0 = gI r (m : Int) := by
  induction m using Nat.strongRecOn with
  | _ m ih =>
    intro hm r
    by_cases h : m = 0
    · subst h
      rw [grpH_zero]
      rfl
    · rw [grpH_pos h, List.append_assoc, ih (m / 128) (by omega) (by omega)]
      show (if ((128 + m % 128 : Nat) : Int) < 128 then _ else gI r _) = _
      rw [if_neg (by omega)]
      congr 1
      omega
theorem gI_grp (n : Nat) (h : n < 4294967296) (r : List Int) : gI (grp n ++ r) 0 = some ((n : Int), r) := by
  unfold grp
  rw [List.append_assoc, gI_grpH (n / 128) (by omega)]
  show (if ((n % 128 : Nat) : Int) < 128 then _ else _) = _
  rw [if_pos (by omega)]
  simp only [Option.some.injEq, Prod.mk.injEq]
  exact ⟨by omega, rfl⟩
theorem grp_ne (n : Nat) (r : List Int) : grp n ++ r ≠ [] := by
  unfold grp
  simp
theorem gO_flat : ∀ (ns : List Nat) (k : Nat) (acc : List Int), (∀ n ∈ ns, n < 4294967296) → ns.length ≤ k → gO k (ns.map grp).flatten acc = acc ++ ns.map fun (n : Nat) => (n : Int)
  | [], k, acc, _, _ => by simp [gO_nil]
  | n :: ns, k, acc, h, hk => by
    match k, hk with
    | k + 1, hk =>
      rw [List.map_cons, List.flatten_cons, gO_some (grp_ne _ _) (gI_grp n (h n (List.mem_cons_self ..)) _), gO_flat ns k _ (fun x hx => h x (List.mem_cons_of_mem _ hx)) (by simpa using hk)]
      simp
/-- The numbers of the groups of an identifier. -/
def numsL (l : List Int) (k : Nat) : List Nat := (40 * (l.getD 0 0).toNat + (l.getD 1 0).toNat) :: ((l.drop 2).take k).map (·.toNat)
theorem cS_flat (l : List Int) : ∀ k, k + 2 ≤ l.length → cS l k = ((numsL l k).map grp).flatten
  | 0, _ => by simp [numsL, cS]
  | k + 1, h => by
    have e : numsL l (k + 1) = numsL l k ++ [(l.getD (k + 2) 0).toNat] := by
      unfold numsL
      rw [take_snoc' (l.drop 2) k (by rw [List.length_drop]; omega), List.map_append, List.cons_append]
      simp [List.getD, List.getElem?_drop, Nat.add_comm]
    rw [e, List.map_append, List.flatten_append, ← cS_flat l k (by omega)]
    simp [cS]
theorem list_two (l : List Int) (h : 2 ≤ l.length) : l = l.getD 0 0 :: l.getD 1 0 :: l.drop 2 := by
  match l, h with
  | x :: y :: r, _ => rfl
/-- The first arc. -/
def firstN (R : List Int) : Int := min (R.getD 0 0 / 40) 2
def candL (R : List Int) : List Int := [firstN R, R.getD 0 0 - 40 * firstN R] ++ R.drop 1
theorem cand_cont {l : List Int} (hk : okL l = true) (hr : Rng l) : gO 20 (contL l) [] ≠ [] ∧ candL (gO 20 (contL l) []) = l := by
  obtain ⟨h1, h2, h3, h4, h5⟩ := okL_true hk
  have e : contL l = cS l (l.length - 2) := by unfold contL; rw [hk]; rfl
  have r0 := getD_rngK (by omega) hr 0
  have r1 := getD_rngK (by omega) hr 1
  have b1 := h5 1 (by omega)
  have hg : gO 20 (contL l) [] = (numsL l (l.length - 2)).map fun (n : Nat) => (n : Int) := by
    rw [e, cS_flat l _ (by omega), gO_flat _ _ _ ?_ ?_, List.nil_append]
    · intro n hn
      unfold numsL at hn
      rcases List.mem_cons.1 hn with rfl | hn
      · omega
      · obtain ⟨x, hx, rfl⟩ := List.mem_map.1 hn
        have := hr x (List.mem_of_mem_drop (List.mem_of_mem_take hx))
        omega
    · unfold numsL
      simp
      omega
  have hd : (numsL l (l.length - 2)).map (fun (n : Nat) => (n : Int)) = (40 * l.getD 0 0 + l.getD 1 0) :: l.drop 2 := by
    unfold numsL
    rw [List.map_cons, List.map_map, List.take_of_length_le (by rw [List.length_drop]; exact Nat.le_refl _)]
    congr 1
    · omega
    · refine (List.map_congr_left (g := id) fun x hx => ?_).trans (List.map_id _)
      have := hr x (List.mem_of_mem_drop hx)
      show ((x.toNat : Nat) : Int) = x
      omega
  rw [hg, hd]
  refine ⟨by simp, ?_⟩
  have hf : firstN ((40 * l.getD 0 0 + l.getD 1 0) :: l.drop 2) = l.getD 0 0 := by
    show min ((40 * l.getD 0 0 + l.getD 1 0) / 40) 2 = _
    by_cases hq : l.getD 0 0 < 2
    · have := h4 hq
      omega
    · omega
  unfold candL
  rw [hf]
  show [l.getD 0 0, 40 * l.getD 0 0 + l.getD 1 0 - 40 * l.getD 0 0] ++ l.drop 2 = l
  rw [show 40 * l.getD 0 0 + l.getD 1 0 - 40 * l.getD 0 0 = l.getD 1 0 by omega]
  exact (list_two l h1).symm
theorem readL_rng {xs l : List Int} (hx : ∀ x ∈ xs, 0 ≤ x ∧ x < 256) (h : readL xs = some l) : Rng l := by
  unfold readL at h
  split at h
  · cases h
  · rename_i n l' h1
    split at h
    · obtain rfl := Option.some.inj h
      exact (rS_from xs hx _ _ _ h1).2.2.2
    · cases h
theorem cand_rng {R : List Int} (h : Rng R) (hne : R ≠ []) : Rng (candL R) ∧ 0 ≤ firstN R ∧ firstN R ≤ 2 ∧ 40 * firstN R ≤ R.getD 0 0 := by
  have h0 := getD_rngK (by omega) h 0
  have hf : 0 ≤ firstN R ∧ firstN R ≤ 2 ∧ 40 * firstN R ≤ R.getD 0 0 := by
    unfold firstN
    omega
  refine ⟨fun x hx => ?_, hf⟩
  unfold candL at hx
  rcases List.mem_append.1 hx with hx | hx
  · rcases List.mem_cons.1 hx with rfl | hx
    · omega
    · obtain rfl := List.mem_singleton.1 hx
      omega
  · exact h x (List.mem_of_mem_drop hx)
theorem read_done {xs : List Int} (hx : ∀ x ∈ xs, 0 ≤ x ∧ x < 256) : readL xs = if gO 20 xs [] ≠ [] ∧ okL (candL (gO 20 xs [])) = true ∧ contL (candL (gO 20 xs [])) = xs then some (candL (gO 20 xs [])) else none := by
  split
  · rename_i h
    obtain ⟨h1, h2, h3⟩ := h
    have hr := (cand_rng (gO_rng 20 xs [] (by intro x hx; cases hx)) h1).1
    have h4 := content_read h2 hr
    rw [h3] at h4
    exact h4
  · rename_i h
    cases hq : readL xs with
    | none => rfl
    | some l =>
      obtain ⟨h1, h2⟩ := read_content hq
      have h3 := cand_cont h2 (readL_rng hx hq)
      rw [h1] at h3
      refine absurd ⟨h3.1, ?_, ?_⟩ h
      · rw [h3.2]
        exact h2
      · rw [h3.2]
        exact h1

end Go.Proofs.YtbemkfneebbgeaaDoor
