/- The program's first and last line, Size. -/
import Derived.Test.YtnnonidiogoffaaGreatDoorPm12D
namespace Go.Proofs.YtnnonidiogoffaaGreatDoor
open Go.RowKit
set_option linter.unusedVariables false

theorem rng_beg {lab : List Int} (h : ∀ x ∈ lab, 0 ≤ x ∧ x < 256) : (∀ x ∈ begL lab ++ [10], 0 ≤ x ∧ x < 256) ∧ ∀ x ∈ endL lab ++ [10], 0 ≤ x ∧ x < 256 := by
  constructor
  · intro x hx
    unfold begL hyL at hx
    simp only [List.mem_append, List.mem_cons, List.not_mem_nil, or_false] at hx
    rcases hx with (h1 | h1 | h1) | h1
    · omega
    · exact h x h1
    · omega
    · omega
  · intro x hx
    unfold endL hyL at hx
    simp only [List.mem_append, List.mem_cons, List.not_mem_nil, or_false] at hx
    rcases hx with (h1 | h1 | h1) | h1
    · omega
    · exact h x h1
    · omega
    · omega
theorem rng_sub {a b : List Int} (h : ∀ x ∈ a ++ b, 0 ≤ x ∧ x < 256) : ∀ x ∈ a, 0 ≤ x ∧ x < 256 := fun x hx => h x (List.mem_append.2 (.inl hx))
theorem beg_len (lab : List Int) : (begL lab).length = lab.length + 16 := by simp [begL, hyL]
theorem end_len (lab : List Int) : (endL lab).length = lab.length + 14 := by simp [endL, hyL]

set_option maxRecDepth 100000 in
theorem first_any (s : ByteArray) (w : World) (hs : s.size ≤ 1000000) : Calls Tryz.prog 27 #[.string s] w fun e w' => e = .returned (.string (txt (begL (ints s) ++ [10]))) ∧ w' = w := by
  have hr := (rng_beg (ints_rngs s)).1
  have e1 : begL (ints s) ++ [10] = (([45, 45, 45, 45, 45, 66, 69, 71, 73, 78, 32] ++ ints s) ++ [45, 45, 45, 45, 45]) ++ [10] := by simp [begL, hyL]
  rw [e1] at hr ⊢
  have hz := ints_len s
  have ha1 := fun w : World => str_cat (P := Tryz.prog) ⟨#[45, 45, 45, 45, 45, 66, 69, 71, 73, 78, 32]⟩ s ([45, 45, 45, 45, 45, 66, 69, 71, 73, 78, 32] ++ ints s) rfl (by show 11 + s.size ≤ _; omega) w
  have hi1 := ints_txt (rng_sub (rng_sub hr))
  have hz1 : (txt ([45, 45, 45, 45, 45, 66, 69, 71, 73, 78, 32] ++ ints s)).size ≤ 1000011 := by rw [tsz, List.length_append]; simp only [List.length_cons, List.length_nil]; omega
  obtain ⟨B1, hB1⟩ : ∃ B1, txt ([45, 45, 45, 45, 45, 66, 69, 71, 73, 78, 32] ++ ints s) = B1 := ⟨_, rfl⟩
  rw [hB1] at ha1 hi1 hz1
  have ha2 := fun w : World => str_cat (P := Tryz.prog) B1 ⟨#[45, 45, 45, 45, 45]⟩ (([45, 45, 45, 45, 45, 66, 69, 71, 73, 78, 32] ++ ints s) ++ [45, 45, 45, 45, 45]) (by rw [hi1]; rfl) (by show B1.size + 5 ≤ _; omega) w
  have hi2 := ints_txt (rng_sub hr)
  have hz2 : (txt (([45, 45, 45, 45, 45, 66, 69, 71, 73, 78, 32] ++ ints s) ++ [45, 45, 45, 45, 45])).size ≤ 1000016 := by rw [tsz, List.length_append, List.length_append]; simp only [List.length_cons, List.length_nil]; omega
  obtain ⟨B2, hB2⟩ : ∃ B2, txt (([45, 45, 45, 45, 45, 66, 69, 71, 73, 78, 32] ++ ints s) ++ [45, 45, 45, 45, 45]) = B2 := ⟨_, rfl⟩
  rw [hB2] at ha2 hi2 hz2
  have ha3 := fun w : World => str_cat (P := Tryz.prog) B2 ⟨#[10]⟩ ((([45, 45, 45, 45, 45, 66, 69, 71, 73, 78, 32] ++ ints s) ++ [45, 45, 45, 45, 45]) ++ [10]) (by rw [hi2]; rfl) (by show B2.size + 1 ≤ _; omega) w
  obtain ⟨B3, hB3⟩ : ∃ B3, txt ((([45, 45, 45, 45, 45, 66, 69, 71, 73, 78, 32] ++ ints s) ++ [45, 45, 45, 45, 45]) ++ [10]) = B3 := ⟨_, rfl⟩
  rw [hB3] at ha3 ⊢
  clear hB3 hr e1 hz hi1 hz1 hB1 hi2 hz2 hB2 hs
  go_enter Tryz.func27, Tryz.ntmps27
  go_wp2_with fail
  go_ret
  exact ⟨rfl, rfl⟩
set_option maxRecDepth 100000 in
theorem last_any (s : ByteArray) (w : World) (hs : s.size ≤ 1000000) : Calls Tryz.prog 30 #[.string s] w fun e w' => e = .returned (.string (txt (endL (ints s) ++ [10]))) ∧ w' = w := by
  have hr := (rng_beg (ints_rngs s)).2
  have e1 : endL (ints s) ++ [10] = (([45, 45, 45, 45, 45, 69, 78, 68, 32] ++ ints s) ++ [45, 45, 45, 45, 45]) ++ [10] := by simp [endL, hyL]
  rw [e1] at hr ⊢
  have hz := ints_len s
  have ha1 := fun w : World => str_cat (P := Tryz.prog) ⟨#[45, 45, 45, 45, 45, 69, 78, 68, 32]⟩ s ([45, 45, 45, 45, 45, 69, 78, 68, 32] ++ ints s) rfl (by show 9 + s.size ≤ _; omega) w
  have hi1 := ints_txt (rng_sub (rng_sub hr))
  have hz1 : (txt ([45, 45, 45, 45, 45, 69, 78, 68, 32] ++ ints s)).size ≤ 1000011 := by rw [tsz, List.length_append]; simp only [List.length_cons, List.length_nil]; omega
  obtain ⟨B1, hB1⟩ : ∃ B1, txt ([45, 45, 45, 45, 45, 69, 78, 68, 32] ++ ints s) = B1 := ⟨_, rfl⟩
  rw [hB1] at ha1 hi1 hz1
  have ha2 := fun w : World => str_cat (P := Tryz.prog) B1 ⟨#[45, 45, 45, 45, 45]⟩ (([45, 45, 45, 45, 45, 69, 78, 68, 32] ++ ints s) ++ [45, 45, 45, 45, 45]) (by rw [hi1]; rfl) (by show B1.size + 5 ≤ _; omega) w
  have hi2 := ints_txt (rng_sub hr)
  have hz2 : (txt (([45, 45, 45, 45, 45, 69, 78, 68, 32] ++ ints s) ++ [45, 45, 45, 45, 45])).size ≤ 1000016 := by rw [tsz, List.length_append, List.length_append]; simp only [List.length_cons, List.length_nil]; omega
  obtain ⟨B2, hB2⟩ : ∃ B2, txt (([45, 45, 45, 45, 45, 69, 78, 68, 32] ++ ints s) ++ [45, 45, 45, 45, 45]) = B2 := ⟨_, rfl⟩
  rw [hB2] at ha2 hi2 hz2
  have ha3 := fun w : World => str_cat (P := Tryz.prog) B2 ⟨#[10]⟩ ((([45, 45, 45, 45, 45, 69, 78, 68, 32] ++ ints s) ++ [45, 45, 45, 45, 45]) ++ [10]) (by rw [hi2]; rfl) (by show B2.size + 1 ≤ _; omega) w
  obtain ⟨B3, hB3⟩ : ∃ B3, txt ((([45, 45, 45, 45, 45, 69, 78, 68, 32] ++ ints s) ++ [45, 45, 45, 45, 45]) ++ [10]) = B3 := ⟨_, rfl⟩
  rw [hB3] at ha3 ⊢
  clear hB3 hr e1 hz hi1 hz1 hB1 hi2 hz2 hB2 hs
  go_enter Tryz.func30, Tryz.ntmps30
  go_wp2_with fail
  go_ret
  exact ⟨rfl, rfl⟩

/-- The length of an armour of n bytes. -/
def sizeN (lab : List Int) (n : Nat) : Nat := if labB lab = true ∧ 1 ≤ n then lab.length + 17 + rlen 1 n + (rlen 1 n + 63) / 64 + (lab.length + 15) else 0
theorem rlen_1 (n : Nat) : rlen 1 n = (n + 2) / 3 * 4 := by unfold rlen; rw [if_pos (by decide), if_pos rfl]
theorem txtL_len (ls : List (List Int)) : (txtL ls).length = ls.flatten.length + ls.length := by
  induction ls with
  | nil => rfl
  | cons p ls ih => rw [txtL_cons, List.length_append, List.length_cons, ih, List.flatten_cons, List.length_append, List.length_cons]; omega
theorem arm_len {lab ys : List Int} (h : labB lab = true) (h0 : ys ≠ []) : (armL lab ys).length = sizeN lab ys.length := by
  have hp := List.length_pos_iff.2 h0
  unfold sizeN
  rw [if_pos ⟨h, by omega⟩, armL, armLs, txtL_cons, txtL_app, txtL_cons, List.length_append, List.length_cons, List.length_append, txtL_len, chk_flat, chk_len, List.length_append, beg_len, rlen1, rlen_1, List.length_cons, end_len]
  unfold nchk
  simp [txtL]
  omega

set_option maxRecDepth 100000 in
set_option maxHeartbeats 2000000 in
theorem size_any (s : ByteArray) (n : Nat) (w : World) (hs : s.size ≤ 1000000) (hn : n ≤ 1099511627776) : Calls Tryz.prog 17 #[.string s, .int .i64 (n : Int)] w fun e w' => e = .returned (.int .i64 (sizeN (ints s) n : Int)) ∧ Past w w' := by
  have HLB := Lib.hid (fun w => label_any s w hs)
  have HLE := Lib.hid (fun w => length_any 1 n hn w)
  have HFI := Lib.hid (fun w => first_any s w hs)
  have HLA := Lib.hid (fun w => last_any s w hs)
  have hz := ints_len s
  have HS := Lib.hid hs
  cases hb : labB (ints s) with
  | false =>
    rw [hb] at HLB
    have HR : Hid (sizeN (ints s) n = 0) := Lib.hid (by unfold sizeN; rw [if_neg (by rw [hb]; rintro ⟨h, _⟩; cases h)])
    clear hb hz hs hn
    go_enter Tryz.func17, Tryz.ntmps17
    go_wp2_with fail
    refine (HLB.out _).mono ?_
    rintro e w1 ⟨rfl, hp⟩
    have HP := Lib.hid hp
    clear hp
    go_wp2_with fail
    go_ret
    exact ⟨by rw [HR.out]; rfl, HP.out⟩
  | true =>
    rw [hb] at HLB
    by_cases h1 : 1 ≤ n
    · have h1i : ¬ (n : Int) < 1 := by omega
      obtain ⟨d, hd⟩ : ∃ d, rlen 1 n = d := ⟨_, rfl⟩
      have hdl : d ≤ 2000000000000 := by rw [← hd, rlen_1]; omega
      have e1 : ((txt (begL (ints s) ++ [10])).size : Int) = ((s.size + 17 : Nat) : Int) := by rw [tsz, List.length_append, beg_len, hz]; rfl
      have e2 : ((txt (endL (ints s) ++ [10])).size : Int) = ((s.size + 15 : Nat) : Int) := by rw [tsz, List.length_append, end_len, hz]; rfl
      have HR : Hid (sizeN (ints s) n = s.size + 17 + d + (d + 63) / 64 + (s.size + 15)) := Lib.hid (by unfold sizeN; rw [if_pos ⟨hb, h1⟩, hd, hz])
      obtain ⟨F, hF⟩ : ∃ F, txt (begL (ints s) ++ [10]) = F := ⟨_, rfl⟩
      obtain ⟨L, hL⟩ : ∃ L, txt (endL (ints s) ++ [10]) = L := ⟨_, rfl⟩
      rw [hF] at HFI e1
      rw [hL] at HLA e2
      rw [hd] at HLE
      have hdi : (d : Int) ≤ 2000000000000 := by omega
      have hd0 : (0 : Int) ≤ (d : Int) := by omega
      obtain ⟨q, hq⟩ : ∃ q, (d + 63) / 64 = q := ⟨_, rfl⟩
      rw [hq] at HR
      have hqe : ((d : Int) + 64 - 1).tdiv 64 = (q : Int) := by rw [Int.tdiv_eq_ediv_of_nonneg (by omega), ← hq]; omega
      have hqe2 : ((d : Int) + 63).tdiv 64 = (q : Int) := by rw [Int.tdiv_eq_ediv_of_nonneg (by omega), ← hq]; omega
      have hql : (q : Int) ≤ 2000000000000 := by omega
      have hsl : (s.size : Int) ≤ 1000000 := by omega
      obtain ⟨k1, hk1⟩ : ∃ k1, s.size + 17 + d = k1 := ⟨_, rfl⟩
      obtain ⟨k2, hk2⟩ : ∃ k2, k1 + q = k2 := ⟨_, rfl⟩
      obtain ⟨k3, hk3⟩ : ∃ k3, k2 + (s.size + 15) = k3 := ⟨_, rfl⟩
      rw [hk1, hk2, hk3] at HR
      have w1 : IntKind.i64.wrap ((F.size : Int) + (d : Int)) = (k1 : Int) := by rw [IntKind.wrap_i64, e1]; omega
      have w2 : IntKind.i64.wrap ((k1 : Int) + (q : Int)) = (k2 : Int) := by rw [IntKind.wrap_i64]; omega
      have w3 : IntKind.i64.wrap ((k2 : Int) + (L.size : Int)) = (k3 : Int) := by rw [IntKind.wrap_i64, e2]; omega
      have w1s : (F.size : Int) + (d : Int) = (k1 : Int) := by rw [e1]; omega
      have w2s : (k1 : Int) + (q : Int) = (k2 : Int) := by omega
      have w3s : (k2 : Int) + (L.size : Int) = (k3 : Int) := by rw [e2]; omega
      have v1 : IntKind.i64.wrap (k1 : Int) = (k1 : Int) := by rw [IntKind.wrap_i64]; omega
      have v2 : IntKind.i64.wrap (k2 : Int) = (k2 : Int) := by rw [IntKind.wrap_i64]; omega
      have v3 : IntKind.i64.wrap (k3 : Int) = (k3 : Int) := by rw [IntKind.wrap_i64]; omega
      have w0 : IntKind.i64.wrap ((d : Int) + 64) = (d : Int) + 64 := by rw [IntKind.wrap_i64]; omega
      have w0' : IntKind.i64.wrap ((d : Int) + 64 - 1) = (d : Int) + 64 - 1 := by rw [IntKind.wrap_i64]; omega
      have w0q : IntKind.i64.wrap (q : Int) = (q : Int) := by rw [IntKind.wrap_i64]; omega
      clear hb h1 hd hdl hF hL hq hz hs hn hql hsl e1 e2 hk1 hk2 hk3
      go_enter Tryz.func17, Tryz.ntmps17
      go_wp2_with fail
      refine (HLB.out _).mono ?_
      rintro e w1 ⟨rfl, hp⟩
      have HP := Lib.hid hp
      clear hp
      go_wp2_with fail
      refine (HLE.out _).mono ?_
      rintro e w2 ⟨rfl, rfl⟩
      go_wp2_with fail
      refine (HFI.out _).mono ?_
      rintro e w3 ⟨rfl, rfl⟩
      go_wp2_with fail
      refine (HLA.out _).mono ?_
      rintro e w4 ⟨rfl, rfl⟩
      go_wp2_with fail
      go_ret
      exact ⟨by rw [HR.out]; rfl, HP.out⟩
    · have h1i : (n : Int) < 1 := by omega
      have HR : Hid (sizeN (ints s) n = 0) := Lib.hid (by unfold sizeN; rw [if_neg (by rintro ⟨_, h⟩; exact h1 h)])
      clear hb hz hs hn h1
      go_enter Tryz.func17, Tryz.ntmps17
      go_wp2_with fail
      refine (HLB.out _).mono ?_
      rintro e w1 ⟨rfl, hp⟩
      have HP := Lib.hid hp
      clear hp
      go_wp2_with fail
      go_ret
      exact ⟨by rw [HR.out]; rfl, HP.out⟩
end Go.Proofs.YtnnonidiogoffaaGreatDoor
