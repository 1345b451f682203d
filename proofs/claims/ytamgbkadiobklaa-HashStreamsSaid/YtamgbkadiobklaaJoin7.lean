/- Contract of Join of package pyxref01. -/
import Derived.Test.YtamgbkadiobklaaSame7
namespace Go.Proofs.Ytamgbkadiobklaa
open Go.RowKit

/-- A slice of n slices of bytes: part i lies at V i, with the capacity C i, and has the bytes X i. -/
structure Sls (w : World) (P : Option Addr) (n c : Nat) (V : Nat → Option Addr) (C : Nat → Nat) (X : Nat → List Int) : Prop where
  cap : n ≤ c
  big : c ≤ maxLen
  nil0 : P = none → c = 0
  cells : 0 < n → ∃ b o, P = some ⟨b, o, none⟩ ∧ ∀ i, i < n → w.cell? ⟨b, o + i, none⟩ = some (.slice (V i) (X i).length (C i)) ∧ Sl w (V i) (X i).length (C i) (X i)

theorem Sls.past {w w' : World} {P : Option Addr} {n c : Nat} {V : Nat → Option Addr} {C : Nat → Nat} {X : Nat → List Int} (h : Sls w P n c V C X) (hp : Past w w') : Sls w' P n c V C X :=
  ⟨h.cap, h.big, h.nil0, fun hn => by
    obtain ⟨b, o, rfl, hc⟩ := h.cells hn
    exact ⟨b, o, rfl, fun i hi => ⟨by rw [Below.cell hp (cell_lt (hc i hi).1)]; exact (hc i hi).1, (hc i hi).2.past hp⟩⟩⟩
theorem Past.ofDrewN (w : World) (m : Nat) : Past w (w.drewN m) := Past.drewN (Below.refl _ w) m

/-- The bytes of the first n parts, in order. -/
def cat (X : Nat → List Int) (n : Nat) : List Int := ((List.range n).map X).flatten
theorem cat_zero (X : Nat → List Int) : cat X 0 = [] := rfl
theorem cat_succ (X : Nat → List Int) (n : Nat) : cat X (n + 1) = cat X n ++ X n := by simp [cat, List.range_succ]
theorem cat_rng (X : Nat → List Int) (n : Nat) (h : ∀ i, i < n → ∀ x ∈ X i, 0 ≤ x ∧ x < 256) : ∀ x ∈ cat X n, 0 ≤ x ∧ x < 256 := by
  intro x hx
  simp only [cat, List.mem_flatten, List.mem_map, List.mem_range] at hx
  obtain ⟨l, ⟨i, hi, rfl⟩, hl⟩ := hx
  exact h i hi x hl
theorem cat_len_mono (X : Nat → List Int) {i n : Nat} (h : i ≤ n) : (cat X i).length ≤ (cat X n).length := by
  induction n with
  | zero => obtain rfl : i = 0 := by omega
            exact Nat.le_refl _
  | succ n ih =>
    rcases Nat.lt_or_ge n i with h1 | h1
    · obtain rfl : i = n + 1 := by omega
      exact Nat.le_refl _
    · rw [cat_succ, List.length_append]
      have := ih h1
      omega
theorem Sls.rng {w : World} {P : Option Addr} {n c : Nat} {V : Nat → Option Addr} {C : Nat → Nat} {X : Nat → List Int} (h : Sls w P n c V C X) : ∀ i, i < n → ∀ x ∈ X i, 0 ≤ x ∧ x < 256 := by
  intro i hi
  obtain ⟨b, o, rfl, hc⟩ := h.cells (by omega)
  exact (hc i hi).2.rng

theorem rjoin_any (P : Option Addr) (n c : Nat) (V : Nat → Option Addr) (C : Nat → Nat) (X : Nat → List Int) (w : World) (h : Sls w P n c V C X) (hn47 : n ≤ 140737488355328) (hlen : (cat X n).length ≤ 140737488355328) :
    Calls Try.prog 23 #[.slice P n c] w (Fresh 5 w (cat X n)) := by
  have hcp := h.cap
  have H := Lib.hid h
  have HL := Lib.hid hlen
  clear h hlen
  go_enter Try.func23, Try.ntmps23
  go_wp2_with fail
  go_loopw [3, 4] (fun v i wr => ∃ j : Nat, j ≤ n ∧ i = .int .i64 j ∧ wr.ownsRow w.heap.size 5 1 v (cat X j).length ((cat X j).map (Value.int .u8)) ∧ Past w wr) (fun _ i _ => n - (intOf i).toNat)
  case atStart => exact ⟨0, Nat.zero_le _, rfl, World.ownsRow_nil _ _ _ _, Below.refl _ _⟩
  case round =>
    obtain ⟨j, hj, rfl, ho, hp⟩ := hrel
    obtain ⟨A, d, rfl⟩ := own_slice ho
    have HO := Lib.hid ho
    have HP := Lib.hid hp
    clear ho hp
    by_cases hlt : j < n
    · obtain ⟨b, o, rfl, hc⟩ := H.out.cells (by omega)
      have hcell : wr.cell? ⟨b, o + j, none⟩ = some (.slice (V j) (X j).length (C j)) := by
        rw [Below.cell HP.out (cell_lt (hc j hlt).1)]
        exact (hc j hlt).1
      have HS := Lib.hid ((hc j hlt).2.past HP.out)
      have hsum : (cat X j).length + (X j).length ≤ 140737488355328 := by
        have h1 := cat_len_mono X (i := j + 1) (n := n) hlt
        rw [cat_succ, List.length_append] at h1
        have := HL.out
        omega
      clear hc
      generalize hl : (cat X j).length = k at hsum HO ⊢
      have HK := Lib.hid hl
      clear hl
      generalize hm : (X j).length = m at hsum HS hcell ⊢
      have HM := Lib.hid hm
      clear hm
      go_wp2_with (at_builtin; refine wpList_append_sl rfl _ _ 23 5 rfl Try.underlying23 info8 w.heap.size _ k (cat X j) rfl HO.out (V j) m (C j) (X j) rfl HS.out hsum HP.out.size ?_; intro v' w1 hown hgrow)
      have HG := Lib.hid hgrow
      have HN := Lib.hid hown
      clear hown hgrow
      go_wp2
      go_roundw
      case rel =>
        refine ⟨j + 1, by omega, by go_num, ?_, ?_⟩
        · have h := HN.out
          rw [cat_succ, List.length_append, HK.out, HM.out]
          exact h
        · refine HP.out.grown HG.out HP.out.size ?_
          intro g hg
          exact (HO.out.lt g hg).1
      case measure => simp [intOf]; omega
    · obtain rfl : j = n := by omega
      generalize hl : (cat X j).length = k at HO ⊢
      have HK := Lib.hid hl
      clear hl
      go_wp2
      go_ret
      exact ⟨A, d, by rw [HK.out]; rfl, by rw [HK.out]; exact HO.out, HP.out⟩

end Go.Proofs.Ytamgbkadiobklaa
