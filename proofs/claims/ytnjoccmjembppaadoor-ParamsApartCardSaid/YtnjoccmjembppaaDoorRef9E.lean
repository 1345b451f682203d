/- The reference's content of a list of arcs. -/
import Derived.Test.YtnjoccmjembppaaDoorRef9D
import Derived.StillTailTactics
namespace Go.Proofs.YtnjoccmjembppaaDoor
open Go.RowKit

/-- The groups of the first two arcs and the next k. -/
def cS (l : List Int) : Nat → List Int
  | 0 => grp (40 * (l.getD 0 0).toNat + (l.getD 1 0).toNat)
  | k + 1 => cS l k ++ grp (l.getD (k + 2) 0).toNat
def contL (l : List Int) : List Int := if okL l then cS l (l.length - 2) else []
theorem cS_rng (l : List Int) : ∀ k, ∀ x ∈ cS l k, 0 ≤ x ∧ x < 256
  | 0 => grp_rng _
  | k + 1 => fun x hx => by
    rcases List.mem_append.1 hx with hx | hx
    · exact cS_rng l k x hx
    · exact grp_rng _ x hx
theorem contL_rng (l : List Int) : ∀ x ∈ contL l, 0 ≤ x ∧ x < 256 := by
  unfold contL
  split
  · exact cS_rng l _
  · simp
theorem cS_len {l : List Int} (hr : ∀ x ∈ l, 0 ≤ x ∧ x < 4294967296) (h0 : l.getD 0 0 ≤ 2) : ∀ k, (cS l k).length ≤ 5 * (k + 1)
  | 0 => by
    have q0 := getD_rngK (m := 4294967296) (by omega) hr 0
    have q1 := getD_rngK (m := 4294967296) (by omega) hr 1
    have := (grp_len (40 * (l.getD 0 0).toNat + (l.getD 1 0).toNat) (by omega)).1
    show (grp _).length ≤ _
    omega
  | k + 1 => by
    have q := getD_rngK (m := 4294967296) (by omega) hr (k + 2)
    have h1 := cS_len hr h0 k
    have h2 := (grp_len (l.getD (k + 2) 0).toNat (by omega)).1
    show (cS l k ++ grp _).length ≤ _
    rw [List.length_append]
    omega

end Go.Proofs.YtnjoccmjembppaaDoor
