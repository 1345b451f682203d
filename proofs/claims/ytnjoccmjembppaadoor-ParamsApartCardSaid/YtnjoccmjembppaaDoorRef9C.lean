/- The reference's decimal digits of a number, and the text of a list of arcs. -/
import Derived.Test.YtnjoccmjembppaaDoorRef9B
import Derived.Deep.RegionLaw
namespace Go.Proofs.YtnjoccmjembppaaDoor
open Go.RowKit

def digS : ByteArray := ⟨#[48, 49, 50, 51, 52, 53, 54, 55, 56, 57]⟩
/-- The decimal digits of a number. -/
def decS (n : Nat) : ByteArray := if n < 10 then digS.extract n (n + 1) else decS (n / 10) ++ digS.extract (n % 10) (n % 10 + 1)
  termination_by n
  decreasing_by omega
theorem decS_one {n : Nat} (h : n < 10) : decS n = digS.extract n (n + 1) := by rw [decS, if_pos h]
theorem decS_more {n : Nat} (h : ¬ n < 10) : decS n = decS (n / 10) ++ digS.extract (n % 10) (n % 10 + 1) := by rw [decS, if_neg h]
theorem dig_size : ∀ i : Fin 10, (digS.extract i.val (i.val + 1)).size = 1 := by decide +kernel
theorem decS_size (k n : Nat) (h : n < 10 ^ (k + 1)) : (decS n).size ≤ k + 1 := by
  induction k generalizing n with
  | zero =>
    have h : n < 10 := by simpa using h
    rw [decS_one h, dig_size ⟨n, h⟩]
    omega
  | succ k ih =>
    by_cases h0 : n < 10
    · rw [decS_one h0, dig_size ⟨n, h0⟩]
      omega
    · rw [decS_more h0, ByteArray.size_append, dig_size ⟨n % 10, Nat.mod_lt _ (by omega)⟩]
      have e : 10 ^ (k + 1 + 1) = 10 * 10 ^ (k + 1) := by rw [Nat.pow_succ, Nat.mul_comm]
      have := ih (n / 10) (by omega)
      omega
theorem strslice9 (s : ByteArray) (l b : Nat) (L H : Int) (h0 : 0 ≤ L) (h1 : L ≤ H) (h2 : H ≤ (s.size : Int)) (hl : L.toNat = l) (hb : H.toNat = b) (w : World) :
    (Instr.slice 9 (.string s) (some (.int .i64 L)) (some (.int .i64 H)) none).run Tryd.prog w = .ok (.string (s.extract l b)) w := by
  rw [run_slice_string w 9 s .i64 .i64 L H Tryd.underlying9 h0 h1 h2, hl, hb]

set_option maxHeartbeats 1000000 in
theorem rdec_any (n : Nat) : n ≤ 4294967295 → ∀ w, Calls Tryd.prog 28 #[.int .i64 (n : Int)] w fun e w' => e = .returned (.string (decS n)) ∧ ∃ m, w' = w.drewN m := by
  induction n using Nat.strongRecOn with
  | _ n ih =>
    intro hn w
    have hni : (n : Int) ≤ 4294967295 := by omega
    have h9 : ¬ (n : Int) < -9 := by omega
    have h0 : ¬ (n : Int) < 0 := by omega
    have hdz : digS.size = 10 := rfl
    have HDS : Hid ((⟨#[48, 49, 50, 51, 52, 53, 54, 55, 56, 57]⟩ : ByteArray) = digS) := Lib.hid rfl
    by_cases h10 : n < 10
    · have h10i : (n : Int) < 10 := by omega
      have hs := strslice9 digS n (n + 1) (n : Int) ((n : Int) + 1) (by omega) (by omega) (by rw [hdz]; omega) (by omega) (by omega)
      have hr := decS_one h10
      have HR := Lib.hid hr
      rw [← HDS.out] at hs
      clear ih hr h10
      go_enter Tryd.func28, Tryd.ntmps28
      go_wp2_with fail
      go_ret
      exact ⟨by rw [HR.out, ← HDS.out]; rfl, 0, rfl⟩
    · have h10i : ¬ (n : Int) < 10 := by omega
      have HIH := Lib.hid (ih (n / 10) (by omega) (by omega))
      have hd : (n : Int) / 10 = ((n / 10 : Nat) : Int) := by omega
      have hm : (n : Int) % 10 = ((n % 10 : Nat) : Int) := by omega
      have hyb : ((n / 10 : Nat) : Int) ≤ 429496729 := by omega
      have htd : Int.tdiv (n : Int) 10 = ((n / 10 : Nat) : Int) := by rw [Int.tdiv_eq_ediv_of_nonneg (by omega)]; omega
      have htm : Int.tmod (n : Int) 10 = ((n % 10 : Nat) : Int) := by rw [Int.tmod_eq_emod_of_nonneg (by omega)]; omega
      have hs := strslice9 digS (n % 10) (n % 10 + 1) ((n % 10 : Nat) : Int) (((n % 10 : Nat) : Int) + 1) (by omega) (by omega) (by rw [hdz]; omega) (by omega) (by omega)
      have HR := Lib.hid (decS_more h10)
      have hz := decS_size 9 (n / 10) (by omega)
      have hz1 := dig_size ⟨n % 10, Nat.mod_lt _ (by omega)⟩
      have hxm : n % 10 < 10 := Nat.mod_lt _ (by omega)
      have hzz : (9223372036854775807 < (decS (n / 10)).size + (digS.extract (n % 10) (n % 10 + 1)).size) = False := by
        simp only [eq_iff_iff, iff_false]
        have hz1' : (digS.extract (n % 10) (n % 10 + 1)).size = 1 := hz1
        omega
      obtain ⟨D, hD⟩ : ∃ D, decS (n / 10) = D := ⟨_, rfl⟩
      obtain ⟨E, hE⟩ : ∃ E, digS.extract (n % 10) (n % 10 + 1) = E := ⟨_, rfl⟩
      rw [hD] at hzz HIH HR
      rw [hE] at hzz hs HR
      rw [← HDS.out] at hs
      clear hz1 hz h10 hD hE ih HDS
      generalize n % 10 = x at *
      generalize n / 10 = y at *
      have hxi : (x : Int) < 10 := by omega
      have hw1 : IntKind.i64.wrap (y : Int) = (y : Int) := by rw [IntKind.wrap_i64]; omega
      have hw2 : IntKind.i64.wrap ((x : Int) + 1) = (x : Int) + 1 := by rw [IntKind.wrap_i64]; omega
      go_enter Tryd.func28, Tryd.ntmps28
      go_wp2_with fail
      go_region_law (first
        | (go_simp; go_at_call 28; (with_reducible refine (HIH.out _).mono ?_); rintro e w2 ⟨rfl, m2, rfl⟩))
      all_goals
        go_wp2_with fail
        go_ret
        exact ⟨by rw [HR.out]; rfl, _, rfl⟩

end Go.Proofs.YtnjoccmjembppaaDoor
