/- The description of an error that came in: what the reference asks of it, and the error that is built from it. -/
import Derived.Test.YtjaklopkammmdaaDoorText
import Derived.Test.YtjaklopkammmdaaDoorErr9
import Derived.Deep.LoopGhost
namespace Go.Proofs.YtjaklopkammmdaaDoor
open Go.RowKit

/-- The wrappings of a description: n of them, with kinds K, parts P and numbers B. -/
structure Ws (w : World) (A : Option Addr) (n : Nat) (K : Nat → Int) (P : Nat → ByteArray) (B : Nat → Int) : Prop where
  at' : 0 < n → ∃ b o, A = some ⟨b, o, none⟩ ∧ ∀ i, i < n → w.cell? ⟨b, o + i * 3, none⟩ = some (.int .i64 (K i)) ∧ w.cell? ⟨b, o + i * 3 + 1, none⟩ = some (.string (P i)) ∧ w.cell? ⟨b, o + i * 3 + 2, none⟩ = some (.int .i64 (B i))
theorem Ws.past {w w' : World} {A : Option Addr} {n : Nat} {K : Nat → Int} {P : Nat → ByteArray} {B : Nat → Int} (h : Ws w A n K P B) (hp : Past w w') : Ws w' A n K P B := ⟨fun hn => by
  obtain ⟨b, o, rfl, hc⟩ := h.at' hn
  refine ⟨b, o, rfl, fun i hi => ?_⟩
  obtain ⟨h1, h2, h3⟩ := hc i hi
  exact ⟨(hp.cell (cell_lt h1)).trans h1, (hp.cell (cell_lt h2)).trans h2, (hp.cell (cell_lt h3)).trans h3⟩⟩

def small (P : Nat → ByteArray) (B : Nat → Int) (i : Nat) : Prop := (P i).size ≤ 50 ∧ -1099511627776 ≤ B i ∧ B i ≤ 1099511627776
def FewP (n : Nat) (P : Nat → ByteArray) (B : Nat → Int) (a : Int) : Prop := (∀ i, i < n → small P B i) ∧ n ≤ 20 ∧ -1099511627776 ≤ a ∧ a ≤ 1099511627776

set_option maxHeartbeats 2000000 in
theorem few_any (nl fl : Bool) (c a : Int) (A : Option Addr) (n cap : Nat) (K : Nat → Int) (P : Nat → ByteArray) (B : Nat → Int) (w : World) (hW : Ws w A n K P B) (hn : n ≤ maxLen) (r : Bool) (hr : r = true ↔ FewP n P B a) :
    Calls Tryd.prog 5 #[.agg #[.bool nl, .slice A n cap, .int .i64 c, .int .i64 a, .bool fl]] w fun e w' => e = .returned (.bool r) ∧ Past w w' := by
  have hp : Past w (w.alloc (.cells #[.bool nl, .slice A n cap, .int .i64 c, .int .i64 a, .bool fl] 24)) := (Below.refl _ _).alloc (Nat.le_refl _) _
  have HW := Lib.hid (hW.past hp)
  have HP := Lib.hid hp
  have HR := Lib.hid hr
  unfold maxLen at hn
  clear hW hp hr
  go_enter Tryd.func5, Tryd.ntmps5
  go_wp2
  go_loopw [3] (fun i wr => ∃ j : Nat, j ≤ n ∧ i = .int .i64 (j : Int) ∧ Hid (∀ t, t < j → small P B t) ∧ Hid (∃ m, wr = (w.alloc (.cells #[.bool nl, .slice A n cap, .int .i64 c, .int .i64 a, .bool fl] 24)).drewN m)) (fun i _ => n - (intOf i).toNat)
  case atStart => exact ⟨0, Nat.zero_le _, rfl, fun t ht => absurd ht (Nat.not_lt_zero _), ⟨0, rfl⟩⟩
  case round =>
    obtain ⟨j, hj, rfl, HS, m, rfl⟩ := hrel
    by_cases hlt : j < n
    · obtain ⟨b, o, rfl, hc⟩ := HW.out.at' (by omega)
      obtain ⟨_, hc1, hc2⟩ := hc j hlt
      clear hc
      by_cases h1 : (P j).size ≤ 50
      · by_cases h2 : -1099511627776 ≤ B j
        · by_cases h3 : B j ≤ 1099511627776
          · have HS2 : Hid (∀ t, t < j + 1 → small P B t) := fun t ht => by
              rcases Nat.lt_succ_iff_lt_or_eq.1 ht with h | rfl
              · exact HS.out t h
              · exact ⟨h1, h2, h3⟩
            clear HS
            generalize P j = pj at hc1 h1
            generalize B j = bj at hc2 h2 h3
            go_wp2
            go_roundw
            case rel => exact ⟨j + 1, by omega, by go_num, HS2, ⟨m, rfl⟩⟩
            case measure => simp [RowKit.intOf]; omega
          · have h3' : 1099511627776 < B j := by omega
            have HF : Hid (r = false) := by
              cases hh : r with
              | false => rfl
              | true => exact absurd ((HR.out.1 hh).1 j hlt) (fun k => h3 k.2.2)
            clear HR HS
            generalize P j = pj at *
            generalize B j = bj at *
            go_wp2
            go_ret
            exact ⟨by rw [HF.out]; rfl, HP.out.drewN _⟩
        · have h2' : B j < -1099511627776 := by omega
          have HF : Hid (r = false) := by
            cases hh : r with
            | false => rfl
            | true => exact absurd ((HR.out.1 hh).1 j hlt) (fun k => h2 k.2.1)
          clear HR HS
          generalize P j = pj at *
          generalize B j = bj at *
          go_wp2
          go_ret
          exact ⟨by rw [HF.out]; rfl, HP.out.drewN _⟩
      · have h1' : 50 < (P j).size := by omega
        have HF : Hid (r = false) := by
          cases hh : r with
          | false => rfl
          | true => exact absurd ((HR.out.1 hh).1 j hlt) (fun k => h1 k.1)
        clear HR HS
        generalize P j = pj at *
        generalize B j = bj at *
        go_wp2
        go_ret
        exact ⟨by rw [HF.out]; rfl, HP.out.drewN _⟩
    · obtain rfl : j = n := by omega
      clear HW
      by_cases h1 : j ≤ 20
      · by_cases h2 : -1099511627776 ≤ a
        · by_cases h3 : a ≤ 1099511627776
          · have HF : Hid (r = true) := HR.out.2 ⟨HS.out, h1, h2, h3⟩
            clear HR HS
            go_wp2
            go_ret
            exact ⟨by rw [HF.out]; rfl, HP.out.drewN _⟩
          · have h3' : 1099511627776 < a := by omega
            have HF : Hid (r = false) := by
              cases hh : r with
              | false => rfl
              | true => exact absurd (HR.out.1 hh).2.2.2 h3
            clear HR HS
            go_wp2
            go_ret
            exact ⟨by rw [HF.out]; rfl, HP.out.drewN _⟩
        · have h2' : a < -1099511627776 := by omega
          have HF : Hid (r = false) := by
            cases hh : r with
            | false => rfl
            | true => exact absurd (HR.out.1 hh).2.2.1 h2
          clear HR HS
          go_wp2
          go_ret
          exact ⟨by rw [HF.out]; rfl, HP.out.drewN _⟩
      · have h1' : 20 < j := by omega
        have HF : Hid (r = false) := by
          cases hh : r with
          | false => rfl
          | true => exact absurd (HR.out.1 hh).2.1 h1
        clear HR HS
        go_wp2
        go_ret
        exact ⟨by rw [HF.out]; rfl, HP.out.drewN _⟩

end Go.Proofs.YtjaklopkammmdaaDoor
