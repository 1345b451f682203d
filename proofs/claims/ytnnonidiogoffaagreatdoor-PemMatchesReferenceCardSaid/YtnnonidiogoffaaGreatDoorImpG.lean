/- Contracts of the program's base64: readGroup. -/
import Derived.Test.YtnnonidiogoffaaGreatDoorImpF
namespace Go.Proofs.YtnnonidiogoffaaGreatDoor
open Go.RowKit

/-- What readGroup does with a group: the bytes stand in memory, or there are none. -/
def RG (al : Int) (t : List Int) (g o m N : Nat) (cs : Array Value) (w : World) (e : Ending) (w' : World) : Prop :=
  w.grownBy w' (some g) ∧ ((e = .returned (.bool true) ∧ ∃ (p : List Int) (cs' : Array Value), p.length = m ∧ (∀ x ∈ p, 0 ≤ x ∧ x < 256) ∧ gd al p = t ∧ Row w' g 5 cs' ∧ cs'.size = N ∧
      (∀ j, j < o → cs'[j]? = cs[j]?) ∧ ∀ j, j < m → cs'[o + j]? = some (.int .u8 (p.getD j 0)))
    ∨ (e = .returned (.bool false) ∧ ∀ p : List Int, p.length = m → (∀ x ∈ p, 0 ≤ x ∧ x < 256) → gd al p ≠ t))

set_option maxRecDepth 100000 in
set_option maxHeartbeats 1000000 in
theorem readGroup_any (al : Int) (hal : isAl al = true) (g o m N : Nat) (cs : Array Value) (text : ByteArray) (w : World) (hR : Row w g 5 cs) (hN : cs.size = N) (ho : o + m ≤ N)
    (htx : text.size = m + 1) (hm0 : 1 ≤ m) (hm3 : m ≤ 3) :
    Calls Tryz.prog 62 #[.slice (some ⟨g, o, none⟩) m m, .string (dstr al), .string text] w (RG al (ints text) g o m N cs w) := by
  have HR := Lib.hid hR
  have HN := Lib.hid hN
  have HI := Lib.hid (index_any al)
  clear hR hN
  generalize hds : dstr al = ds at *
  go_enter Tryz.func62, Tryz.ntmps62
  go_wp2_with fail
  go_loopg [7, 13] (m + 1) (fun k s7 s13 wx => ∃ i : Nat, i ≤ m + 1 ∧ k = m + 1 - i ∧ s7 = .int .u32 (gnum al (ints text) i) ∧ s13 = .int .i64 (i : Int) ∧ Hid (∀ j, j < i → 0 ≤ rval al ((ints text).getD j 0)) ∧ Hid (wx = w))
  case atStart => exact ⟨0, Nat.zero_le _, rfl, rfl, rfl, fun j hj => absurd hj (Nat.not_lt_zero _), rfl⟩
  case round =>
    obtain ⟨i, hi, hgk, rfl, rfl, HV, hw⟩ := hrel
    obtain rfl := hw.out
    clear hw
    have HGK := Lib.hid hgk
    clear hgk
    by_cases hlt : i < m + 1
    · have hix := idx_str text i (by omega)
      have hx := ints_rng text i
      have HC := Lib.hid (HI.out ((ints text).getD i 0) hx.1 hx.2)
      have hvr := rval_rng al ((ints text).getD i 0)
      by_cases hneg : rval al ((ints text).getD i 0) < 0
      · have HNO : Hid (∀ p : List Int, p.length = m → (∀ x ∈ p, 0 ≤ x ∧ x < 256) → gd al p ≠ ints text) := fun p hp hr h => by
          have := (group_no hal p hp hm0 hm3 hr h).1 i hlt
          omega
        clear HV
        generalize rval al ((ints text).getD i 0) = v at *
        generalize (ints text).getD i 0 = d at *
        go_wp2_with fail
        refine (HC.out _).mono ?_
        rintro e w1 ⟨rfl, rfl⟩
        go_wp2_with fail
        go_ret
        exact ⟨only_of_past (Below.refl _ _) _, .inr ⟨rfl, HNO.out⟩⟩
      · have HV2 : Hid (∀ j, j < i + 1 → 0 ≤ rval al ((ints text).getD j 0)) := fun j hj => by
          rcases Nat.lt_succ_iff_lt_or_eq.1 hj with h | rfl
          · exact HV.out j h
          · omega
        have hgr := gnum_rng (al := al) (t := ints text) i HV.out
        have hp : (64 : Int) ^ i ≤ 262144 := by
          have : i = 0 ∨ i = 1 ∨ i = 2 ∨ i = 3 := by omega
          rcases this with rfl | rfl | rfl | rfl <;> decide
        have HS : Hid (gnum al (ints text) (i + 1) = gnum al (ints text) i * 64 + rval al ((ints text).getD i 0)) := rfl
        have HL := Lib.hid ((congrArg (bits .or .u32 · _) (Int.emod_eq_of_lt (by omega) (by omega)).symm).trans (u32_low6 (gnum al (ints text) i) (rval al ((ints text).getD i 0)) hgr.1 (by omega) (by omega) (by omega)))
        obtain ⟨hg0, hg1⟩ := hgr
        have hg2 : gnum al (ints text) i < 262144 := by omega
        have hv0 : 0 ≤ rval al ((ints text).getD i 0) := by omega
        have hv1 := hvr.2
        clear HV hp hg1 hvr hneg
        generalize rval al ((ints text).getD i 0) = v at *
        generalize (ints text).getD i 0 = d at *
        generalize gnum al (ints text) i = a at *
        go_wp2_with fail
        refine (HC.out _).mono ?_
        rintro e w1 ⟨rfl, rfl⟩
        go_wp2_with fail
        go_roundg (m + 1 - (i + 1))
        case rel => exact ⟨i + 1, by omega, rfl, by rw [HS.out, ← HL.out], by first | go_num | (congr 1; omega), HV2, rfl⟩
        case measure => have := HGK.out; omega
    · obtain rfl : i = m + 1 := by omega
      have hgr := gnum_rng (al := al) (t := ints text) (m + 1) HV.out
      have hmm : m = 1 ∨ m = 2 ∨ m = 3 := by omega
      have hXr : 0 ≤ gnum al (ints text) (m + 1) * 2 ^ (32 - 6 * (m + 1)) ∧ gnum al (ints text) (m + 1) * 2 ^ (32 - 6 * (m + 1)) < 4294967296 := by
        rcases hmm with rfl | rfl | rfl
        · simp only [Nat.reduceAdd, Nat.reduceMul, Nat.reduceSub, Int.reducePow] at hgr ⊢
          omega
        · simp only [Nat.reduceAdd, Nat.reduceMul, Nat.reduceSub, Int.reducePow] at hgr ⊢
          omega
        · simp only [Nat.reduceAdd, Nat.reduceMul, Nat.reduceSub, Int.reducePow] at hgr ⊢
          omega
      have hlt2 := hXr.2
      go_wp2_with fail
      generalize hX : gnum al (ints text) (m + 1) * 2 ^ (32 - 6 * (m + 1)) = X at hXr ⊢
      have HX := Lib.hid hX
      clear hX hlt2 hgr
      obtain ⟨w0, rfl⟩ : ∃ w0 : World, w0 = wr := ⟨_, rfl⟩
      go_loopg [7, 37] m (fun k s7 s37 wx => ∃ i : Nat, i ≤ m ∧ k = m - i ∧ s7 = .int .u32 (gtop X i) ∧ s37 = .int .i64 (i : Int) ∧ Hid (w0.grownBy wx (some g) ∧ ∃ cs' : Array Value, Row wx g 5 cs' ∧ cs'.size = N ∧ (∀ j, j < o → cs'[j]? = cs[j]?) ∧ ∀ j, j < i → cs'[o + j]? = some (.int .u8 (gtop X j / 16777216))))
      case atStart => exact ⟨0, Nat.zero_le _, rfl, rfl, rfl, only_of_past (Below.refl _ _) _, cs, HR.out, HN.out, fun _ _ => rfl, fun j hj => absurd hj (Nat.not_lt_zero _)⟩
      case round =>
        obtain ⟨i, hi, hgk, rfl, rfl, HQ⟩ := hrel
        have HGK := Lib.hid hgk
        clear hgk
        by_cases hlt : i < m
        · have hq := HQ.out
          obtain ⟨hq1, cs', hq2, hq3, hq4, hq5⟩ := hq
          obtain ⟨old, hold⟩ : ∃ old, wr.cell? ⟨g, o + i, none⟩ = some old := ⟨cs'[o + i]'(by omega), by rw [hq2.cell, Array.getElem?_eq_getElem (by omega)]⟩
          have hfr := hq2.fr (o + i)
          have hx := gtop_rng hXr.1 hXr.2 i
          obtain ⟨hx0, hx1⟩ := hx
          have HQ2 : Hid (w0.grownBy (wr.setCell ⟨g, o + i, none⟩ (.int .u8 (gtop X i / 16777216))) (some g) ∧ ∃ cs' : Array Value, Row (wr.setCell ⟨g, o + i, none⟩ (.int .u8 (gtop X i / 16777216))) g 5 cs' ∧ cs'.size = N ∧ (∀ j, j < o → cs'[j]? = cs[j]?) ∧ ∀ j, j < i + 1 → cs'[o + j]? = some (.int .u8 (gtop X j / 16777216))) := by
            refine ⟨only_setCell hq1 (.inl rfl) _, _, hq2.set (o + i) _, by simp [hq3], fun j hj => ?_, fun j hj => ?_⟩
            · rw [Array.getElem?_setIfInBounds_ne (by omega)]
              exact hq4 j hj
            · by_cases he : j = i
              · subst he
                rw [Array.getElem?_setIfInBounds_self_of_lt (by omega)]
              · rw [Array.getElem?_setIfInBounds_ne (by omega)]
                exact hq5 j (by omega)
          have HS : Hid (gtop X (i + 1) = gtop X i * 256 % 4294967296) := rfl
          clear hq1 hq2 hq3 hq4 hq5 HQ
          generalize gtop X i = x at *
          go_wp2_with fail
          go_roundg (m - (i + 1))
          case rel => exact ⟨i + 1, by omega, rfl, by rw [HS.out], by first | go_num | (congr 1; omega), HQ2⟩
          case measure => have := HGK.out; omega
        · obtain rfl : i = m := by omega
          obtain ⟨hq1, cs', hq2, hq3, hq4, hq5⟩ := HQ.out
          have HF : Hid (RG al (ints text) g o i N cs w0 (.returned (.bool (gtop X i == 0))) wr) := by
            refine ⟨hq1, ?_⟩
            by_cases h0 : gtop X i = 0
            · left
              refine ⟨by rw [h0]; rfl, gbytes X i, cs', gbytes_len _ _, gbytes_rng hXr.1 hXr.2 _, group_yes (by rw [ints_len]; exact htx) hm0 hm3 HV.out X HX.out.symm h0, hq2, hq3, hq4, fun j hj => ?_⟩
              rw [hq5 j hj, gbytes_at, if_pos hj]
            · right
              refine ⟨by rw [show (gtop X i == 0) = false by simpa using h0], fun p hp hr h => h0 ?_⟩
              have := (group_no hal p hp hm0 hm3 hr h).2
              rwa [HX.out] at this
          clear hq1 hq2 hq3 hq4 hq5 HQ hXr
          go_wp2_with fail
          go_ret
          exact HF.out

end Go.Proofs.YtnnonidiogoffaaGreatDoor
