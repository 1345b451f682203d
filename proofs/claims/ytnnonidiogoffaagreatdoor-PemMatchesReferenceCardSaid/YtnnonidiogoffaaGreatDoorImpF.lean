/- Contracts of the program's base64: withoutSigns, readGroup. -/
import Derived.Test.YtnnonidiogoffaaGreatDoorImpE
namespace Go.Proofs.YtnnonidiogoffaaGreatDoor
open Go.RowKit

/-- One equals sign taken off the end of a string. -/
def trim1 (s : ByteArray) : ByteArray := ⟨(Lib.trimSuffix s.data.toList [61]).toArray⟩
theorem trim1_ints (s : ByteArray) : ints (trim1 s) = cut1 (ints s) := by
  unfold trim1 ints cut1 Lib.trimSuffix Lib.hasSuffix
  generalize s.data.toList = l
  rcases List.eq_nil_or_concat l with rfl | ⟨ys, y, rfl⟩
  · simp
  · have e : ([61] : List UInt8).isSuffixOf (ys.concat y) = decide (y = 61) := by
      rw [List.concat_eq_append]
      by_cases h : y = 61
      · subst h
        rw [decide_eq_true rfl, List.isSuffixOf_iff_suffix]
        exact ⟨ys, rfl⟩
      · rw [decide_eq_false h, Bool.eq_false_iff]
        intro hs
        rw [List.isSuffixOf_iff_suffix] at hs
        obtain ⟨zs, hz⟩ := hs
        have := List.append_inj_right' hz rfl
        injection this with this
        exact h this.symm
    rw [e]
    by_cases h : y = 61
    · subst h
      simp
    · rw [decide_eq_false h]
      have hn : (y.toNat : Int) ≠ 61 := fun hc => h (UInt8.toNat_inj.1 (show y.toNat = 61 by omega))
      simp [hn]
theorem trimSuffix_any (s : ByteArray) (hs : s.size ≤ 9223372036854775807) (w : World) : Calls Tryz.prog 80 #[.string s, .string ⟨#[61]⟩] w fun e w' => e = .returned (.string (trim1 s)) ∧ w = w' := by
  refine (Tryz.strings_TrimSuffix s ⟨#[61]⟩ w hs).mono ?_
  rintro e w1 ⟨rfl, rfl⟩
  exact ⟨rfl, rfl⟩

set_option maxRecDepth 100000 in
theorem withoutSigns_any (al : Int) (s : ByteArray) (w : World) (hs : s.size ≤ 1000000) :
    Calls Tryz.prog 61 #[.int .i64 al, .string s] w fun e w' => ∃ t, e = .returned (.tuple #[.string t, .bool (tgood al (ints s))]) ∧ ints t = tlist al (ints s) ∧ w = w' := by
  by_cases ha : al = 1
  · subst ha
    have h1 := trim1_ints s
    have h2 := trim1_ints (trim1 s)
    have hsz : (trim1 s).size ≤ s.size := by
      have := congrArg List.length h1
      rw [ints_len] at this
      rw [this, ← ints_len s]
      rcases cut1_or (ints s) with h | h
      · rw [← h]
        exact Nat.le_refl _
      · have := congrArg List.length h
        rw [List.length_append] at this
        omega
    have HT1 := Lib.hid (trimSuffix_any s (by omega))
    have HT2 := Lib.hid (trimSuffix_any (trim1 s) (by omega))
    have HE : Hid (ints (trim1 (trim1 s)) = tlist 1 (ints s)) := by
      show _ = _
      rw [h2, h1]
      rfl
    have HG : Hid (tgood 1 (ints s) = ((s.size : Int) % 4 == 0)) := by
      show _ = _
      unfold tgood
      rw [if_pos rfl, ints_len]
      by_cases h4 : s.size % 4 = 0
      · have : (s.size : Int) % 4 = 0 := by omega
        simp [h4, this]
      · have : ¬ (s.size : Int) % 4 = 0 := by omega
        simp [h4, this]
    rw [HG.out]
    clear h1 h2 hsz
    generalize trim1 (trim1 s) = t2 at *
    generalize trim1 s = t1 at *
    go_enter Tryz.func61, Tryz.ntmps61
    go_wp2_with fail
    refine (HT1.out _).mono ?_
    rintro e w1 ⟨rfl, rfl⟩
    go_wp2_with fail
    refine (HT2.out _).mono ?_
    rintro e w1 ⟨rfl, rfl⟩
    go_wp2_with fail
    go_ret2
    exact ⟨_, rfl, HE.out, rfl⟩
  · have hg : tgood al (ints s) = true := by unfold tgood; rw [if_neg ha]
    have ht : tlist al (ints s) = ints s := by unfold tlist; rw [if_neg ha]
    rw [hg, ht]
    have hb : (al != 1) = true := by simpa using ha
    clear hg ht ha
    go_enter Tryz.func61, Tryz.ntmps61
    go_wp2_with fail
    go_ret2
    exact ⟨_, rfl, rfl, rfl⟩

end Go.Proofs.YtnnonidiogoffaaGreatDoor
