/- The reference's Label. -/
import Derived.Test.YtnnonidiogoffaaGreatDoorM12B
import Derived.Lib.Hide
import Derived.Handy
namespace Go.Proofs.YtnnonidiogoffaaGreatDoor
open Go.RowKit
set_option linter.unusedVariables false

theorem drop_at {l : List Int} {i : Nat} (h : i < l.length) : l.drop i = l.getD i 0 :: l.drop (i + 1) := by
  rw [List.drop_eq_getElem_cons h, List.getD_eq_getElem?_getD, List.getElem?_eq_getElem h]
  rfl
theorem labR_sp {l : List Int} {w k : Nat} (h : k ≠ 0) : labR (32 :: l) w k = labR l (w + 1) 0 := by rw [labR, if_pos rfl, if_neg h]
theorem labR_sp0 {l : List Int} {w : Nat} : labR (32 :: l) w 0 = false := by rw [labR, if_pos rfl, if_pos rfl]
theorem labR_up {c : Int} {l : List Int} {w k : Nat} (h0 : c ≠ 32) (h : upB c = true) (hk : k + 1 ≤ 20) : labR (c :: l) w k = labR l w (k + 1) := by rw [labR, if_neg h0, if_pos h, if_neg (by omega)]
theorem labR_long {c : Int} {l : List Int} {w k : Nat} (h0 : c ≠ 32) (h : upB c = true) (hk : 20 < k + 1) : labR (c :: l) w k = false := by rw [labR, if_neg h0, if_pos h, if_pos hk]
theorem labR_no {c : Int} {l : List Int} {w k : Nat} (h0 : c ≠ 32) (h : upB c = false) : labR (c :: l) w k = false := by rw [labR, if_neg h0, if_neg (by rw [h]; decide)]

set_option maxRecDepth 100000 in
set_option maxHeartbeats 4000000 in
theorem rlabel_any (s : ByteArray) (w : World) (hs : s.size ≤ 1000000) : Calls Tryz.prog 16 #[.string s] w fun e w' => e = .returned (.bool (labB (ints s))) ∧ w' = w := by
  have hbig : (s.size : Int) ≤ 1000000 := by omega
  have HN := Lib.hid hs
  clear hs
  go_enter Tryz.func16, Tryz.ntmps16
  go_wp2_with fail
  go_loopg [3, 4, 5] s.size (fun q s3 s4 s5 wx => ∃ i wd k : Nat, i ≤ s.size ∧ q = s.size - i ∧ s3 = .int .i64 (wd : Int) ∧ s4 = .int .i64 (k : Int) ∧ s5 = .int .i64 (i : Int) ∧ w = wx ∧ Hid (labR ((ints s).drop i) wd k = labB (ints s)) ∧ wd ≤ i + 1 ∧ k ≤ 20)
  case atStart => exact ⟨0, 1, 0, Nat.zero_le _, rfl, rfl, rfl, rfl, rfl, Lib.hid rfl, Nat.le_refl _, Nat.zero_le _⟩
  case round =>
    obtain ⟨i, wd, k, hi, hgk, rfl, rfl, rfl, rfl, HQ, hwd, hk20⟩ := hrel
    have HGK := Lib.hid hgk
    have HWD := Lib.hid hwd
    have HK20 := Lib.hid hk20
    have hwi : (wd : Int) ≤ 1000001 := by have := HN.out; omega
    have hki : (k : Int) ≤ 20 := by omega
    have hk0 : (0 : Int) ≤ (k : Int) := by omega
    clear hgk hwd hk20
    by_cases hlt : i < s.size
    · have hli : (i : Int) < (s.size : Int) := by omega
      have HLT := Lib.hid hlt
      have hix := idx_str s i hlt
      have HD := Lib.hid (drop_at (l := ints s) (i := i) (by rw [ints_len]; exact hlt))
      have hrg := ints_rng s i
      obtain ⟨c, hc⟩ : ∃ c, (ints s).getD i 0 = c := ⟨_, rfl⟩
      rw [hc] at hix HD hrg
      obtain ⟨hr0, hr1⟩ := hrg
      clear hc hlt
      by_cases h32 : c = 32
      · subst h32
        by_cases hk : k = 0
        · subst hk
          have HR : Hid (labB (ints s) = false) := Lib.hid (by rw [← HQ.out, HD.out, labR_sp0])
          go_wp2_with fail
          go_ret
          exact ⟨congrArg (fun b => Ending.returned (Value.bool b)) HR.out.symm, rfl⟩
        · have hkb : ((k : Int) == 0) = false := by simp; omega
          have HR : Hid (labR ((ints s).drop (i + 1)) (wd + 1) 0 = labB (ints s)) := Lib.hid (by rw [← HQ.out, HD.out, labR_sp hk])
          clear hk
          go_wp2_with fail
          go_roundg (s.size - (i + 1))
          case rel => exact ⟨i + 1, wd + 1, 0, by have := HLT.out; omega, rfl, by go_num, rfl, by go_num, rfl, HR, by have := HWD.out; omega, Nat.zero_le _⟩
          case measure => have := HLT.out; have := HGK.out; omega
      · have H32 := Lib.hid h32
        have h32b : (c == 32) = false := by simpa using h32
        clear h32
        rcases (show c < 48 ∨ (48 ≤ c ∧ c ≤ 57) ∨ (57 < c ∧ c < 65) ∨ (65 ≤ c ∧ c ≤ 90) ∨ 90 < c by omega) with hcs | hcs | hcs | hcs | hcs
        · have HU : Hid (upB c = false) := Lib.hid (by simp [upB]; omega)
          have hf0 : c < 65 := by omega
          have hf1 : c < 48 := by omega
          clear hcs
          have HR : Hid (labB (ints s) = false) := Lib.hid (by rw [← HQ.out, HD.out, labR_no H32.out HU.out])
          go_wp2_with fail
          go_ret
          exact ⟨congrArg (fun b => Ending.returned (Value.bool b)) HR.out.symm, rfl⟩
        · have HU : Hid (upB c = true) := Lib.hid (by simp [upB]; omega)
          have hf0 : c < 65 := by omega
          have hf1 : ¬ c < 48 := by omega
          have hf2 : ¬ 57 < c := by omega
          clear hcs
          by_cases hkk : 20 < k + 1
          · have HR : Hid (labB (ints s) = false) := Lib.hid (by rw [← HQ.out, HD.out, labR_long H32.out HU.out hkk])
            have hk1 : (20 : Int) < (k : Int) + 1 := by omega
            clear hkk
            go_wp2_with fail
            go_ret
            exact ⟨congrArg (fun b => Ending.returned (Value.bool b)) HR.out.symm, rfl⟩
          · have HR : Hid (labR ((ints s).drop (i + 1)) wd (k + 1) = labB (ints s)) := Lib.hid (by rw [← HQ.out, HD.out, labR_up H32.out HU.out (by omega)])
            have hk1 : ¬ (20 : Int) < (k : Int) + 1 := by omega
            have HK1 : Hid (k + 1 ≤ 20) := Lib.hid (by omega)
            clear hkk
            go_wp2_with fail
            go_roundg (s.size - (i + 1))
            case rel => exact ⟨i + 1, wd, k + 1, by have := HLT.out; omega, rfl, rfl, by go_num, by go_num, rfl, HR, by have := HWD.out; omega, HK1.out⟩
            case measure => have := HLT.out; have := HGK.out; omega
        · have HU : Hid (upB c = false) := Lib.hid (by simp [upB]; omega)
          have hf0 : c < 65 := by omega
          have hf1 : ¬ c < 48 := by omega
          have hf2 : 57 < c := by omega
          clear hcs
          have HR : Hid (labB (ints s) = false) := Lib.hid (by rw [← HQ.out, HD.out, labR_no H32.out HU.out])
          go_wp2_with fail
          go_ret
          exact ⟨congrArg (fun b => Ending.returned (Value.bool b)) HR.out.symm, rfl⟩
        · have HU : Hid (upB c = true) := Lib.hid (by simp [upB]; omega)
          have hf0 : ¬ c < 65 := by omega
          have hf1 : ¬ 90 < c := by omega
          clear hcs
          by_cases hkk : 20 < k + 1
          · have HR : Hid (labB (ints s) = false) := Lib.hid (by rw [← HQ.out, HD.out, labR_long H32.out HU.out hkk])
            have hk1 : (20 : Int) < (k : Int) + 1 := by omega
            clear hkk
            go_wp2_with fail
            go_ret
            exact ⟨congrArg (fun b => Ending.returned (Value.bool b)) HR.out.symm, rfl⟩
          · have HR : Hid (labR ((ints s).drop (i + 1)) wd (k + 1) = labB (ints s)) := Lib.hid (by rw [← HQ.out, HD.out, labR_up H32.out HU.out (by omega)])
            have hk1 : ¬ (20 : Int) < (k : Int) + 1 := by omega
            have HK1 : Hid (k + 1 ≤ 20) := Lib.hid (by omega)
            clear hkk
            go_wp2_with fail
            go_roundg (s.size - (i + 1))
            case rel => exact ⟨i + 1, wd, k + 1, by have := HLT.out; omega, rfl, rfl, by go_num, by go_num, rfl, HR, by have := HWD.out; omega, HK1.out⟩
            case measure => have := HLT.out; have := HGK.out; omega
        · have HU : Hid (upB c = false) := Lib.hid (by simp [upB]; omega)
          have hf0 : ¬ c < 65 := by omega
          have hf1 : 90 < c := by omega
          have hf2 : ¬ c < 48 := by omega
          have hf3 : 57 < c := by omega
          clear hcs
          have HR : Hid (labB (ints s) = false) := Lib.hid (by rw [← HQ.out, HD.out, labR_no H32.out HU.out])
          go_wp2_with fail
          go_ret
          exact ⟨congrArg (fun b => Ending.returned (Value.bool b)) HR.out.symm, rfl⟩
    · have hli : ¬ (i : Int) < (s.size : Int) := by omega
      have HE : Hid (labB (ints s) = (decide (0 < k) && decide (wd ≤ 5))) := Lib.hid (by rw [← HQ.out, List.drop_eq_nil_of_le (by rw [ints_len]; omega), labR])
      clear hlt
      by_cases h0 : 0 < k
      · have h0i : (0 : Int) < (k : Int) := by omega
        by_cases h5 : wd ≤ 5
        · have h5i : (wd : Int) ≤ 5 := by omega
          have HR : Hid (labB (ints s) = true) := Lib.hid (by rw [HE.out, decide_eq_true h0, decide_eq_true h5]; rfl)
          clear h0 h5
          go_wp2_with fail
          go_ret
          exact ⟨congrArg (fun b => Ending.returned (Value.bool b)) HR.out.symm, rfl⟩
        · have h5i : ¬ (wd : Int) ≤ 5 := by omega
          have HR : Hid (labB (ints s) = false) := Lib.hid (by rw [HE.out, decide_eq_true h0, decide_eq_false h5]; rfl)
          clear h0 h5
          go_wp2_with fail
          go_ret
          exact ⟨congrArg (fun b => Ending.returned (Value.bool b)) HR.out.symm, rfl⟩
      · have h0i : ¬ (0 : Int) < (k : Int) := by omega
        have HR : Hid (labB (ints s) = false) := Lib.hid (by rw [HE.out, decide_eq_false h0]; rfl)
        clear h0
        go_wp2_with fail
        go_ret
        exact ⟨congrArg (fun b => Ending.returned (Value.bool b)) HR.out.symm, rfl⟩
end Go.Proofs.YtnnonidiogoffaaGreatDoor
