/- The reference's number of a decimal text. -/
import Derived.Test.YtbemkfneebbgeaaDoorRef9E
namespace Go.Proofs.YtbemkfneebbgeaaDoor
open Go.RowKit

/-- The bytes of a string as numbers. -/
def ints (s : ByteArray) : List Int := s.data.toList.map fun b => (b.toNat : Int)
theorem ints_len (s : ByteArray) : (ints s).length = s.size := by
  rw [ints, List.length_map, Array.length_toList]
  rfl
theorem ints_at (s : ByteArray) (i : Nat) (h : i < s.size) : (ints s).getD i 0 = ((s[i]).toNat : Int) := by
  have h' : i < s.data.size := h
  simp only [ints, List.getD_eq_getElem?_getD, List.getElem?_map, Array.getElem?_toList]
  rw [Array.getElem?_eq_getElem h']
  rfl
theorem ints_rng (s : ByteArray) (i : Nat) : 0 ≤ (ints s).getD i 0 ∧ (ints s).getD i 0 < 256 := by
  by_cases h : i < s.size
  · rw [ints_at s i h]
    have := (s[i]).toNat_lt
    omega
  · rw [List.getD_eq_getElem?_getD, List.getElem?_eq_none (by rw [ints_len]; omega)]
    simp
theorem idx_str (s : ByteArray) (k : Nat) (hk : k < s.size) (w : World) : (Instr.index 9 (.string s) (.int .i64 (k : Int))).run Tryd.prog w = .ok (.int .u8 ((ints s).getD k 0)) w := by
  rw [run_index_string w 9 s .i64 (k : Int) Tryd.underlying9, dif_pos ⟨by omega, by omega⟩, ints_at s k hk]
  simp only [Int.toNat_natCast]

/-- The value of the first k bytes as digits. -/
def valN (xs : List Int) : Nat → Int
  | 0 => 0
  | k + 1 => 10 * valN xs k + xs.getD k 0 - 48
/-- Whether bytes are the digits of a number: at least one and at most ten, and no zero ahead of others. -/
def digB (xs : List Int) : Bool := decide (1 ≤ xs.length ∧ xs.length ≤ 10 ∧ (1 < xs.length → xs.getD 0 0 ≠ 48) ∧ ∀ i, i < xs.length → 48 ≤ xs.getD i 0 ∧ xs.getD i 0 ≤ 57)
def numI (xs : List Int) : Int := if digB xs = true ∧ valN xs xs.length ≤ 4294967295 then valN xs xs.length else -1
theorem digB_true {xs : List Int} (h : digB xs = true) : 1 ≤ xs.length ∧ xs.length ≤ 10 ∧ (1 < xs.length → xs.getD 0 0 ≠ 48) ∧ ∀ i, i < xs.length → 48 ≤ xs.getD i 0 ∧ xs.getD i 0 ≤ 57 := of_decide_eq_true h
theorem numI_no {xs : List Int} (h : digB xs = false) : numI xs = -1 := by unfold numI; rw [h]; simp
theorem digB_no {xs : List Int} (p : Prop) (h1 : digB xs = true → p) (h2 : ¬ p) : digB xs = false := by
  cases hq : digB xs with
  | false => rfl
  | true => exact absurd (h1 hq) h2
theorem valN_rng (xs : List Int) (h : ∀ i, i < xs.length → 48 ≤ xs.getD i 0 ∧ xs.getD i 0 ≤ 57) : ∀ k, k ≤ xs.length → 0 ≤ valN xs k ∧ valN xs k < 10 ^ k
  | 0, _ => by simp [valN]
  | k + 1, hk => by
    have h1 := valN_rng xs h k (by omega)
    have h2 := h k (by omega)
    have e : (10 : Int) ^ (k + 1) = 10 ^ k * 10 := Int.pow_succ 10 k
    rw [e]
    show 0 ≤ 10 * valN xs k + xs.getD k 0 - 48 ∧ 10 * valN xs k + xs.getD k 0 - 48 < _
    omega

set_option maxHeartbeats 2000000 in
set_option maxRecDepth 100000 in
theorem rnumber_any (s : ByteArray) (hs : s.size ≤ 1000000) (w : World) :
    Calls Tryd.prog 32 #[.string s] w fun e w' => e = .returned (.int .i64 (numI (ints s))) ∧ w = w' := by
  have hl := ints_len s
  by_cases h0 : s.size = 0
  · have hse : s = ⟨#[]⟩ := by
      have : s.data = #[] := Array.size_eq_zero_iff.1 h0
      cases s
      simp at this
      rw [this]
    subst hse
    clear hs hl h0
    go_enter Tryd.func32, Tryd.ntmps32
    go_wp2_with fail
    go_loopg [3, 4] 0 (fun k s3 s4 wx => k = 0 ∧ s3 = .int .i64 0 ∧ s4 = .int .i64 0 ∧ Hid (w = wx))
    case atStart => exact ⟨rfl, rfl, rfl, Lib.hid rfl⟩
    case round =>
      obtain ⟨_, rfl, rfl, hw⟩ := hrel
      obtain rfl := hw.out
      go_wp2_with fail
      go_ret
      exact ⟨by rfl, rfl⟩
  · have hx0 : ∀ w, (Instr.index 9 (.string s) (.int .i64 0)).run Tryd.prog w = .ok (.int .u8 ((ints s).getD 0 0)) w := fun w => idx_str s 0 (by omega) w
    have r0 := ints_rng s 0
    have hsz0 : (0 : Int) < (s.size : Int) := by omega
    by_cases hb : 10 < s.size ∨ ((ints s).getD 0 0 = 48 ∧ 1 < s.size)
    · have hno : numI (ints s) = -1 := numI_no (digB_no (¬ (10 < s.size ∨ ((ints s).getD 0 0 = 48 ∧ 1 < s.size))) (fun hq => by
        obtain ⟨q1, q2, q3, q4⟩ := digB_true hq
        rw [hl] at q1 q2 q3
        rintro (q | ⟨q, q'⟩)
        · omega
        · exact q3 q' q) (fun h => h hb))
      rw [hno]
      obtain ⟨x, hx⟩ : ∃ x, (ints s).getD 0 0 = x := ⟨_, rfl⟩
      rw [hx] at hx0 r0 hb
      obtain ⟨r00, r01⟩ := r0
      clear hx hno hl h0
      go_enter Tryd.func32, Tryd.ntmps32
      go_wp2_with fail
      go_loopg [3, 4] 0 (fun k s3 s4 wx => k = 0 ∧ s3 = .int .i64 0 ∧ s4 = .int .i64 0 ∧ Hid (w = wx))
      case atStart => exact ⟨rfl, rfl, rfl, Lib.hid rfl⟩
      case round =>
        obtain ⟨_, rfl, rfl, hw⟩ := hrel
        obtain rfl := hw.out
        by_cases d0 : x < 48
        · clear hb
          go_wp2_with fail
          go_ret
          exact ⟨by rfl, rfl⟩
        · by_cases d1 : 57 < x
          · clear hb
            go_wp2_with fail
            go_ret
            exact ⟨by rfl, rfl⟩
          · by_cases hb10 : 10 < s.size
            · have hbi : (10 : Int) < (s.size : Int) := by omega
              clear hb
              go_wp2_with fail
              go_ret
              exact ⟨by rfl, rfl⟩
            · obtain ⟨rfl, h1⟩ : x = 48 ∧ 1 < s.size := by omega
              have hbi : ¬ (10 : Int) < (s.size : Int) := by omega
              have h1i : (1 : Int) < (s.size : Int) := by omega
              clear hb
              go_wp2_with fail
              go_ret
              exact ⟨by rfl, rfl⟩
    · have hb1 : ¬ (10 : Int) < (s.size : Int) := by omega
      have HX0 := Lib.hid hx0
      have HB : Hid (1 < s.size → (ints s).getD 0 0 ≠ 48) := Lib.hid fun h1 h2 => hb (.inr ⟨h2, h1⟩)
      have HL := Lib.hid hl
      have hse : s.toList.isEmpty = false := by
        rw [ByteArray.toList_eq]
        cases hq : s.data.toList with
        | nil =>
          have h1 : s.data.size = 0 := by rw [← Array.length_toList, hq]; rfl
          exact absurd h1 h0
        | cons a l => rfl
      have h10 : s.size ≤ 10 := by omega
      obtain ⟨x, hx⟩ : ∃ x, (ints s).getD 0 0 = x := ⟨_, rfl⟩
      rw [hx] at hx0 r0
      obtain ⟨r00, r01⟩ := r0
      have HXX := Lib.hid hx
      have hq01 : decide (x = 48) = false ∨ ¬ (1 : Int) < (s.size : Int) := by
        by_cases h1 : 1 < s.size
        · exact .inl (decide_eq_false fun h2 => hb (.inr ⟨by rw [hx]; exact h2, h1⟩))
        · exact .inr (by omega)
      have HQ01 := Lib.hid hq01
      clear hx hl hb hq01
      go_enter Tryd.func32, Tryd.ntmps32
      go_wp2_with fail
      go_loopg [3, 4] s.size (fun k s3 s4 wx => ∃ i : Nat, i ≤ s.size ∧ k = s.size - i ∧ s3 = .int .i64 (valN (ints s) i) ∧ s4 = .int .i64 (i : Int) ∧ Hid (∀ j, j < i → 48 ≤ (ints s).getD j 0 ∧ (ints s).getD j 0 ≤ 57) ∧ Hid (0 ≤ valN (ints s) i ∧ valN (ints s) i < 10 ^ i) ∧ Hid (w = wx))
      case atStart => exact ⟨0, Nat.zero_le _, rfl, rfl, rfl, Lib.hid (fun j hj => absurd hj (Nat.not_lt_zero _)), Lib.hid (by simp [valN]), Lib.hid rfl⟩
      case round =>
        obtain ⟨i, hi, hgk, rfl, rfl, HE, HVR, HW⟩ := hrel
        have HGK := Lib.hid hgk
        clear hgk
        obtain rfl := HW.out
        by_cases hlt : i < s.size
        · have hin : (i : Int) < (s.size : Int) := by omega
          have hi0 : (0 : Int) ≤ (i : Int) := by omega
          have hxi := idx_str s i hlt
          have ri := ints_rng s i
          have HS : Hid (valN (ints s) (i + 1) = 10 * valN (ints s) i + (ints s).getD i 0 - 48) := Lib.hid rfl
          obtain ⟨y, hy⟩ : ∃ y, (ints s).getD i 0 = y := ⟨_, rfl⟩
          rw [hy] at hxi ri HS
          obtain ⟨ri0, ri1⟩ := ri
          have HY := Lib.hid hy
          clear hy
          have hno : ¬ (48 ≤ y ∧ y ≤ 57) → numI (ints s) = -1 := fun hn => numI_no (digB_no (48 ≤ y ∧ y ≤ 57) (fun hq => by
            have := (digB_true hq).2.2.2 i (by rw [HL.out]; exact hlt)
            rw [HY.out] at this
            exact this) hn)
          have HNO := Lib.hid hno
          clear hno
          by_cases d0 : y < 48
          · have HN := Lib.hid (HNO.out (by omega))
            go_wp2_with fail
            go_ret
            exact ⟨by rw [HN.out]; rfl, rfl⟩
          · by_cases d1 : 57 < y
            · have HN := Lib.hid (HNO.out (by omega))
              go_wp2_with fail
              go_ret
              exact ⟨by rw [HN.out]; rfl, rfl⟩
            · have hp := HVR.out
              have hpw : (10 : Int) ^ i ≤ 10 ^ 9 := by
                have h1 := Nat.pow_le_pow_right (show 0 < 10 by omega) (show i ≤ 9 by omega)
                have e1 : ((10 ^ i : Nat) : Int) = 10 ^ i := Int.natCast_pow 10 i
                have e2 : ((10 ^ 9 : Nat) : Int) = 10 ^ 9 := Int.natCast_pow 10 9
                omega
              have hv0 : 0 ≤ valN (ints s) i := hp.1
              have hv1 : valN (ints s) i ≤ 1000000000 := by
                have e9 : (10 : Int) ^ 9 = 1000000000 := by decide
                omega
              have HE2 : Hid (∀ j, j < i + 1 → 48 ≤ (ints s).getD j 0 ∧ (ints s).getD j 0 ≤ 57) := Lib.hid fun j hj => by
                by_cases e : j = i
                · subst e
                  rw [HY.out]
                  omega
                · exact HE.out j (by omega)
              have HV2 : Hid (0 ≤ valN (ints s) (i + 1) ∧ valN (ints s) (i + 1) < 10 ^ (i + 1)) := Lib.hid (by
                have e : (10 : Int) ^ (i + 1) = 10 ^ i * 10 := Int.pow_succ 10 i
                rw [HS.out, e]
                omega)
              clear hp hpw
              generalize valN (ints s) i = V at *
              rcases HQ01.out with q | q
              · have q' : ¬ x = 48 := of_decide_eq_false q
                go_wp2_with fail
                go_roundg (s.size - (i + 1))
                case rel => exact ⟨i + 1, by omega, rfl, by rw [HS.out], by go_num, HE2, HV2, Lib.hid rfl⟩
                case measure => have := HGK.out; omega
              · by_cases q2 : x = 48
                · subst q2
                  go_wp2_with fail
                  go_roundg (s.size - (i + 1))
                  case rel => exact ⟨i + 1, by omega, rfl, by rw [HS.out], by go_num, HE2, HV2, Lib.hid rfl⟩
                  case measure => have := HGK.out; omega
                · go_wp2_with fail
                  go_roundg (s.size - (i + 1))
                  case rel => exact ⟨i + 1, by omega, rfl, by rw [HS.out], by go_num, HE2, HV2, Lib.hid rfl⟩
                  case measure => have := HGK.out; omega
        · obtain hie : i = s.size := by omega
          have hok : digB (ints s) = true := decide_eq_true (by
            rw [HL.out]
            exact ⟨by omega, h10, HB.out, fun j hj => HE.out j (by omega)⟩)
          have hin : ¬ (i : Int) < (s.size : Int) := by omega
          have hnum : numI (ints s) = if valN (ints s) i ≤ 4294967295 then valN (ints s) i else -1 := by
            unfold numI
            rw [hok, HL.out, ← hie]
            simp
          have HNU := Lib.hid hnum
          clear hok hnum hie
          generalize valN (ints s) i = V at *
          by_cases hv : V ≤ 4294967295
          · have HN : Hid (numI (ints s) = V) := Lib.hid (by rw [HNU.out, if_pos hv])
            go_wp2_with fail
            go_ret
            exact ⟨by rw [HN.out]; rfl, rfl⟩
          · have HN : Hid (numI (ints s) = -1) := Lib.hid (by rw [HNU.out, if_neg hv])
            go_wp2_with fail
            go_ret
            exact ⟨by rw [HN.out]; rfl, rfl⟩

end Go.Proofs.YtbemkfneebbgeaaDoor
