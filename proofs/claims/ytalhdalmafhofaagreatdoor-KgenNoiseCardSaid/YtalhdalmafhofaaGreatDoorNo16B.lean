/- The noise of bytes, told by their bits. The closure of Noise, the sizes, and Noise itself. -/
import Derived.Test.YtalhdalmafhofaaGreatDoorImp5A
import Derived.Test.YtalhdalmafhofaaGreatDoorP14
import Derived.Deep.RegionLaw
namespace Go.Proofs.YtalhdalmafhofaaGreatDoor
open Go.RowKit
set_option maxRecDepth 100000
set_option linter.unusedVariables false

set_option maxHeartbeats 1000000 in
theorem pbitat_any (i : Int) (A : Option Addr) (n c : Nat) (xs : List Int) (w : World) (hS : Sl w A n c xs) (hn : n ≤ 10000000) (hi : i ≤ 9223372036854775807) :
    Calls Tryz.prog 17 #[.slice A n c, .int .i64 i] w fun e w' => e = .returned (.tuple #[.int .i64 (bitV xs n i), .bool (bitB n i)]) ∧ w = w' := by
  by_cases h1 : i < 0
  · have hs : bitB n i = false := by simp [bitB]; omega
    rw [bitV, hs, if_neg (by decide)]
    clear hs hS
    go_enter Tryz.func17, Tryz.ntmps17
    go_wp2
    go_ret2
    exact ⟨rfl, rfl⟩
  · obtain ⟨I, rfl⟩ : ∃ I : Nat, i = (I : Int) := ⟨i.toNat, by omega⟩
    obtain ⟨q, hq⟩ : ∃ q, I / 8 = q := ⟨_, rfl⟩
    obtain ⟨m, hm⟩ : ∃ m, I % 8 = m := ⟨_, rfl⟩
    have hqi : (I : Int) / 8 = (q : Int) := by omega
    have hmi : (I : Int) % 8 = (m : Int) := by omega
    have hm8 : m < 8 := by omega
    have hqb : (q : Int) ≤ 1152921504606846975 := by omega
    clear h1
    by_cases h2 : q < n
    · have hs : bitB n I = true := by simp [bitB]; omega
      obtain ⟨b, o, rfl, hc⟩ := hS.bytes (by omega)
      have hc1 := hc q h2
      clear hc
      have hr := getD_rng8 hS.rng q
      have hv : Hid (lbit xs (I : Int).toNat = xs.getD q 0 / 2 ^ m % 2) := by
        show _ = _
        unfold lbit
        rw [Int.toNat_natCast, hq, hm]
      rw [bitV, hs, if_pos rfl, hv.out]
      generalize xs.getD q 0 = y at *
      have h2i : (q : Int) < (n : Int) := by omega
      have hz : Hid (bits .and .u8 (y / 2 ^ m) 1 = y / 2 ^ m % 2) := by
        have h0 : 0 ≤ y / 2 ^ m := Int.ediv_nonneg hr.1 (Int.le_of_lt (Int.pow_pos (by decide)))
        have h1 : y / 2 ^ m ≤ y := Int.ediv_le_self _ hr.1
        exact bits_mask .u8 8 (by decide) wraps_u8 1 (by decide) _ h0 (by omega)
      have hw : wrap64 (y / 2 ^ m % 2) = y / 2 ^ m % 2 := by
        generalize y / 2 ^ m = z
        unfold wrap64
        omega
      clear hs hS hv hq hm
      go_enter Tryz.func17, Tryz.ntmps17
      go_wp2
      go_ret2
      rw [hz.out, hw]
      exact ⟨rfl, rfl⟩
    · have hs : bitB n I = false := by simp [bitB]; omega
      rw [bitV, hs, if_neg (by decide)]
      have h2i : ¬ (q : Int) < (n : Int) := by omega
      clear hs hS hq hm
      go_enter Tryz.func17, Tryz.ntmps17
      go_wp2
      go_ret2
      exact ⟨rfl, rfl⟩

/-- The ones among k bits from a on. -/
def onesF (xs : List Int) (a : Nat) : Nat → Int
  | 0 => 0
  | k + 1 => onesF xs a k + lbit xs (a + k)
theorem onesF_rng (xs : List Int) (a k : Nat) : 0 ≤ onesF xs a k ∧ onesF xs a k ≤ (k : Int) := by
  induction k with
  | zero => exact ⟨Int.le_refl _, Int.le_refl _⟩
  | succ k ih =>
    have := lbit_rng xs (a + k)
    rw [onesF]
    omega
/-- The coefficient i of the noise. -/
def noF (xs : List Int) (e i : Nat) : Int := (onesF xs (2 * e * i) e - onesF xs (2 * e * i + e) e) % 3329
theorem noF_rng (xs : List Int) (e i : Nat) (he : e ≤ 3) : (0 ≤ noF xs e i ∧ noF xs e i < 3329) ∧ (noF xs e i ≤ (e : Int) ∨ 3329 - (e : Int) ≤ noF xs e i) := by
  have h1 := onesF_rng xs (2 * e * i) e
  have h2 := onesF_rng xs (2 * e * i + e) e
  unfold noF
  omega
/-- What the reference adds up. -/
def sumF (xs : List Int) (e i : Nat) : Nat → Int
  | 0 => 3329
  | k + 1 => sumF xs e i k + lbit xs (2 * e * i + k) - lbit xs (2 * e * i + e + k)
theorem sumF_eq (xs : List Int) (e i k : Nat) : sumF xs e i k = 3329 + onesF xs (2 * e * i) k - onesF xs (2 * e * i + e) k := by
  induction k with
  | zero => rfl
  | succ k ih => rw [sumF, ih, onesF, onesF]; omega
theorem sumF_rng (xs : List Int) (e i k : Nat) (h : k ≤ 3) : 3326 ≤ sumF xs e i k ∧ sumF xs e i k ≤ 3332 := by
  have h1 := onesF_rng xs (2 * e * i) k
  have h2 := onesF_rng xs (2 * e * i + e) k
  rw [sumF_eq]
  omega
theorem sumF_no (xs : List Int) (e i : Nat) : sumF xs e i e % 3329 = noF xs e i := by
  rw [sumF_eq]
  unfold noF
  omega
end Go.Proofs.YtalhdalmafhofaaGreatDoor

namespace Go.Proofs.YtalhdalmafhofaaGreatDoor
open Go.RowKit
set_option maxRecDepth 100000
set_option linter.unusedVariables false

theorem bitV_at (xs : List Int) (n p : Nat) (h : p < 8 * n) : bitV xs n (p : Int) = lbit xs p ∧ bitB n (p : Int) = true := by
  have hb : bitB n (p : Int) = true := by unfold bitB; exact decide_eq_true ⟨by omega, by omega⟩
  exact ⟨by unfold bitV; rw [hb, if_pos rfl, Int.toNat_natCast], hb⟩
set_option maxHeartbeats 2000000 in
theorem ones_any (a e g1 g2 : Nat) (A : Option Addr) (n c : Nat) (xs : List Int) (w : World) (he : e ≤ 3) (ha : a + e ≤ 8 * n) (hS : Sl w A n c xs) (hn : n ≤ 1000)
    (h1 : w.cell? ⟨g1, 0, none⟩ = some (.int .i64 (e : Int))) (h2 : w.cell? ⟨g2, 0, none⟩ = some (.slice A n c)) :
    Calls Tryz.prog 16 #[.int .i64 (a : Int), .pointer (some ⟨g1, 0, none⟩), .pointer (some ⟨g2, 0, none⟩)] w fun r w' => r = .returned (.int .i64 (onesF xs a e)) ∧ ∃ m, w' = w.drewN m := by
  have HN := Lib.hid (And.intro he (And.intro ha hn))
  have H2 := Lib.hid h2
  have HBT := Lib.hid (fun (m i : Nat) (hi : i < 8 * n) => pbitat_any (i : Int) A n c xs (w.drewN m) (hS.drewN m) (by omega) (by omega))
  clear hS h2 he ha hn
  go_enter Tryz.func16, Tryz.ntmps16
  go_wp2_with fail
  clear h1
  go_loopg [5, 10] e (fun q s5 s10 wx => ∃ (i : Nat) (v : Int), i ≤ e ∧ q = e - i ∧ s5 = .int .i64 v ∧ s10 = .int .i64 (i : Int) ∧ 0 ≤ v ∧ v ≤ 3 ∧ Hid (v = onesF xs a i) ∧ Hid (∃ m, wx = w.drewN m))
  case atStart => exact ⟨0, 0, Nat.zero_le _, rfl, rfl, rfl, by decide, by decide, Lib.hid rfl, Lib.hid ⟨0, rfl⟩⟩
  case round =>
    obtain ⟨i, v, hi, hq, rfl, rfl, v0, v1, HV, HW⟩ := hrel
    have HQ := Lib.hid hq
    clear hq
    have hi0 : (0 : Int) ≤ (i : Int) := by omega
    obtain ⟨m, hm⟩ := HW.out
    by_cases hlt : i < e
    · have hii : (i : Int) < (e : Int) := by omega
      have HLT := Lib.hid hlt
      have hh := HN.out
      have hcl : wr.cell? ⟨g2, 0, none⟩ = some (.slice A n c) := by rw [hm]; exact H2.out
      obtain ⟨p, hp⟩ : ∃ p, a + i = p := ⟨_, rfl⟩
      have hpi : (a : Int) + (i : Int) = (p : Int) := by omega
      have hwp : IntKind.i64.wrap ((a : Int) + (i : Int)) = (p : Int) := by rw [IntKind.wrap_i64]; omega
      have hwq : wrap64 (p : Int) = (p : Int) := IntWalk.wrap64_in _ (by omega)
      have HB := Lib.hid (HBT.out m p (by omega))
      rw [(bitV_at xs n p (by omega)).1, (bitV_at xs n p (by omega)).2, ← hm] at HB
      have HM := Lib.hid hm
      clear hm
      have hb := lbit_rng xs p
      have HS : Hid (onesF xs a (i + 1) = v + lbit xs p ∧ v + lbit xs p ≤ 3) := Lib.hid (by
        have h3 := onesF_rng xs a (i + 1)
        have e : onesF xs a (i + 1) = v + lbit xs p := by rw [HV.out, ← hp]; rfl
        exact ⟨e, by rw [← e]; omega⟩)
      generalize lbit xs p = b at *
      obtain ⟨b0, b1⟩ := hb
      obtain ⟨vb, hvb⟩ : ∃ x, v + b = x := ⟨_, rfl⟩
      rw [hvb] at HS
      have HWV : Hid (IntKind.i64.wrap (v + b) = vb ∧ wrap64 vb = vb ∧ 0 ≤ vb) := Lib.hid ⟨by rw [hvb, IntKind.wrap_i64]; omega, IntWalk.wrap64_in _ (by omega), by omega⟩
      have HNI : Hid (wrap64 ((i : Int) + 1) = ((i + 1 : Nat) : Int)) := Lib.hid (by rw [IntWalk.wrap64_in _ (by omega)]; omega)
      clear hvb b0 b1 v0 v1
      clear hlt hi hp hh
      go_wp2_with fail
      refine HB.out.mono ?_
      rintro r w3 ⟨rfl, hw⟩
      have HW3 : Hid (∃ m, w3 = w.drewN m) := Lib.hid ⟨m, by rw [← hw, HM.out]⟩
      clear hw hcl hpi hwp hwq
      obtain ⟨hwa, hwb, _⟩ := HWV.out
      go_wp2_with fail
      clear hwa hwb
      go_roundg (e - (i + 1))
      case rel => exact ⟨i + 1, vb, HLT.out, rfl, rfl, by first | exact congrArg (Value.int .i64) HNI.out | go_num, HWV.out.2.2, HS.out.2, Lib.hid HS.out.1.symm, HW3⟩
      case measure => have := HQ.out; have := HLT.out; omega
    · obtain rfl : i = e := by omega
      have hii : ¬ (i : Int) < (i : Int) := by omega
      clear hlt hi hm
      go_wp2_with fail
      go_ret
      exact ⟨by rw [HV.out]; rfl, HW.out⟩
theorem noiseSize_any (e : Int) (w : World) (he : 0 ≤ e ∧ e ≤ 1000) : Calls Tryz.prog 15 #[.int .i64 e] w fun r w' => r = .returned (.int .i64 (64 * e)) ∧ w' = w := by
  obtain ⟨e0, e1⟩ := he
  have hw : IntKind.i64.wrap (64 * e) = 64 * e := by rw [IntKind.wrap_i64]; omega
  go_enter Tryz.func15, Tryz.ntmps15
  go_wp2_with fail
  go_ret
  exact ⟨rfl, rfl⟩
theorem width_any (a : Int) (w : World) : Calls Tryz.prog 34 #[.int .i64 a] w fun r w' => r = .returned (.int .i64 (if a = 1 then 3 else 2)) ∧ w' = w := by
  by_cases h : a = 1
  · subst h
    rw [if_pos rfl]
    go_enter Tryz.func34, Tryz.ntmps34
    go_wp2_with fail
    go_ret
    exact ⟨rfl, rfl⟩
  · rw [if_neg h]
    go_enter Tryz.func34, Tryz.ntmps34
    go_wp2_with fail
    go_ret
    exact ⟨rfl, rfl⟩
end Go.Proofs.YtalhdalmafhofaaGreatDoor
