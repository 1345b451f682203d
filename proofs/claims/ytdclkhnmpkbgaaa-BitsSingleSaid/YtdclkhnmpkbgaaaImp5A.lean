/- The program's Least, Size, Bit, and its test of the two numbers: what each hands back. -/
import Derived.Test.YtdclkhnmpkbgaaaSame5
import Derived.Test.YtdclkhnmpkbgaaaShelf
import Derived.Lib.EndianBits
namespace Go.Proofs.Ytdclkhnmpkbgaaa
open Go.RowKit

theorem leastN_bitLen : ∀ f x, leastN x ≤ f → Lib.bitLenAux f x = leastN x
  | 0, x, h => by
    show 0 = leastN x
    omega
  | f + 1, x, h => by
    rw [Lib.bitLenAux]
    split
    · rename_i h0
      rw [h0, leastN_zero]
    · rename_i h0
      rw [leastN_pos h0] at h ⊢
      rw [leastN_bitLen f (x / 2) (by omega)]
      omega
theorem len32_any (x : Int) (w : World) (h0 : 0 ≤ x) (h1 : x < 4294967296) : Calls Try.prog 24 #[.int .u32 x] w fun e w' => e = .returned (.int .i64 (leastN x.toNat : Int)) ∧ w = w' := by
  refine (Try.bits_Len32 x w h0 (by omega)).mono ?_
  rintro e w' ⟨rfl, rfl⟩
  refine ⟨?_, rfl⟩
  rw [show Lib.bitLen x.toNat = leastN x.toNat from leastN_bitLen 64 x.toNat ((leastN_le 64 _).2 (by omega))]
theorem pleast_any (x : Int) (w : World) (h0 : 0 ≤ x) (h1 : x < 4294967296) : Calls Try.prog 18 #[.int .u32 x] w fun e w' => e = .returned (.int .i64 (leastN x.toNat : Int)) ∧ w = w' := by
  have H := fun w => Lib.hid (len32_any x w h0 h1)
  go_enter Try.func18, Try.ntmps18
  go_wp2_with fail
  refine (H _).out.mono ?_
  rintro e w' ⟨rfl, rfl⟩
  go_wp2
  go_ret
  exact ⟨rfl, rfl⟩

/-- Whether there are packings of n numbers of d bits. -/
def fits (d n : Int) : Bool := decide (1 ≤ d ∧ d ≤ 32 ∧ 0 ≤ n ∧ n ≤ 1048576)
theorem packable_any (d n : Int) (w : World) : Calls Try.prog 21 #[.int .i64 d, .int .i64 n] w fun e w' => e = .returned (.bool (fits d n)) ∧ w = w' := by
  by_cases h1 : d < 1
  · have hs : fits d n = false := by simp [fits]; omega
    rw [hs]
    go_enter Try.func21, Try.ntmps21
    go_wp2
    go_ret
    exact ⟨rfl, rfl⟩
  · by_cases h2 : 32 < d
    · have hs : fits d n = false := by simp [fits]; omega
      rw [hs]
      go_enter Try.func21, Try.ntmps21
      go_wp2
      go_ret
      exact ⟨rfl, rfl⟩
    · by_cases h3 : n < 0
      · have hs : fits d n = false := by simp [fits]; omega
        rw [hs]
        go_enter Try.func21, Try.ntmps21
        go_wp2
        go_ret
        exact ⟨rfl, rfl⟩
      · have hs : fits d n = decide (n ≤ 1048576) := by
          unfold fits
          exact decide_eq_decide.2 ⟨fun h => h.2.2.2, fun h => ⟨by omega, by omega, by omega, h⟩⟩
        have b1 : 1 ≤ d := by omega
        have b2 : d ≤ 32 := by omega
        have b3 : 0 ≤ n := by omega
        clear h1 h2 h3
        rw [hs]
        go_enter Try.func21, Try.ntmps21
        go_wp2
        go_ret
        exact ⟨rfl, rfl⟩
theorem fits_true {d n : Int} (h : fits d n = true) : 1 ≤ d ∧ d ≤ 32 ∧ 0 ≤ n ∧ n ≤ 1048576 := by simpa [fits] using h
theorem sizeI_false {d n : Int} (h : fits d n = false) : sizeI d n = 0 := by
  unfold sizeI
  rw [if_pos]
  simp [fits] at h
  omega
theorem sizeI_true {d n : Int} (h : fits d n = true) : sizeI d n = (d * n + 7) / 8 := by
  have := fits_true h
  unfold sizeI
  rw [if_neg (by omega)]

theorem psize_any (d n : Int) (w : World) : Calls Try.prog 15 #[.int .i64 d, .int .i64 n] w fun e w' => e = .returned (.int .i64 (sizeI d n)) ∧ w = w' := by
  have HP := fun w => Lib.hid (packable_any d n w)
  cases hf : fits d n with
  | false =>
    rw [sizeI_false hf]
    simp only [hf] at HP
    clear hf
    go_enter Try.func15, Try.ntmps15
    go_wp2_with fail
    refine (HP _).out.mono ?_
    rintro e w' ⟨rfl, rfl⟩
    go_wp2
    go_ret
    exact ⟨rfl, rfl⟩
  | true =>
    have hs := sizeI_true hf
    have h := fits_true hf
    have HS := Lib.hid hs
    simp only [hf] at HP
    have p1 : 0 ≤ d * n := Int.mul_nonneg (by omega) h.2.2.1
    have p2 : d * n ≤ 33554432 := by
      have h1 : d * n ≤ 32 * n := Int.mul_le_mul_of_nonneg_right h.2.1 h.2.2.1
      omega
    clear h hs hf
    go_enter Try.func15, Try.ntmps15
    go_wp2_with fail
    refine (HP _).out.mono ?_
    rintro e w' ⟨rfl, rfl⟩
    go_wp2
    go_ret
    exact ⟨by rw [HS.out]; rfl, rfl⟩

theorem quiet_eq {P : Program} {f : FuncId} {args : Array Value} {w : World} {n : Nat} {v : Value}
    (h : Calls P f args (w.drewN n) fun e w' => e = .returned v ∧ w.drewN n = w') : Calls P f args (w.drewN n) fun e w'' => e = .returned v ∧ ∃ m, w'' = w.drewN m :=
  h.mono fun _ _ ⟨he, hm⟩ => ⟨he, n, hm.symm⟩

/-- The closure that asks whether a number is too wide: d lies in a block of its own. -/
theorem wide_any (x d : Int) (g : Nat) (w : World) (h0 : 0 ≤ x) (h1 : x < 4294967296) (hd : w.cell? ⟨g, 0, none⟩ = some (.int .i64 d)) :
    Calls Try.prog 20 #[.int .u32 x, .pointer (some ⟨g, 0, none⟩)] w fun e w' => e = .returned (.bool (decide (d < (leastN x.toNat : Int)))) ∧ ∃ m, w' = w.drewN m := by
  have H := fun w => Lib.hid (pleast_any x w h0 h1)
  have HD := fun m => (show (w.drewN m).cell? ⟨g, 0, none⟩ = some (.int .i64 d) from hd)
  have HD1 : w.drew.cell? ⟨g, 0, none⟩ = some (.int .i64 d) := hd
  generalize leastN x.toNat = L at *
  go_enter Try.func20, Try.ntmps20
  go_wp2_with fail
  go_quiet ((go_at_call 18; exact quiet_eq (H _).out))
  go_wp2
  go_ret
  exact ⟨rfl, _, rfl⟩

def bitB (n : Nat) (i : Int) : Bool := decide (0 ≤ i ∧ i / 8 < (n : Int))
def bitV (xs : List Int) (n : Nat) (i : Int) : Int := if bitB n i then lbit xs i.toNat else 0
set_option maxHeartbeats 1000000 in
theorem pbitat_any (i : Int) (A : Option Addr) (n c : Nat) (xs : List Int) (w : World) (hS : Sl w A n c xs) (hn : n ≤ 10000000) (hi : i ≤ 9223372036854775807) :
    Calls Try.prog 17 #[.slice A n c, .int .i64 i] w fun e w' => e = .returned (.tuple #[.int .i64 (bitV xs n i), .bool (bitB n i)]) ∧ w = w' := by
  by_cases h1 : i < 0
  · have hs : bitB n i = false := by simp [bitB]; omega
    rw [bitV, hs, if_neg (by decide)]
    clear hs hS
    go_enter Try.func17, Try.ntmps17
    go_wp2
    go_ret2
    exact ⟨rfl, rfl⟩
  · obtain ⟨I, rfl⟩ : ∃ I : Nat, i = (I : Int) := ⟨i.toNat, by omega⟩
    obtain ⟨q, hq⟩ : ∃ q, I / 8 = q := ⟨_, rfl⟩
    obtain ⟨m, hm⟩ : ∃ m, I % 8 = m := ⟨_, rfl⟩
    have hqi : (I : Int) / 8 = (q : Int) := by omega
    have hmi : (I : Int) % 8 = (m : Int) := by omega
    have hm8 : m < 8 := by omega
    have hqb : (q : Int) ≤ 1152921504606846975 := by omega
    clear h1
    by_cases h2 : q < n
    · have hs : bitB n I = true := by simp [bitB]; omega
      obtain ⟨b, o, rfl, hc⟩ := hS.bytes (by omega)
      have hc1 := hc q h2
      clear hc
      have hr := getD_rng8 hS.rng q
      have hv : Hid (lbit xs (I : Int).toNat = xs.getD q 0 / 2 ^ m % 2) := by
        show _ = _
        unfold lbit
        rw [Int.toNat_natCast, hq, hm]
      rw [bitV, hs, if_pos rfl, hv.out]
      generalize xs.getD q 0 = y at *
      have h2i : (q : Int) < (n : Int) := by omega
      have hz : Hid (bits .and .u8 (y / 2 ^ m) 1 = y / 2 ^ m % 2) := by
        have h0 : 0 ≤ y / 2 ^ m := Int.ediv_nonneg hr.1 (Int.le_of_lt (Int.pow_pos (by decide)))
        have h1 : y / 2 ^ m ≤ y := Int.ediv_le_self _ hr.1
        exact bits_mask .u8 8 (by decide) wraps_u8 1 (by decide) _ h0 (by omega)
      have hw : wrap64 (y / 2 ^ m % 2) = y / 2 ^ m % 2 := by
        generalize y / 2 ^ m = z
        unfold wrap64
        omega
      clear hs hS hv hq hm
      go_enter Try.func17, Try.ntmps17
      go_wp2
      go_ret2
      rw [hz.out, hw]
      exact ⟨rfl, rfl⟩
    · have hs : bitB n I = false := by simp [bitB]; omega
      rw [bitV, hs, if_neg (by decide)]
      have h2i : ¬ (q : Int) < (n : Int) := by omega
      clear hs hS hq hm
      go_enter Try.func17, Try.ntmps17
      go_wp2
      go_ret2
      exact ⟨rfl, rfl⟩

end Go.Proofs.Ytdclkhnmpkbgaaa
