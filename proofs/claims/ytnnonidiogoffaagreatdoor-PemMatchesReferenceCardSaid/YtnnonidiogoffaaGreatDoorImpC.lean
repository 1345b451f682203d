/- Contracts of the program's base64: writeGroup. -/
import Derived.Test.YtnnonidiogoffaaGreatDoorImpB
namespace Go.Proofs.YtnnonidiogoffaaGreatDoor
open Go.RowKit

/-- The number of the first k bytes, the first one as the highest. -/
def hor (xs : List Int) : Nat → Int
  | 0 => 0
  | k + 1 => hor xs k * 256 + xs.getD k 0
theorem u32_low (a x : Int) (h0 : 0 ≤ a) (h1 : a < 16777216) (hx0 : 0 ≤ x) (hx1 : x < 256) :
    bits .or .u32 (a * 256 % 4294967296) x = a * 256 + x := by
  rw [Int.emod_eq_of_lt (by omega) (by omega)]
  rw [u32_or _ _ (by omega) (by omega) (by omega) (by omega)]
  obtain ⟨A, rfl⟩ := Int.eq_ofNat_of_zero_le h0
  obtain ⟨X, rfl⟩ := Int.eq_ofNat_of_zero_le hx0
  have e1 : ((A : Int) * 256).toNat = 2 ^ 8 * A := by omega
  rw [e1, Int.toNat_natCast, ← Nat.two_pow_add_eq_or_of_lt (by omega : X < 2 ^ 8)]
  omega
theorem u32_low6 (a x : Int) (h0 : 0 ≤ a) (h1 : a < 67108864) (hx0 : 0 ≤ x) (hx1 : x < 64) :
    bits .or .u32 (a * 64 % 4294967296) x = a * 64 + x := by
  rw [Int.emod_eq_of_lt (by omega) (by omega)]
  rw [u32_or _ _ (by omega) (by omega) (by omega) (by omega)]
  obtain ⟨A, rfl⟩ := Int.eq_ofNat_of_zero_le h0
  obtain ⟨X, rfl⟩ := Int.eq_ofNat_of_zero_le hx0
  have e1 : ((A : Int) * 64).toNat = 2 ^ 6 * A := by omega
  rw [e1, Int.toNat_natCast, ← Nat.two_pow_add_eq_or_of_lt (by omega : X < 2 ^ 6)]
  omega
theorem u32_63 (x : Int) (h0 : 0 ≤ x) (h1 : x < 4294967296) : bits .and .u32 x 63 = x % 64 := by
  rw [u32_and _ _ h0 h1 (by omega) (by omega)]
  obtain ⟨X, rfl⟩ := Int.eq_ofNat_of_zero_le h0
  have e : (63 : Int).toNat = 2 ^ 6 - 1 := by decide
  rw [e, Int.toNat_natCast, Nat.and_two_pow_sub_one_eq_mod]
  omega

theorem hor_rng {xs : List Int} (hr : ∀ x ∈ xs, 0 ≤ x ∧ x < 256) (j : Nat) : 0 ≤ hor xs j ∧ hor xs j < 256 ^ j := by
  induction j with
  | zero => simp [hor]
  | succ j ih =>
    have e : (256 : Int) ^ (j + 1) = 256 ^ j * 256 := Int.pow_succ 256 j
    have := getD_rng hr j
    rw [hor, e]
    omega
theorem idx_strk (k : IntKind) (s : ByteArray) (i : Int) (h0 : 0 ≤ i) (h1 : i < s.size) (w : World) : (Instr.index 9 (.string s) (.int k i)).run Tryz.prog w = .ok (.int .u8 ((ints s).getD i.toNat 0)) w := by
  rw [run_index_string w 9 s k i Tryz.underlying9, dif_pos ⟨by omega, by omega⟩, ints_at s i.toNat (by omega)]
theorem bits_none {B b : Nat} {bs : List Value} {w : World} (h : Lib.IsBuilderF 82 5 B b bs w) : b < w.heap.size := by
  rcases h with h | h
  · exact h.lt
  · exact h.lt

/-- The digit of a group by shifting. -/
theorem group_digit {xs : List Int} (hr : ∀ x ∈ xs, 0 ≤ x ∧ x < 256) (m j : Nat) (hm : xs.length = m) (hm0 : 1 ≤ m) (hm3 : m ≤ 3) (hj : j ≤ m) :
    bits .and .u32 (hor xs m * 2 ^ (8 * (3 - m)) / 2 ^ (18 - 6 * j)) 63 = six xs (8 * m) (6 * j) 6 := by
  have h0 := getD_rng hr 0
  have h1 := getD_rng hr 1
  have h2 := getD_rng hr 2
  have z1 : m ≤ 1 → xs.getD 1 0 = 0 := fun h => by rw [List.getD_eq_getElem?_getD, List.getElem?_eq_none (by omega)]; rfl
  have z2 : m ≤ 2 → xs.getD 2 0 = 0 := fun h => by rw [List.getD_eq_getElem?_getD, List.getElem?_eq_none (by omega)]; rfl
  have s0 := six_0 xs (8 * m) 0 (by omega) (getD_rng hr)
  have s1 := six_1 xs (8 * m) 0 (by omega) (getD_rng hr)
  have s2 := six_2 xs (8 * m) 0 (by omega) (getD_rng hr)
  have s3 := six_3 xs (8 * m) 0 (by omega) (getD_rng hr)
  simp only [Nat.mul_zero, Nat.zero_add, Nat.mul_one] at s0 s1 s2 s3
  have hx : hor xs m * 2 ^ (8 * (3 - m)) = xs.getD 0 0 * 65536 + xs.getD 1 0 * 256 + xs.getD 2 0 := by
    have : m = 1 ∨ m = 2 ∨ m = 3 := by omega
    rcases this with rfl | rfl | rfl
    · have := z1 (by omega)
      have := z2 (by omega)
      simp only [hor, Nat.reduceSub, Nat.reduceMul, Int.reducePow]
      omega
    · have := z2 (by omega)
      simp only [hor, Nat.reduceSub, Nat.reduceMul, Int.reducePow]
      omega
    · simp only [hor, Nat.sub_self, Nat.mul_zero, Int.pow_zero]
      omega
  rw [hx]
  clear hx hr
  generalize xs.getD 0 0 = a at *
  generalize xs.getD 1 0 = b at *
  generalize xs.getD 2 0 = c at *
  have hjj : j = 0 ∨ j = 1 ∨ j = 2 ∨ j = 3 := by omega
  rcases hjj with rfl | rfl | rfl | rfl
  · rw [u32_63 _ (by simp only [Nat.mul_zero, Nat.sub_zero, Int.reducePow]; omega) (by simp only [Nat.mul_zero, Nat.sub_zero, Int.reducePow]; omega)]
    simp only [Nat.mul_zero, Nat.sub_zero, Int.reducePow]
    rw [s0]
    omega
  · rw [u32_63 _ (by simp only [Nat.reduceMul, Nat.reduceSub, Int.reducePow]; omega) (by simp only [Nat.reduceMul, Nat.reduceSub, Int.reducePow]; omega)]
    simp only [Nat.reduceMul, Nat.reduceSub, Int.reducePow]
    rw [s1]
    omega
  · rw [u32_63 _ (by simp only [Nat.reduceMul, Nat.reduceSub, Int.reducePow]; omega) (by simp only [Nat.reduceMul, Nat.reduceSub, Int.reducePow]; omega)]
    simp only [Nat.reduceMul, Nat.reduceSub, Int.reducePow]
    rw [s2]
    omega
  · rw [u32_63 _ (by simp only [Nat.reduceMul, Nat.sub_self, Int.pow_zero]; omega) (by simp only [Nat.reduceMul, Nat.sub_self, Int.pow_zero]; omega)]
    simp only [Nat.reduceMul, Nat.sub_self, Int.pow_zero]
    rw [s3]
    omega

set_option maxRecDepth 100000 in
set_option maxHeartbeats 200000 in
theorem writeGroup_any (al : Int) (hal : isAl al = true) (B b : Nat) (bs : List Value) (A : Option Addr) (m c : Nat) (xs : List Int) (w : World)
    (hb : Lib.IsBuilderF 82 5 B b bs w) (hbs : bs.length ≤ 10000000) (hBw : B ≤ w.heap.size) (hS : Sl w A m c xs) (hm0 : 1 ≤ m) (hm3 : m ≤ 3) :
    Calls Tryz.prog 50 #[.pointer (some ⟨b, 0, none⟩), .string (dstr al), .slice A m c] w fun e w' => e = .returned (.tuple #[]) ∧
      Lib.IsBuilderF 82 5 B b (bs ++ (rdigs al xs (8 * m) (m + 1)).map (Value.int .u8)) w' ∧ Below B w w' := by
  have hz := dstr_size hal
  have HD := Lib.hid (fun v (h0 : 0 ≤ v) (h1 : v ≤ 63) w => idx_strk .u32 (dstr al) v h0 (by omega) w)
  have HG := Lib.hid (group_digit hS.rng m · hS.len hm0 hm3)
  have HR := Lib.hid hS.rng
  have HB := Lib.hid hb
  have HW := Lib.hid hBw
  have hl := hS.len
  clear hb hBw
  go_enter Tryz.func50, Tryz.ntmps50
  go_wp2_with fail
  go_loopg [6, 12] m (fun k s6 s12 wx => ∃ j : Nat, j ≤ m ∧ k = m - j ∧ s6 = .int .u32 (hor xs j) ∧ s12 = .int .i64 (j : Int) ∧ Hid (wx = w))
  case atStart => exact ⟨0, Nat.zero_le _, rfl, rfl, rfl, rfl⟩
  case round =>
    obtain ⟨j, hj, hgk, rfl, rfl, hw⟩ := hrel
    obtain rfl := hw.out
    clear hw
    have HGK := Lib.hid hgk
    clear hgk
    by_cases hlt : j < m
    · have hh := hor_rng HR.out j
      have hp : (256 : Int) ^ j ≤ 65536 := by
        have : j = 0 ∨ j = 1 ∨ j = 2 := by omega
        rcases this with rfl | rfl | rfl <;> decide
      have hx := getD_rng HR.out j
      have HN := Lib.hid (u32_low (hor xs j) (xs.getD j 0) hh.1 (by omega) hx.1 hx.2)
      have HS1 : Hid (hor xs (j + 1) = hor xs j * 256 + xs.getD j 0) := rfl
      obtain ⟨cb, co, rfl, hc⟩ := hS.bytes (by omega)
      have hcell := hc j hlt
      clear hc hS hh hp HG HR
      generalize xs.getD j 0 = x at *
      generalize hor xs j = a at *
      go_wp2_with fail
      go_roundg (m - (j + 1))
      case rel => exact ⟨j + 1, by omega, rfl, by rw [HS1.out, ← HN.out], by first | go_num | (congr 1; omega), rfl⟩
      case measure => have := HGK.out; omega
    · obtain rfl : j = m := by omega
      have hmm : j = 1 ∨ j = 2 ∨ j = 3 := by omega
      have hh := hor_rng HR.out j
      have hlt : hor xs j * 2 ^ (8 * (3 - j)) < 4294967296 := by
        rcases hmm with rfl | rfl | rfl
        · simp only [Nat.reduceSub, Nat.reduceMul, Int.reducePow] at hh ⊢
          omega
        · simp only [Nat.reduceSub, Nat.reduceMul, Int.reducePow] at hh ⊢
          omega
        · simp only [Nat.sub_self, Nat.mul_zero, Int.reducePow, Int.pow_zero] at hh ⊢
          omega
      have hl0 : 0 ≤ hor xs j * 2 ^ (8 * (3 - j)) := Int.mul_nonneg hh.1 (Int.pow_nonneg (by decide))
      go_wp2_with fail
      clear hh
      generalize hor xs j * 2 ^ (8 * (3 - j)) = X at *
      obtain ⟨w0, rfl⟩ : ∃ w0 : World, w0 = wr := ⟨_, rfl⟩
      have HL := Lib.hid (rdigs_succ al xs (8 * j))
      have HDG := Lib.hid (fun i : Nat => (dlist_at hal i))
      have hsix := fun i => six_le xs (8 * j) (6 * i)
      go_loopg [31] (j + 1) (fun k s31 wx => ∃ i : Nat, i ≤ j + 1 ∧ k = j + 1 - i ∧ s31 = .int .i64 (i : Int) ∧ Hid (Lib.IsBuilderF 82 5 B b (bs ++ (rdigs al xs (8 * j) i).map (Value.int .u8)) wx ∧ Below B w0 wx))
      case atStart => exact ⟨0, Nat.zero_le _, rfl, rfl, by simpa [rdigs] using HB.out, Below.refl _ _⟩
      case round =>
        obtain ⟨i, hi, hgk, rfl, HQ⟩ := hrel
        have HGK := Lib.hid hgk
        clear hgk
        by_cases hlt2 : i < j + 1
        · have hbit := HG.out i (by omega)
          have hs := hsix i
          have hix := HD.out _ hs.1 hs.2
          rw [dstr_ints, show (six xs (8 * j) (6 * i) 6).toNat = ((six xs (8 * j) (6 * i) 6).toNat : Nat) from rfl] at hix
          have hdl := HDG.out (six xs (8 * j) (6 * i) 6).toNat (by omega)
          rw [Int.toNat_of_nonneg hs.1] at hdl
          rw [hdl] at hix
          clear hdl hsix
          have HLi := Lib.hid (HL.out i)
          have hlen := rdigs_len al xs (8 * j) i
          generalize rdigs al xs (8 * j) i = ds at *
          generalize six xs (8 * j) (6 * i) 6 = v at *
          generalize dig al v = d at *
          go_wp2_with fail
          refine (writeByte_k B b _ d wr HQ.out.1 (by simp; omega) (Nat.le_trans HW.out HQ.out.2.size)).mono ?_
          rintro e w2 ⟨rfl, h1, h2, _⟩
          have HQ2 : Hid (Lib.IsBuilderF 82 5 B b (bs ++ (rdigs al xs (8 * j) (i + 1)).map (Value.int .u8)) w2 ∧ Below B w0 w2) := by
            rw [HLi.out, List.map_append, ← List.append_assoc]
            exact ⟨.inr h1, HQ.out.2.trans h2⟩
          clear h1 h2 HQ
          go_wp2_with fail
          go_roundg (j + 1 - (i + 1))
          case rel => exact ⟨i + 1, by omega, rfl, by first | go_num | (congr 1; omega), HQ2⟩
          case measure => have := HGK.out; omega
        · obtain rfl : i = j + 1 := by omega
          go_wp2_with fail
          go_end0
          exact ⟨rfl, HQ.out⟩


end Go.Proofs.YtnnonidiogoffaaGreatDoor
