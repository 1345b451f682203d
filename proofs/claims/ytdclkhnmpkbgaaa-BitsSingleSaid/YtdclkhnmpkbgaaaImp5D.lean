/- The program's Unpack. -/
import Derived.Test.YtdclkhnmpkbgaaaImp5C
namespace Go.Proofs.Ytdclkhnmpkbgaaa
open Go.RowKit

theorem make32 (N : Nat) (hN : N ≤ 1100000) (w : World) : (Instr.makeSlice 22 (.int .i64 (N : Int)) (.int .i64 (N : Int))).run Try.prog w = .ok (.slice (some ⟨w.heap.size, 0, none⟩) N N) (w.alloc (.cells (madeCells #[.int .u32 0] N) 35)) := by
  obtain ⟨i0, hi, hz0, hz1, hz2⟩ := info_parts info32
  have h := run_make (P := Try.prog) w 22 35 i0 (.int .u32 0) Try.underlying22 hi hz0 .i64 .i64 (N : Int) (N : Int) (by omega) (Int.le_refl _) (by rw [hz2]; omega) (by omega)
  rw [hz1, Nat.mul_one, Int.toNat_natCast] at h
  exact h

/-- What the loops keep: the row of numbers, of which the first i are written. -/
def UG (D : Nat) (xs : List Int) (g N i : Nat) (w wx : World) : Prop :=
  Past w wx ∧ ∃ cs : Array Value, Row wx g 35 cs ∧ cs.size = N ∧ ∀ j, j < i → cs[j]? = some (.int .u32 ((nums D xs N).getD j 0))
theorem UG.start (D : Nat) (xs : List Int) (N : Nat) (w : World) : UG D xs w.heap.size N 0 w (w.alloc (.cells (madeCells #[.int .u32 0] N) 35)) :=
  ⟨(Below.refl _ _).alloc (Nat.le_refl _) _, _, Row.new _ _ _, size_madeCells _ _, fun _ hj => absurd hj (Nat.not_lt_zero _)⟩
theorem UG.done {D : Nat} {xs : List Int} {g N : Nat} {w wx : World} (h : UG D xs g N N w wx) (hN : N ≤ 1100000) : NOpt (some (nums D xs N)) w (.returned (.tuple #[.slice (some ⟨g, 0, none⟩) N N, .bool true])) wx := by
  obtain ⟨hp, cs, hrow, _, hc⟩ := h
  refine ⟨_, N, N, rfl, ⟨nums_len D xs N, Nat.le_refl _, by unfold maxLen; omega, fun _ => ⟨g, 0, rfl, fun j hj => ?_⟩, fun e => by cases e⟩, hp⟩
  rw [Nat.zero_add, hrow.cell]
  exact hc j hj

theorem UG.old {D : Nat} {xs : List Int} {g N i : Nat} {w wx : World} (h : UG D xs g N i w wx) (hi : i < N) : (∃ old, wx.cell? ⟨g, i, none⟩ = some old) ∧ wx.frozen? ⟨g, i, none⟩ = false := by
  obtain ⟨_, cs, hrow, hs, _⟩ := h
  exact ⟨⟨cs[i]'(by omega), by rw [hrow.cell, Array.getElem?_eq_getElem (by omega)]⟩, hrow.fr i⟩
theorem UG.set {D : Nat} {xs : List Int} {g N i : Nat} {w wx : World} (h : UG D xs g N i w wx) (hi : i < N) (hg : w.heap.size ≤ g) : UG D xs g N (i + 1) w (wx.setCell ⟨g, i, none⟩ (.int .u32 (loN (lbit xs) (D * i) D))) := by
  obtain ⟨hp, cs, hrow, hs, hc⟩ := h
  refine ⟨past_of_only hp (only_setCell (only_of_past (Below.refl _ _) (some g)) (.inl rfl) _) hp.size hg, _, hrow.set i _, by simp [hs], fun j hj => ?_⟩
  by_cases he : j = i
  · subst he
    rw [Array.getElem?_setIfInBounds_self_of_lt (by omega), nums_at D xs N j hi]
  · rw [Array.getElem?_setIfInBounds_ne (by omega)]
    exact hc j (by omega)

theorem runpack_none_of {d n : Int} {xs : List Int} (h : fits d n = false ∨ (xs.length : Int) ≠ sizeI d n) : runpack d n xs = none := by
  unfold runpack
  rw [if_pos]
  rcases h with h | h
  · simp [fits] at h
    omega
  · exact .inr (.inr (.inr (.inr (.inl h))))

theorem runpack_some_of {D N r : Nat} {xs : List Int} (hf : fits (D : Int) (N : Int) = true) (hz : (xs.length : Int) = sizeI D N) (he : D * N + r = 8 * xs.length) (h : ∀ t, t < r → lbit xs (D * N + t) = 0) :
    runpack (D : Int) (N : Int) xs = some (nums D xs N) := by
  have := fits_true hf
  unfold runpack
  rw [Int.toNat_natCast, Int.toNat_natCast, if_neg]
  rintro (h1 | h1 | h1 | h1 | h1 | ⟨p, h1, h2, h3⟩)
  · omega
  · omega
  · omega
  · omega
  · exact h1 hz
  · refine h3 ?_
    have := h (p - D * N) (by omega)
    rwa [show D * N + (p - D * N) = p by omega] at this
theorem runpack_none_bits {D N r : Nat} {xs : List Int} (he : D * N + r = 8 * xs.length) (h : loN (lbit xs) (D * N) r ≠ 0) : runpack (D : Int) (N : Int) xs = none := by
  unfold runpack
  rw [Int.toNat_natCast, Int.toNat_natCast, if_pos]
  refine .inr (.inr (.inr (.inr (.inr ?_))))
  refine Classical.byContradiction fun hn => h (loN_zero _ _ fun t ht => ?_)
  exact Classical.byContradiction fun hne => hn ⟨D * N + t, by omega, by omega, hne⟩

set_option maxHeartbeats 4000000 in
theorem punpack_any (d n : Int) (A : Option Addr) (L c : Nat) (xs : List Int) (w : World) (hS : Sl w A L c xs) (hL : L ≤ 10000) :
    Calls Try.prog 12 #[.int .i64 d, .int .i64 n, .slice A L c] w (NOpt (runpack d n xs) w) := by
  have HN := Lib.hid (fun h => runpack_none_of (d := d) (n := n) (xs := xs) h)
  have HP := fun w => Lib.hid (packable_any d n w)
  have HSZ := fun w => Lib.hid (psize_any d n w)
  have hlen := hS.len
  cases hf : fits d n with
  | false =>
    have HNo : Hid (runpack d n xs = none) := HN.out (.inl hf)
    simp only [hf] at HP
    clear hf hS HN
    go_enter Try.func12, Try.ntmps12
    go_wp2_with fail
    refine (HP _).out.mono ?_
    rintro e w' ⟨rfl, rfl⟩
    go_wp2_with fail
    go_ret2
    rw [HNo.out]
    exact ⟨rfl, Below.refl _ _⟩
  | true =>
    by_cases hz : (L : Int) = sizeI d n
    · have hff := fits_true hf
      obtain ⟨D, rfl⟩ : ∃ D : Nat, d = (D : Int) := ⟨d.toNat, by omega⟩
      obtain ⟨N, rfl⟩ : ∃ N : Nat, n = (N : Int) := ⟨n.toNat, by omega⟩
      have hsz := sizeI_nat (D := D) (by omega) (by omega) N (by omega)
      have HLN : Hid (L = nbytes D N) := by
        show _ = _
        omega
      have hD1 : 1 ≤ D := by omega
      have hD2 : D ≤ 32 := by omega
      have hN1 : N ≤ 1048576 := by omega
      rw [← hz] at HSZ
      simp only [hf] at HP
      have HS := Lib.hid hS
      have HXL := Lib.hid hlen
      have HFZ := Lib.hid (And.intro hf hz)
      have hmk := make32 N (by omega) w
      obtain ⟨g, hg⟩ : ∃ g, g = w.heap.size := ⟨_, rfl⟩
      have HO0 := Lib.hid (UG.start D xs N w)
      rw [← hg] at hmk HO0
      have HLB : Hid (L = (D * N + 7) / 8) := HLN.out
      have HG : Hid (w.heap.size ≤ g) := Nat.le_of_eq hg.symm
      clear hf hz hS HN hsz hff hlen hg HLN
      go_enter Try.func12, Try.ntmps12
      go_wp2_with fail
      refine (HP _).out.mono ?_
      rintro e w' ⟨rfl, rfl⟩
      go_wp2_with fail
      refine (HSZ _).out.mono ?_
      rintro e w' ⟨rfl, rfl⟩
      go_wp2_with fail
      clear hmk HSZ HP
      go_loopg [9, 10, 11, 12, 28] N (fun k s9 s10 s11 _ s28 wx => ∃ i r x : Nat, i ≤ N ∧ k = N - i ∧ r ≤ 7 ∧ s9 = .int .u64 (loN (lbit xs) (D * i) r) ∧ s10 = .int .i64 (r : Int) ∧ s11 = .int .i64 (x : Int) ∧ s28 = .int .i64 (i : Int) ∧ Hid (D * i + r = 8 * x) ∧ Hid (UG D xs g N i w wx))
      case atStart => exact ⟨0, 0, 0, Nat.zero_le _, rfl, by omega, rfl, rfl, rfl, rfl, rfl, HO0⟩
      case round =>
        clear HO0
        obtain ⟨i, r, x, hin, hgk, hr7, rfl, rfl, rfl, rfl, HQ, HO⟩ := hrel
        have HGK := Lib.hid hgk
        clear hgk
        by_cases hlt : i < N
        · have hi0 : (0 : Int) ≤ (i : Int) := by omega
          have hin1 : (i : Int) < (N : Int) := by omega
          go_wp2_with fail
          go_loopg [9, 10, 11] (D + 8 - r) (fun k s9 s10 s11 wx => ∃ h y : Nat, h ≤ D + 7 ∧ k = D + 8 - h ∧ s9 = .int .u64 (loN (lbit xs) (D * i) h) ∧ s10 = .int .i64 (h : Int) ∧ s11 = .int .i64 (y : Int) ∧ wx = wr ∧ Hid (D * i + h = 8 * y))
          case atStart => exact ⟨r, x, by omega, by omega, rfl, rfl, rfl, rfl, HQ⟩
          case round =>
            clear HQ
            obtain ⟨h, y, hh7, hgk, rfl, rfl, rfl, rfl, HQ⟩ := hrel
            have HGK2 := Lib.hid hgk
            clear hgk
            by_cases hlt2 : h < D
            · have hy : y < L := by
                have h1 := Nat.mul_le_mul_left D (show i + 1 ≤ N by omega)
                rw [Nat.mul_succ] at h1
                have h2 := HQ.out
                have h3 := HLB.out
                omega
              obtain ⟨b, o, rfl, hc⟩ := (HS.out.past HO.out.1).bytes (by omega)
              have hx := hc y hy
              clear hc
              have hy0 : (0 : Int) ≤ (y : Int) := by omega
              have hyL : (y : Int) < (L : Int) := by omega
              have hh1 : (h : Int) < (D : Int) := by omega
              obtain ⟨hx0, hx1⟩ := getD_rng8 HS.out.rng y
              have hb := loN_rng (lbit_rng xs) h (D * i)
              have HJ := Lib.hid (join_byte HS.out.rng HQ.out)
              obtain ⟨hs1, _, _⟩ := shl_small (r := h) (s := 8) hx0 hx1 (by omega)
              have ho := or_join (r := h) (s := 8) hb.1 hb.2 hx0 hx1 (by omega)
              rw [HJ.out] at ho
              replace ho := Lib.hid ho
              have hb0 := hb.1
              have hbm : loN (lbit xs) (D * i) h ≤ 4294967296 := by
                have h1 := pow_le h 32 (by omega)
                have e : (2 : Int) ^ 32 = 4294967296 := by decide
                omega
              have HQ2 : Hid (D * i + (h + 8) = 8 * (y + 1)) := by
                have := HQ.out
                show _ = _
                omega
              clear hb HJ hs1 HQ
              generalize loN (lbit xs) (D * i) h = B at *
              generalize xs.getD y 0 = X at *
              go_wp2_with fail
              go_roundg (D + 8 - (h + 8))
              case rel => exact ⟨h + 8, y + 1, by omega, rfl, by rw [← ho.out], by go_num, by go_num, rfl, HQ2⟩
              case measure => have := HGK2.out; omega
            · have hh1 : (D : Int) ≤ (h : Int) := by omega
              obtain ⟨⟨old, hold⟩, hfr⟩ := HO.out.old hlt
              have HO2 := Lib.hid (HO.out.set hlt HG.out)
              obtain ⟨hl1, hl2⟩ := low_bits (lbit xs) (lbit_rng xs) (D * i) D h (by omega)
              have hb0 := (loN_rng (lbit_rng xs) h (D * i)).1
              have hb1 : loN (lbit xs) (D * i) h < 2 ^ 63 := Int.lt_of_lt_of_le (loN_rng (lbit_rng xs) h (D * i)).2 (pow_le h 63 (by omega))
              have hm := mask_low hb0 hb1 hD2
              rw [hl1] at hm
              have hval : Hid (bits .and .u64 (loN (lbit xs) (D * i) h) (IntKind.u64.wrap (IntKind.u64.wrap (2 ^ D) - 1)) % 4294967296 = loN (lbit xs) (D * i) D) := by
                have hp0 : (0 : Int) < 2 ^ D := Int.pow_pos (by decide)
                have hp1 := pow_le D 32 hD2
                have e : (2 : Int) ^ 32 = 4294967296 := by decide
                have hr := loN_rng (lbit_rng xs) D (D * i)
                show _ = _
                have hw1 : IntKind.u64.wrap (2 ^ D) = 2 ^ D := wraps_u64 _ (by omega) (by omega)
                have hw2 : IntKind.u64.wrap (2 ^ D - 1) = 2 ^ D - 1 := wraps_u64 _ (by omega) (by omega)
                rw [hw1, hw2, hm, Int.emod_eq_of_lt hr.1 (by omega)]
              have HQ2 : Hid (D * (i + 1) + (h - D) = 8 * y) := by
                have := HQ.out
                show _ = _
                rw [Nat.mul_succ]
                omega
              have HL2 := Lib.hid hl2
              clear hm hl1 hl2
              go_wp2_with fail
              rw [hval.out]
              go_roundg (N - (i + 1))
              case rel => exact ⟨i + 1, h - D, y, by omega, rfl, by omega, by rw [HL2.out]; rfl, congrArg (Value.int .i64) (by omega), rfl, by go_num, HQ2, HO2⟩
              case measure => have := HGK.out; omega
        · obtain rfl : i = N := by omega
          have HE : Hid (D * i + r = 8 * xs.length) := by
            have h1 := HQ.out
            have h2 := HLB.out
            have h3 := HXL.out
            show _ = _
            omega
          have hb0 := (loN_rng (lbit_rng xs) r (D * i)).1
          by_cases hB : loN (lbit xs) (D * i) r = 0
          · have HSome : Hid (runpack (D : Int) (i : Int) xs = some (nums D xs i)) := runpack_some_of HFZ.out.1 (by rw [HXL.out]; exact HFZ.out.2) HE.out (loN_eq_zero (lbit_rng xs) hB)
            generalize loN (lbit xs) (D * i) r = B at *
            subst hB
            go_wp2_with fail
            go_ret2
            rw [HSome.out]
            exact HO.out.done (by omega)
          · have HNo : Hid (runpack (D : Int) (i : Int) xs = none) := runpack_none_bits HE.out hB
            generalize loN (lbit xs) (D * i) r = B at *
            have hBb : (B != 0) = true := by simpa using hB
            clear hB
            go_wp2_with fail
            go_ret2
            rw [HNo.out]
            exact ⟨rfl, HO.out.1⟩
    · have HNo : Hid (runpack d n xs = none) := HN.out (.inr (by rw [hlen]; exact hz))
      simp only [hf] at HP
      generalize sizeI d n = z at *
      have hzb : ((L : Int) != z) = true := by simpa using hz
      clear hf hS HN hz
      go_enter Try.func12, Try.ntmps12
      go_wp2_with fail
      refine (HP _).out.mono ?_
      rintro e w' ⟨rfl, rfl⟩
      go_wp2_with fail
      refine (HSZ _).out.mono ?_
      rintro e w' ⟨rfl, rfl⟩
      go_wp2_with fail
      go_ret2
      rw [HNo.out]
      exact ⟨rfl, Below.refl _ _⟩

end Go.Proofs.Ytdclkhnmpkbgaaa
