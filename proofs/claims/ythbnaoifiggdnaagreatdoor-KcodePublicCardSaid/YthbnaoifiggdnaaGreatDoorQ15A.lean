/- The program's search for the first number that is too great. The program's First; cuts of three indexes. -/
import Derived.Test.YthbnaoifiggdnaaGreatDoorB5
import Derived.Test.YthbnaoifiggdnaaGreatDoorImp5A
import Derived.IntWalk
namespace Go.Proofs.YthbnaoifiggdnaaGreatDoor
open Go.RowKit
set_option linter.unusedVariables false
set_option maxRecDepth 100000

theorem big_any (x : Int) (w : World) : Calls Tryz.prog 65 #[.int .u32 x] w fun e w' => e = .returned (.bool (decide (3328 < x))) ∧ w' = w := by
  by_cases h : 3328 < x
  all_goals
    go_enter Tryz.func65, Tryz.ntmps65
    go_wp2_with fail
    go_ret
    exact ⟨by simp [h], rfl⟩
set_option maxHeartbeats 4000000 in
theorem kindex_any (A : Option Addr) (n c : Nat) (ls : List Int) (w : World) (hS : SlK .u32 w A n c ls) (hr : ∀ i, 0 ≤ ls.getD i 0 ∧ ls.getD i 0 < 4294967296) (hn : n ≤ 10000) :
    Calls Tryz.prog 64 #[.slice A n c, .func (.func 65) #[] #[]] w fun e w' =>
      e = .returned (.int .i64 (fstI (fun i => ls.getD i 0) n)) ∧ Past w w' := by
  have HC := fun (i : Nat) w => Lib.hid (big_any (ls.getD i 0) w)
  have HS := Lib.hid hS
  have HR := Lib.hid hr
  have eg : ∀ args w, (callFunc 65 args).run Tryz.prog w = .ok (.enter 65 args) w := enters_of Tryz.func65 (by kernel_rfl) rfl
  clear hS hr
  go_enter Tryz.func64, Tryz.ntmps64
  go_wp2
  go_loopg [5, 8] n (fun k _ s8 wr => ∃ i : Nat, i ≤ n ∧ k = n - i ∧ s8 = .int .i64 (i : Int) ∧ Hid (∀ j, j < i → ls.getD j 0 ≤ 3328) ∧ Hid (∃ m, wr = w.drewN m))
  case atStart => exact ⟨0, Nat.zero_le _, rfl, rfl, Lib.hid (fun j hj => absurd hj (Nat.not_lt_zero _)), ⟨0, rfl⟩⟩
  case round =>
    obtain ⟨i, hin, hgk, rfl, HW, m, rfl⟩ := hrel
    have HGK := Lib.hid hgk
    clear hgk
    by_cases hlt : i < n
    · obtain ⟨b, o, rfl, hc⟩ := HS.out.cells (by omega)
      have hx : (w.drewN m).cell? ⟨b, o + i, none⟩ = _ := hc i hlt
      have hi0 : (0 : Int) ≤ (i : Int) := by omega
      have hin1 : (i : Int) < (n : Int) := by omega
      have HI := HC i (w.drewN m)
      have HT : Hid (3328 < ls.getD i 0 → fstI (fun i => ls.getD i 0) n = (i : Int)) := Lib.hid (fun h => fstI_at _ n i hlt h HW.out)
      have HT2 : Hid (ls.getD i 0 ≤ 3328 → ∀ j, j < i + 1 → ls.getD j 0 ≤ 3328) := Lib.hid (fun h j hj => by
        by_cases e1 : j = i
        · subst e1; exact h
        · exact HW.out j (by omega))
      have HLT := Lib.hid hlt
      clear hc HC
      generalize ls.getD i 0 = x at *
      by_cases hq : 3328 < x
      · have hqb : decide (3328 < x) = true := by simpa using hq
        rw [hqb] at HI
        have HT3 := Lib.hid (HT.out hq)
        clear hq hqb HT HT2 hlt
        go_wp2_with fail
        refine HI.out.mono ?_
        rintro e w' ⟨rfl, hw⟩
        rw [hw]
        clear hw
        go_wp2_with fail
        go_ret
        exact ⟨congrArg (fun x => Ending.returned (.int .i64 x)) HT3.out.symm, Past.drewN (Below.refl _ w) m⟩
      · have hqb : decide (3328 < x) = false := by simpa using hq
        rw [hqb] at HI
        have HT3 := Lib.hid (HT2.out (by omega))
        clear hq hqb HT HT2 hlt
        go_wp2_with fail
        refine HI.out.mono ?_
        rintro e w' ⟨rfl, hw⟩
        rw [hw]
        clear hw
        go_wp2_with fail
        go_roundg (n - (i + 1))
        case measure => have := HGK.out; have := HLT.out; omega
        case rel => exact ⟨i + 1, HLT.out, rfl, by go_num, HT3, ⟨_, rfl⟩⟩
    · obtain rfl : i = n := by omega
      have HT3 := Lib.hid (fstI_low (fun i => ls.getD i 0) i HW.out)
      go_wp2_with fail
      go_ret
      exact ⟨congrArg (fun x => Ending.returned (.int .i64 x)) HT3.out.symm, Past.drewN (Below.refl _ w) m⟩
set_option maxHeartbeats 4000000 in
theorem firstNumber_any (A : Option Addr) (k c : Nat) (xs : List Int) (w : World) (hS : Sl w A (3 * k) c xs) (hn : 3 * k ≤ 10000) :
    Calls Tryz.prog 46 #[.slice A (3 * k) c] w fun e w' => e = .returned (.int .i64 (fstI (n12 xs) (2 * k))) ∧ Past w w' := by
  have hl := hS.len
  have HU := Lib.hid (punpack_any 12 ((2 * k : Nat) : Int) A (3 * k) c xs w hS hn)
  rw [unpack12 xs k (by omega), if_pos hl] at HU
  obtain ⟨n, hn3⟩ : ∃ n, 3 * k = n := ⟨_, rfl⟩
  obtain ⟨m, hm⟩ : ∃ m, 2 * k = m := ⟨_, rfl⟩
  obtain ⟨z, hz⟩ : ∃ z, (n : Int) * 8 = z := ⟨_, rfl⟩
  have z0 : 0 ≤ z := by omega
  have hw1 : IntKind.i64.wrap z = z := by rw [IntKind.wrap_i64]; omega
  have hw2 : wrap64 z = z := IntWalk.wrap64_in _ (by omega)
  have hd : z / 12 = (m : Int) := by omega
  have hd2 : z.tdiv 12 = (m : Int) := by rw [Int.tdiv_eq_ediv_of_nonneg z0]; omega
  have hw3 : IntKind.i64.wrap (m : Int) = (m : Int) := by rw [IntKind.wrap_i64]; omega
  have hw4 : wrap64 (m : Int) = (m : Int) := IntWalk.wrap64_in _ (by omega)
  have HF := Lib.hid (fstI_ext (f := fun i => (nums 12 xs m).getD i 0) (g := n12 xs) (N := m) fun i hi => nums12 xs m i hi)
  have HI := fun A2 c2 w1 (h2 : SlK .u32 w1 A2 m c2 (nums 12 xs m)) => Lib.hid (kindex_any A2 m c2 (nums 12 xs m) w1 h2 (fun i => by
    by_cases h : i < m
    · rw [nums12 _ _ _ h]
      have := n12_rng xs i
      omega
    · rw [List.getD_eq_getElem?_getD, List.getElem?_eq_none (by rw [nums_len]; omega)]
      exact ⟨Int.le_refl _, by decide⟩) (by omega))
  have HI2 := Lib.hid HI
  rw [hn3, hm] at HU
  rw [hn3, hm]
  clear hS hn hl hn3 hm HI
  go_enter Tryz.func46, Tryz.ntmps46
  go_wp2_with fail
  refine HU.out.mono ?_
  intro e w1 h
  obtain ⟨A2, n2, c2, he, hS2, hp⟩ := h
  have hl2 := hS2.len
  rw [nums_len] at hl2
  rw [← hl2] at he hS2
  subst he
  have H3 := HI2.out _ _ _ hS2
  have HP := Lib.hid hp
  clear hS2 hp HI2 HU hl2
  go_wp2_with fail
  refine H3.out.mono ?_
  rintro e w2 ⟨rfl, hp2⟩
  have HP2 := Lib.hid (HP.out.trans' hp2)
  clear hp2
  go_wp2_with fail
  go_ret
  exact ⟨congrArg (fun x => Ending.returned (.int .i64 x)) HF.out, HP2.out⟩
end Go.Proofs.YthbnaoifiggdnaaGreatDoor

namespace Go.Proofs.YthbnaoifiggdnaaGreatDoor
open Go.RowKit
set_option linter.unusedVariables false
set_option maxRecDepth 100000

theorem cut3 (A : Option Addr) (n c L H m : Nat) (h1 : L + m = H) (h2 : H ≤ c) (w : World) :
    (Instr.slice 25 (.slice A n c) (some (.int .i64 (L : Int))) (some (.int .i64 (H : Int))) (some (.int .i64 (H : Int)))).run Tryz.prog w = .ok (.slice (if m = 0 then A else A.map (·.add L)) m m) w := by
  rw [run_slice_lhm w 25 A n c Tryz.underlying25 .i64 .i64 .i64 (L : Int) (H : Int) (H : Int) (by omega) (by omega) (Int.le_refl _) (by omega)]
  have hs : (sizeOf (Tryz.prog.elem 25)).run Tryz.prog w = .ok 1 w := by kernel_rfl
  rw [hs]
  simp only [Result.andThen, sliced, Int.toNat_natCast, Nat.mul_one]
  obtain rfl : H = L + m := h1.symm
  rw [Nat.add_sub_cancel_left]
  by_cases h : m = 0
  · rw [if_pos h, if_pos (by omega)]
  · rw [if_neg h, if_neg (by omega)]
theorem cutAt3 (A : Option Addr) (n c L H m : Nat) (h1 : L + m = H) (h2 : H ≤ c) (w : World) :
    (Instr.sliceAt 25 (.slice A n c) (some (.int .i64 (L : Int))) (some (.int .i64 (H : Int))) (some (.int .i64 (H : Int)))).run Tryz.prog w = .ok (.slice (if m = 0 then A else A.map (·.add L)) m m) w := by
  rw [run_sliceAt_slice w 25 _ _ _ _ Tryz.underlying25]
  exact cut3 A n c L H m h1 h2 w
theorem first_step {xs : List Int} {k a m : Nat} (hl : xs.length = 3 * k) (ham : a + m ≤ k) (h : ∀ j, j < 2 * a → n12 xs j ≤ 3328) :
    (0 ≤ fstI (n12 (seg xs (3 * a) (3 * m))) (2 * m) → firstX xs = ((3 * a : Nat) : Int) + fstI (n12 (seg xs (3 * a) (3 * m))) (2 * m) * 12 / 8) ∧
      (¬ 0 ≤ fstI (n12 (seg xs (3 * a) (3 * m))) (2 * m) → ∀ j, j < 2 * (a + m) → n12 xs j ≤ 3328) := by
  have he := fun i (hi : i < 2 * m) => n12_seg xs a m i hi
  rcases fstI_is (n12 (seg xs (3 * a) (3 * m))) (2 * m) with ⟨h1, h2⟩ | ⟨i, h1, h2, h3, h4⟩
  · refine ⟨fun h0 => by omega, fun _ j hj => ?_⟩
    by_cases hja : j < 2 * a
    · exact h j hja
    · have := h2 (j - 2 * a) (by omega)
      rw [he _ (by omega), show 2 * a + (j - 2 * a) = j by omega] at this
      exact this
  · refine ⟨fun _ => ?_, fun h0 => by omega⟩
    rw [h2]
    unfold firstX
    rw [if_pos (by omega), hl, fstI_at (n12 xs) (3 * k / 3 * 2) (2 * a + i) (by omega) (by rw [← he i h1]; exact h3) (fun j hj => by
      by_cases hja : j < 2 * a
      · exact h j hja
      · have := h4 (j - 2 * a) (by omega)
        rw [he _ (by omega), show 2 * a + (j - 2 * a) = j by omega] at this
        exact this)]
    unfold offI
    rw [if_neg (by omega)]
    omega
set_option maxHeartbeats 1000000 in
theorem pfirst_any (A : Option Addr) (n c : Nat) (xs : List Int) (w : World) (hS : Sl w A n c xs) (hn : n ≤ 10000) :
    Calls Tryz.prog 27 #[.slice A n c] w fun e w' => e = .returned (.int .i64 (firstX xs)) ∧ Past w w' := by
  have hl := hS.len
  have hcap := hS.cap
  have hn0 : (0 : Int) ≤ (n : Int) := by omega
  by_cases h3 : n % 3 = 0
  · obtain ⟨k, hk⟩ : ∃ k, n = 3 * k := ⟨n / 3, by omega⟩
    have hr : (n : Int) % 3 = 0 := by omega
    have hr2 : (n : Int).tmod 3 = 0 := by rw [Int.tmod_eq_emod_of_nonneg (by omega)]; omega
    have HS := Lib.hid hS
    have HK := Lib.hid hk
    have HL := Lib.hid hl
    have HN := Lib.hid hn
    have HC := Lib.hid hcap
    have H3 := Lib.hid h3
    clear hS hl hk hn hcap h3
    go_enter Tryz.func27, Tryz.ntmps27
    go_wp2_with fail
    go_loopg [3] (k + 128) (fun q s3 wx => ∃ a x : Nat, a ≤ k + 127 ∧ q = k + 128 - a ∧ s3 = .int .i64 (x : Int) ∧ x = 3 * a ∧ Hid (∀ j, j < 2 * a → j < 2 * k → n12 xs j ≤ 3328) ∧ Hid (Past w wx))
    case atStart => exact ⟨0, 0, Nat.zero_le _, rfl, rfl, rfl, Lib.hid (fun j hj => absurd hj (Nat.not_lt_zero _)), Lib.hid (Below.refl _ _)⟩
    case round =>
      obtain ⟨a, x, ha, hq, rfl, hx, HA, HW⟩ := hrel
      have HGQ := Lib.hid hq
      have HX := Lib.hid hx
      have HAK := Lib.hid ha
      clear hq
      by_cases hlt : x < n
      · have hk := HK.out
        have hn := HN.out
        have hcap := HC.out
        obtain ⟨m, hm⟩ : ∃ m, min 128 (k - a) = m := ⟨_, rfl⟩
        have hm0 : m ≤ 128 ∧ a + m ≤ k ∧ 0 < m ∧ (m = 128 ∨ a + m = k) := by omega
        obtain ⟨y, hy⟩ : ∃ y, x + 3 * m = y := ⟨_, rfl⟩
        have hxx : (x : Int) < (n : Int) := by omega
        have hx0 : (0 : Int) ≤ (x : Int) := by omega
        obtain ⟨z, hz⟩ : ∃ z, x + 384 = z := ⟨_, rfl⟩
        have hzI : (x : Int) + 384 = (z : Int) := by omega
        have hw1 : IntKind.i64.wrap ((x : Int) + 384) = (z : Int) := by rw [IntKind.wrap_i64]; omega
        have hw2 : wrap64 (z : Int) = (z : Int) := IntWalk.wrap64_in _ (by omega)
        have hs := HL.out
        have HST := Lib.hid (first_step (xs := xs) (k := k) (a := a) (m := m) (by omega) (by omega) (fun j hj => HA.out j hj (by omega)))
        have hS2 := (HS.out.past HW.out).cut (i := 3 * a) (m := 3 * m) (by omega)
        rw [← hx] at hS2
        have HFN := Lib.hid (firstNumber_any _ m _ _ wr hS2 (by omega))
        have hsl := cutAt3 A n c x y (3 * m) (by omega) (by omega)
        change Hid (Calls _ _ _ _ fun e w' => e = Ending.returned (.int .i64 (fstI (n12 (seg xs x (3 * m))) (2 * m))) ∧ _) at HFN
        rw [hx] at HFN
        obtain ⟨r, hr3⟩ : ∃ r, fstI (n12 (seg xs (3 * a) (3 * m))) (2 * m) = r := ⟨_, rfl⟩
        have HRR : Hid (-1 ≤ r ∧ r < ((2 * m : Nat) : Int)) := Lib.hid (by
          have := fstI_rng (n12 (seg xs (3 * a) (3 * m))) (2 * m)
          rw [hr3] at this
          omega)
        rw [hr3] at HFN HST
        rw [← hx] at HFN HST
        obtain ⟨m3, hm3⟩ : ∃ m3, 3 * m = m3 := ⟨_, rfl⟩
        rw [hm3] at HFN hsl
        have HM3 := Lib.hid hm3
        have HM0 := Lib.hid hm0
        have HLT := Lib.hid hlt
        have HZ := Lib.hid hz
        have hsl2 := cut3 A n c x y m3 (by omega) (by omega)
        obtain ⟨B, hB⟩ : ∃ B, (if m3 = 0 then A else A.map (·.add x)) = B := ⟨_, rfl⟩
        rw [hB] at HFN hsl hsl2
        clear hB
        have hmn : min (z : Int) (n : Int) = (y : Int) := by omega
        have hxy : (x : Int) ≤ (y : Int) := by omega
        have hync : (y : Int) ≤ (c : Int) := by omega
        clear hS2 hm hm0 hy hr3 ha hx hs hlt hk hn hcap hzI hz hm3
        go_wp2_with fail
        refine HFN.out.mono ?_
        rintro e w1 ⟨rfl, hp⟩
        have HP := Lib.hid (HW.out.trans' hp)
        clear hp hsl hsl2 HFN
        by_cases hr0 : 0 ≤ r
        · have HR := Lib.hid (HST.out.1 hr0)
          have hrb := HRR.out
          have hm0 := HM0.out
          have hlt := HLT.out
          have hn := HN.out
          have HTT : Hid (wrap64 ((x : Int) + wrap64 ((wrap64 (r * 12)).tdiv 8)) = firstX xs) := Lib.hid (by
            have e1 : wrap64 (r * 12) = r * 12 := IntWalk.wrap64_in _ (by omega)
            have e2 : (r * 12).tdiv 8 = r * 12 / 8 := Int.tdiv_eq_ediv_of_nonneg (by omega)
            have e3 : wrap64 (r * 12 / 8) = r * 12 / 8 := IntWalk.wrap64_in _ (by omega)
            rw [e1, e2, e3, HR.out]
            exact IntWalk.wrap64_in _ (by omega))
          clear hrb hm0 hlt hn
          go_wp2_with fail
          go_ret
          exact ⟨congrArg (fun x => Ending.returned (.int .i64 x)) HTT.out, HP.out⟩
        · have HR := Lib.hid (HST.out.2 (by omega))
          have hr0' : ¬ 0 ≤ r := hr0
          go_wp2_with fail
          go_roundg (k + 128 - (a + 128))
          case rel =>
            refine ⟨a + 128, z, ?_, rfl, by go_num, ?_, Lib.hid fun j hj hj2 => HR.out j ?_, HP⟩
            · have := HK.out; have := HX.out; have := HLT.out; omega
            · have := HZ.out; have := HX.out; omega
            · have := HM0.out; omega
          case measure => have := HGQ.out; have := HAK.out; omega
      · have hnn : ¬ (x : Int) < (n : Int) := by omega
        have HR : Hid (firstX xs = -1) := Lib.hid (firstX_low fun i hi => HA.out i (by have := HK.out; have := HL.out; have := HX.out; omega) (by have := HK.out; have := HL.out; omega))
        clear hlt ha hx
        go_wp2_with fail
        go_ret
        exact ⟨congrArg (fun x => Ending.returned (.int .i64 x)) HR.out.symm, HW.out⟩
  · have HR : Hid (firstX xs = -1) := Lib.hid (by unfold firstX; rw [hl, if_neg h3])
    have hr : ¬ (n : Int) % 3 = 0 := by omega
    have hr2 : ¬ (n : Int).tmod 3 = 0 := by rw [Int.tmod_eq_emod_of_nonneg (by omega)]; omega
    clear hS hn hcap hl h3
    go_enter Tryz.func27, Tryz.ntmps27
    go_wp2_with fail
    go_ret
    exact ⟨congrArg (fun x => Ending.returned (.int .i64 x)) HR.out.symm, Below.refl _ _⟩
end Go.Proofs.YthbnaoifiggdnaaGreatDoor
