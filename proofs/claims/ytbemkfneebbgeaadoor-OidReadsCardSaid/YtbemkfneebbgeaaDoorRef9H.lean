/- The reference's Read of the contents of an identifier. -/
import Derived.Test.YtbemkfneebbgeaaDoorRef9G
namespace Go.Proofs.YtbemkfneebbgeaaDoor
open Go.RowKit

/-- The numbers with one more, which is m, or the two that the first one stands for. -/
def oneR (l : List Int) (m : Int) : List Int := if 0 < l.length then l ++ [m % 4294967296] else if m < 40 then [0, m] else if m < 80 then [1, m - 40] else [2, m - 80]
/-- What is read before place i: the number under way, and the numbers so far. -/
def rS (xs : List Int) : Nat → Option (Int × List Int)
  | 0 => some (0, [])
  | i + 1 => match rS xs i with
    | none => none
    | some (n, l) => if 4294967375 < n * 128 + xs.getD i 0 % 128 then none else if 128 ≤ xs.getD i 0 then some (n * 128 + xs.getD i 0 % 128, l) else some (0, oneR l (n * 128 + xs.getD i 0 % 128))
/-- What Read finds. -/
def readL (xs : List Int) : Option (List Int) :=
  match rS xs xs.length with
  | none => none
  | some (_, l) => if okL l = true ∧ contL l = xs then some l else none
theorem rS_none (xs : List Int) (i : Nat) (h : rS xs i = none) : ∀ j, rS xs (i + j) = none
  | 0 => h
  | j + 1 => by
    show rS xs (i + j + 1) = none
    unfold rS
    rw [rS_none xs i h j]
theorem rS_step (xs : List Int) (i : Nat) (n : Int) (l : List Int) (h : rS xs i = some (n, l)) : rS xs (i + 1) = if 4294967375 < n * 128 + xs.getD i 0 % 128 then none else if 128 ≤ xs.getD i 0 then some (n * 128 + xs.getD i 0 % 128, l) else some (0, oneR l (n * 128 + xs.getD i 0 % 128)) := by
  rw [rS, h]
theorem oneR_rng (l : List Int) (m : Int) (h0 : 0 ≤ m) (h1 : m ≤ 4294967375) (hl : ∀ x ∈ l, 0 ≤ x ∧ x < 4294967296) : ∀ x ∈ oneR l m, 0 ≤ x ∧ x < 4294967296 := by
  unfold oneR
  intro x hx
  split at hx
  · rcases List.mem_append.1 hx with hx | hx
    · exact hl x hx
    · obtain rfl : x = m % 4294967296 := by simpa using hx
      omega
  · split at hx
    · rcases List.mem_cons.1 hx with hx | hx
      · omega
      · obtain rfl : x = m := by simpa using hx
        omega
    · split at hx
      · rcases List.mem_cons.1 hx with hx | hx
        · omega
        · obtain rfl : x = m - 40 := by simpa using hx
          omega
      · rcases List.mem_cons.1 hx with hx | hx
        · omega
        · obtain rfl : x = m - 80 := by simpa using hx
          omega
theorem oneR_len (l : List Int) (m : Int) : (oneR l m).length ≤ l.length + 2 := by
  unfold oneR
  split
  · rw [List.length_append, List.length_singleton]
    omega
  · split
    · simp
    · split <;> simp
theorem rS_from (xs : List Int) (hr : ∀ x ∈ xs, 0 ≤ x ∧ x < 256) : ∀ i n l, rS xs i = some (n, l) → 0 ≤ n ∧ n ≤ 4294967375 ∧ l.length ≤ 2 * i ∧ ∀ x ∈ l, 0 ≤ x ∧ x < 4294967296
  | 0, n, l, h => by
    injection h with h
    injection h with h1 h2
    subst h1 h2
    simp
  | i + 1, n, l, h => by
    cases hq : rS xs i with
    | none =>
      have := rS_none xs i hq 1
      rw [this] at h
      cases h
    | some p =>
      obtain ⟨n0, l0⟩ := p
      obtain ⟨q1, q2, q3, q4⟩ := rS_from xs hr i n0 l0 hq
      have hx := getD_rngK (m := 256) (by omega) hr i
      rw [rS_step xs i n0 l0 hq] at h
      split at h
      · cases h
      · split at h
        · injection h with h
          injection h with h1 h2
          subst h1 h2
          exact ⟨by omega, by omega, by omega, q4⟩
        · injection h with h
          injection h with h1 h2
          subst h1 h2
          refine ⟨by omega, by omega, ?_, oneR_rng l0 _ (by omega) (by omega) q4⟩
          have := oneR_len l0 (n0 * 128 + xs.getD i 0 % 128)
          omega

set_option maxHeartbeats 4000000 in
set_option maxRecDepth 100000 in
theorem rread_any (A : Option Addr) (n c : Nat) (xs : List Int) (hn : n ≤ 1100000) (w : World) (h : Sl w A n c xs) :
    Calls Tryd.prog 20 #[.slice A n c] w (ROptK (readL xs) w) := by
  have hl := h.len
  have HL := Lib.hid hl
  have HS := Lib.hid h
  obtain ⟨i32, hi32, hz32, hs32, hb32⟩ := info_parts info32
  have hni : (n : Int) ≤ 1100000 := by omega
  have HO0 : Hid (w.ownsRow w.heap.size 33 1 (.slice none 0 0) 0 (([] : List Int).map (Value.int .u32)) ∧ Past w w) := Lib.hid ⟨World.ownsRow_nil _ _ _ _, Below.refl _ _⟩
  clear hl h
  go_enter Tryd.func20, Tryd.ntmps20
  go_wp2_with fail
  go_loopg [4, 5, 6] n (fun k s3 s4 s5 wx => ∃ (i : Nat) (m : Int) (L d : Nat) (B : Option Addr) (l : List Int), i ≤ n ∧ k = n - i ∧ s3 = .slice B L d ∧ s4 = .int .i64 m ∧ s5 = .int .i64 (i : Int) ∧ Hid (rS xs i = some (m, l)) ∧ Hid (l.length = L) ∧ Hid (wx.ownsRow w.heap.size 33 1 (.slice B L d) L (l.map (Value.int .u32)) ∧ Past w wx))
  case atStart => exact ⟨0, 0, 0, 0, none, [], Nat.zero_le _, rfl, rfl, rfl, rfl, Lib.hid rfl, Lib.hid rfl, HO0⟩
  case round =>
    clear HO0
    obtain ⟨i, m, L, d, B, l, hi, hgk, rfl, rfl, rfl, HP, HLn, HO⟩ := hrel
    have HGK := Lib.hid hgk
    clear hgk
    obtain ⟨hm0, hm1, hL, hlr⟩ := rS_from xs HS.out.rng i m l HP.out
    have HLR := Lib.hid hlr
    rw [HLn.out] at hL
    clear hlr
    by_cases hlt : i < n
    · obtain ⟨b, o, rfl, hc⟩ := (HS.out.past HO.out.2).bytes (by omega)
      have hx := hc i hlt
      clear hc
      have hi0 : (0 : Int) ≤ (i : Int) := by omega
      have hin : (i : Int) < (n : Int) := by omega
      obtain ⟨hr0, hr1⟩ := getD_rngK (m := 256) (by omega) HS.out.rng i
      have HST := Lib.hid (rS_step xs i m l HP.out)
      generalize xs.getD i 0 = x at *
      have hx128 : 0 ≤ x % 128 ∧ x % 128 < 128 := by omega
      obtain ⟨hq0, hq1⟩ := hx128
      by_cases hbig : 4294967375 < m * 128 + x % 128
      · have HNO : Hid (readL xs = none) := Lib.hid (by
          have h1 := HST.out
          rw [if_pos hbig] at h1
          have h2 := rS_none xs (i + 1) h1 (n - (i + 1))
          unfold readL
          rw [HL.out, show n = i + 1 + (n - (i + 1)) by omega, h2])
        go_wp2_with fail
        go_ret2
        rw [HNO.out]
        exact ROptK.none' HO.out.2
      · by_cases h128 : 128 ≤ x
        · have HP2 : Hid (rS xs (i + 1) = some (m * 128 + x % 128, l)) := Lib.hid (by rw [HST.out, if_neg hbig, if_pos h128])
          go_wp2_with fail
          go_roundg (n - (i + 1))
          case rel => exact ⟨i + 1, m * 128 + x % 128, L, d, B, l, by omega, rfl, rfl, by go_num, by go_num, HP2, HLn, HO⟩
          case measure => have := HGK.out; omega
        · have HP2 : Hid (rS xs (i + 1) = some (0, oneR l (m * 128 + x % 128))) := Lib.hid (by rw [HST.out, if_neg hbig, if_neg h128])
          have hM0 : 0 ≤ m * 128 + x % 128 := by omega
          clear HST
          have hwm : m * 128 + x % 128 ≤ 4294967375 := by omega
          by_cases hL0 : 0 < L
          · have hL0i : (0 : Int) < (L : Int) := by omega
            have HOR : Hid (oneR l (m * 128 + x % 128) = l ++ [(m * 128 + x % 128) % 4294967296]) := Lib.hid (by unfold oneR; rw [if_pos (by rw [HLn.out]; exact hL0)])
            rw [HOR.out] at HP2
            go_wp2_with (at_builtin; refine wpList_append_own _ rfl _ _ 22 rfl w.heap.size 33 i32 (.int .u32 0) 1 4 Tryd.underlying22 hi32 hz32 hs32 hb32 rfl (by decide) _ L _ rfl (HO.out.1.alloc _) ⟨wr.heap.size, 0, none⟩ 1 1 [.int .u32 ((m * 128 + x % 128) % 4294967296)] rfl rfl ?k1 ?k2 ?k3 ?k4 ?k5 ?_)
            case k2 => simp [Value.oneCell']
            case k3 => unfold maxLen; omega
            case k4 => omega
            case k5 => exact Nat.le_trans HO.out.2.size (by simp)
            intro v' w1 hown1 hgrow1 _
            obtain ⟨B3, d3, rfl⟩ := own_slice hown1
            have HO2 : Hid (w1.ownsRow w.heap.size 33 1 (.slice B3 (L + 1) d3) (L + 1) ((l ++ [(m * 128 + x % 128) % 4294967296]).map (Value.int .u32)) ∧ Past w w1) := Lib.hid (by
              rw [List.map_append]
              exact ⟨hown1, (HO.out.2.trans' ((Below.refl _ _).alloc (Nat.le_refl _) _)).grown hgrow1 (Nat.le_trans HO.out.2.size (by simp)) (own_block_ge HO.out.1)⟩)
            have HLn2 : Hid ((l ++ [(m * 128 + x % 128) % 4294967296]).length = L + 1) := Lib.hid (by rw [List.length_append, HLn.out]; rfl)
            clear hown1 hgrow1 HO
            go_wp2_with fail
            go_roundg (n - (i + 1))
            case rel => exact ⟨i + 1, 0, L + 1, d3, B3, _, by omega, rfl, rfl, rfl, by go_num, HP2, HLn2, HO2⟩
            case measure => have := HGK.out; omega
          · have hL0i : ¬ (0 : Int) < (L : Int) := by omega
            have hneg : ¬ 0 < l.length := by rw [HLn.out]; exact hL0
            have HOW : Hid (∀ y z : Int, ((wr.alloc (.cells #[.int .u32 y, .int .u32 z] 33)).ownsRow w.heap.size 33 1 (.slice (some ⟨wr.heap.size, 0, none⟩) 2 2) 2 (([y, z]).map (Value.int .u32)) ∧ Past w (wr.alloc (.cells #[.int .u32 y, .int .u32 z] 33)))) := Lib.hid fun y z =>
              ⟨World.ownsRow_lit wr #[.int .u32 y, .int .u32 z] 2 HO.out.2.size (by unfold maxLen; omega) rfl, HO.out.2.trans' ((Below.refl _ _).alloc (Nat.le_refl _) _)⟩
            by_cases h40 : m * 128 + x % 128 < 40
            · have HOR : Hid (oneR l (m * 128 + x % 128) = [0, m * 128 + x % 128]) := Lib.hid (by unfold oneR; rw [if_neg hneg, if_pos h40])
              rw [HOR.out] at HP2
              have hwv : (m * 128 + x % 128) % 4294967296 = m * 128 + x % 128 := by omega
              go_wp2_with fail
              go_roundg (n - (i + 1))
              case rel => exact ⟨i + 1, 0, 2, 2, _, _, by omega, rfl, rfl, rfl, by go_num, HP2, Lib.hid rfl, Lib.hid (HOW.out _ _)⟩
              case measure => have := HGK.out; omega
            · by_cases h80 : m * 128 + x % 128 < 80
              · have HOR : Hid (oneR l (m * 128 + x % 128) = [1, m * 128 + x % 128 - 40]) := Lib.hid (by unfold oneR; rw [if_neg hneg, if_neg h40, if_pos h80])
                rw [HOR.out] at HP2
                have hwv : (m * 128 + x % 128 - 40) % 4294967296 = m * 128 + x % 128 - 40 := by omega
                go_wp2_with fail
                go_roundg (n - (i + 1))
                case rel => exact ⟨i + 1, 0, 2, 2, _, _, by omega, rfl, rfl, rfl, by go_num, HP2, Lib.hid rfl, Lib.hid (HOW.out _ _)⟩
                case measure => have := HGK.out; omega
              · have HOR : Hid (oneR l (m * 128 + x % 128) = [2, m * 128 + x % 128 - 80]) := Lib.hid (by unfold oneR; rw [if_neg hneg, if_neg h40, if_neg h80])
                rw [HOR.out] at HP2
                have hwv : (m * 128 + x % 128 - 80) % 4294967296 = m * 128 + x % 128 - 80 := by omega
                go_wp2_with fail
                go_roundg (n - (i + 1))
                case rel => exact ⟨i + 1, 0, 2, 2, _, _, by omega, rfl, rfl, rfl, by go_num, HP2, Lib.hid rfl, Lib.hid (HOW.out _ _)⟩
                case measure => have := HGK.out; omega
    · have hie : i = n := by omega
      have hin : ¬ (i : Int) < (n : Int) := by omega
      have HPR : Hid (readL xs = if okL l = true ∧ contL l = xs then some l else none) := Lib.hid (by
        have h1 := HP.out
        rw [hie] at h1
        unfold readL
        rw [HL.out, h1])
      clear hie HP
      have HC := Lib.hid (rcontent_any B L d l wr (slK_of_own HO.out.1) HLR.out)
      go_wp2_with fail
      refine HC.out.mono ?_
      rintro e w1 ⟨C, c1, rfl, hsc, hp1⟩
      have HSC := Lib.hid hsc
      have HP1 := Lib.hid (HO.out.2.trans' hp1)
      have HSK := Lib.hid ((slK_of_own HO.out.1).past hp1)
      have HV := Lib.hid (rvalid_any B L d l w1 HSK.out HLR.out)
      clear hsc hp1 HC HO
      generalize contL l = ys at *
      have hyl := HSC.out.len
      generalize ys.length = p at *
      have HYL := Lib.hid HSC.out.len
      clear hyl
      generalize okL l = q at *
      go_wp2_with fail
      refine HV.out.mono ?_
      rintro e w2 ⟨rfl, rfl⟩
      clear HV
      cases q with
      | false =>
        go_wp2_with fail
        go_ret2
        rw [HPR.out, if_neg (by simp)]
        exact ROptK.none' HP1.out
      | true =>
        by_cases hpn : p = n
        · subst hpn
          go_wp2_with fail
          go_loopg [8] p (fun k s8 wx => ∃ j : Nat, j ≤ p ∧ k = p - j ∧ s8 = .int .i64 (j : Int) ∧ Hid (∀ t, t < j → ys.getD t 0 = xs.getD t 0) ∧ Hid (Past w1 wx))
          case atStart => exact ⟨0, Nat.zero_le _, rfl, rfl, Lib.hid fun t ht => absurd ht (Nat.not_lt_zero _), Lib.hid (Below.refl _ _)⟩
          case round =>
            obtain ⟨j, hj, hgk2, rfl, HE, hw⟩ := hrel
            have HGK2 := Lib.hid hgk2
            clear hgk2
            have hj0 : (0 : Int) ≤ (j : Int) := by omega
            by_cases hjt : j < p
            · have hjn : (j : Int) < (p : Int) := by omega
              obtain ⟨b1, o1, rfl, hc1⟩ := (HS.out.past (HP1.out.trans' hw.out)).bytes (by omega)
              obtain ⟨b2, o2, rfl, hc2⟩ := (HSC.out.past hw.out).bytes (by omega)
              have hx1 := hc1 j hjt
              have hx2 := hc2 j hjt
              clear hc1 hc2
              have hxy : (ys.getD j 0 = xs.getD j 0) ∨ (ys.getD j 0 ≠ xs.getD j 0) := Classical.em _
              have HJ := Lib.hid hxy
              clear hxy
              by_cases hxy : ys.getD j 0 = xs.getD j 0
              · have HE2 : Hid (∀ t, t < j + 1 → ys.getD t 0 = xs.getD t 0) := Lib.hid fun t ht => by
                  by_cases e : t = j
                  · rw [e]; exact hxy
                  · exact HE.out t (by omega)
                rw [hxy] at hx2
                clear hxy HJ
                generalize xs.getD j 0 = x at *
                go_wp2_with fail
                go_quiet (fail)
                go_wp2_with fail
                go_roundg (p - (j + 1))
                case rel => exact ⟨j + 1, by omega, rfl, by go_num, HE2, Lib.hid (Past.drewN hw.out _)⟩
                case measure => have := HGK2.out; omega
              · have hne : ys ≠ xs := fun e => hxy (by rw [e])
                have HNE := Lib.hid hne
                clear hne HJ
                generalize xs.getD j 0 = x at *
                generalize ys.getD j 0 = y at *
                go_wp2_with fail
                go_quiet (fail)
                go_wp2_with fail
                go_ret2
                rw [HPR.out, if_neg (fun h => HNE.out h.2)]
                exact ROptK.none' (HP1.out.trans' (Past.drewN hw.out _))
            · have hjp : j = p := by omega
              have hjn : ¬ (j : Int) < (p : Int) := by omega
              have HYX : Hid (ys = xs) := Lib.hid (by
                apply List.ext_getElem (by rw [HYL.out, HL.out])
                intro t h1 h2
                have h3 := HE.out t (by rw [hjp, ← HL.out]; exact h2)
                rw [List.getD_eq_getElem?_getD, List.getD_eq_getElem?_getD, List.getElem?_eq_getElem h1, List.getElem?_eq_getElem h2] at h3
                exact h3)
              clear hjp
              go_wp2_with fail
              go_ret2
              rw [HPR.out, if_pos ⟨by trivial, HYX.out⟩]
              exact ROptK.some' (HSK.out.past hw.out) HLR.out (HP1.out.trans' hw.out)
        · have hpi : ¬ (p : Int) = (n : Int) := by omega
          go_wp2_with fail
          go_ret2
          rw [HPR.out, if_neg (by
            rintro ⟨_, h2⟩
            apply hpn
            rw [← HYL.out, h2, HL.out])]
          exact ROptK.none' HP1.out

end Go.Proofs.YtbemkfneebbgeaaDoor
