/- Plain facts about packed numbers: the bits of a number, and that packing and unpacking lead back. Contracts of Same of package pyxref01 (bytes) and of package pyxref05 (numbers). Numbers of 12 bits in bytes: the first one that is too great; parts of the bytes. Plain lists. -/
import Derived.Test.YteflpbkdnebopaaGreatDoorRef5A
namespace Go.Proofs.YteflpbkdnebopaaGreatDoor
open Go.RowKit
set_option maxRecDepth 100000

/-- The number of n bits from p on, the lowest one first. -/
def loN (f : Nat → Int) (p : Nat) : Nat → Int
  | 0 => 0
  | n + 1 => f p + 2 * loN f (p + 1) n
theorem loN_rng {f : Nat → Int} (hf : ∀ q, 0 ≤ f q ∧ f q ≤ 1) (n : Nat) : ∀ p, 0 ≤ loN f p n ∧ loN f p n < 2 ^ n := by
  induction n with
  | zero => intro p; simp [loN]
  | succ n ih =>
    intro p
    have hb := hf p
    have h := ih (p + 1)
    have e : (2 : Int) ^ (n + 1) = 2 ^ n * 2 := Int.pow_succ 2 n
    rw [loN, e]
    omega
theorem loN_split (f : Nat → Int) (t m : Nat) : ∀ p, loN f p (t + m) = loN f p t + 2 ^ t * loN f (p + t) m := by
  induction t with
  | zero => intro p; simp [loN]
  | succ t ih =>
    intro p
    have e : (2 : Int) ^ (t + 1) = 2 ^ t * 2 := Int.pow_succ 2 t
    rw [show t + 1 + m = (t + m) + 1 by omega, loN, loN, ih (p + 1), e, show p + 1 + t = p + (t + 1) by omega, Int.mul_add, Int.add_assoc, Int.mul_comm (2 ^ t) 2, Int.mul_assoc]
theorem loN_bit {f : Nat → Int} (hf : ∀ q, 0 ≤ f q ∧ f q ≤ 1) (p t n : Nat) (h : t < n) : loN f p n / 2 ^ t % 2 = f (p + t) := by
  have e : n = t + ((n - t - 1) + 1) := by omega
  rw [e, loN_split, loN, Int.add_mul_ediv_left _ _ (Int.ne_of_gt (Int.pow_pos (by decide))), Int.ediv_eq_zero_of_lt (loN_rng hf t p).1 (loN_rng hf t p).2]
  have := hf (p + t)
  omega
theorem loN_eq {f g : Nat → Int} (p q n : Nat) (h : ∀ t, t < n → f (p + t) = g (q + t)) : loN f p n = loN g q n := by
  induction n generalizing p q with
  | zero => rfl
  | succ n ih =>
    have h0 := h 0 (by omega)
    rw [Nat.add_zero, Nat.add_zero] at h0
    rw [loN, loN, h0, ih (p + 1) (q + 1) fun t ht => by
      have := h (t + 1) (by omega)
      rwa [show p + (t + 1) = p + 1 + t by omega, show q + (t + 1) = q + 1 + t by omega] at this]
theorem half_half (x : Int) (t : Nat) : x / 2 / 2 ^ t = x / 2 ^ (t + 1) := by
  rw [Int.pow_succ', Int.ediv_ediv_of_nonneg (by decide)]
theorem loN_num (n : Nat) : ∀ x : Int, 0 ≤ x → x < 2 ^ n → loN (fun q => x / 2 ^ q % 2) 0 n = x := by
  induction n with
  | zero =>
    intro x h0 h1
    rw [loN]
    simp at h1
    omega
  | succ n ih =>
    intro x h0 h1
    have e : (2 : Int) ^ (n + 1) = 2 ^ n * 2 := Int.pow_succ 2 n
    have h := ih (x / 2) (by omega) (by rw [e] at h1; omega)
    have h2 : loN (fun q => x / 2 ^ q % 2) (0 + 1) n = loN (fun q => x / 2 / 2 ^ q % 2) 0 n := loN_eq _ _ n fun t _ => by
      simp only [half_half]
      congr 3
      omega
    rw [loN, h2, h]
    simp only [Int.pow_zero, Int.ediv_one]
    omega
theorem hiN_loN (f : Nat → Int) (p D t : Nat) (ht : t ≤ D) : hiN f p D t = loN f (p + (D - t)) t := by
  induction t with
  | zero => rfl
  | succ t ih =>
    rw [hiN, ih (by omega), loN, show p + (D - 1 - t) = p + (D - (t + 1)) by omega, show p + (D - (t + 1)) + 1 = p + (D - t) by omega]
    omega
theorem lo8_loN (f : Nat → Int) (p : Nat) : lo8 f p 8 = loN f p 8 := by
  have h : ∀ t, t ≤ 8 → lo8 f p t = hiN f p 8 t := by
    intro t ht
    induction t with
    | zero => rfl
    | succ t ih => rw [lo8, hiN, ih (by omega)]
  rw [h 8 (by omega), hiN_loN f p 8 8 (by omega), Nat.sub_self, Nat.add_zero]

theorem lbit_far (xs : List Int) (p : Nat) (h : 8 * xs.length ≤ p) : lbit xs p = 0 := by
  unfold lbit
  rw [List.getD_eq_getElem?_getD, List.getElem?_eq_none (by omega)]
  simp
theorem getD_rng8 {xs : List Int} (hr : ∀ x ∈ xs, 0 ≤ x ∧ x < 256) (i : Nat) : 0 ≤ xs.getD i 0 ∧ xs.getD i 0 < 256 := by
  rw [List.getD_eq_getElem?_getD]
  by_cases h : i < xs.length
  · rw [List.getElem?_eq_getElem h]
    exact hr _ (List.getElem_mem h)
  · rw [List.getElem?_eq_none (by omega)]
    simp
/-- A byte is the number of its bits. -/
theorem byte_loN {xs : List Int} (hr : ∀ x ∈ xs, 0 ≤ x ∧ x < 256) (j : Nat) : loN (lbit xs) (8 * j) 8 = xs.getD j 0 := by
  have h := getD_rng8 hr j
  rw [← loN_num 8 (xs.getD j 0) h.1 (by simpa using h.2)]
  exact loN_eq _ _ 8 fun t ht => by rw [lbit_in xs j t ht, Nat.zero_add]
/-- A number of D bits is the number of its bits in the list. -/
theorem num_loN {D : Nat} {ls : List Int} (i : Nat) (h0 : 0 ≤ ls.getD i 0) (h1 : ls.getD i 0 < 2 ^ D) : loN (pbit D ls) (D * i) D = ls.getD i 0 := by
  rw [← loN_num D (ls.getD i 0) h0 h1]
  exact loN_eq _ _ D fun t ht => by rw [pbit_in D ls i t ht, Nat.zero_add]

theorem list_ext5 {a b : List Int} (hl : a.length = b.length) (h : ∀ i, i < a.length → a.getD i 0 = b.getD i 0) : a = b := by
  refine List.ext_getElem hl fun i h1 h2 => ?_
  have := h i h1
  simpa [List.getD, h1, h2] using this
theorem packs_at (d : Nat) (ls : List Int) (q j : Nat) (h : j < q) : (packs d ls q).getD j 0 = loN (pbit d ls) (8 * j) 8 := by
  simp only [packs, List.getD_eq_getElem?_getD, List.getElem?_map, List.getElem?_range h, Option.map_some, Option.getD_some]
  exact lo8_loN _ _
theorem nums_at (D : Nat) (xs : List Int) (n i : Nat) (h : i < n) : (nums D xs n).getD i 0 = loN (lbit xs) (D * i) D := by
  simp only [nums, List.getD_eq_getElem?_getD, List.getElem?_map, List.getElem?_range h, Option.map_some, Option.getD_some]
  rw [hiN_loN _ _ D D (Nat.le_refl _), Nat.sub_self, Nat.add_zero]

/-- A bit of a packing is that of the numbers. -/
theorem lbit_packs (d : Nat) (ls : List Int) (q p : Nat) (h : p < 8 * q) : lbit (packs d ls q) p = pbit d ls p := by
  have e : p = 8 * (p / 8) + p % 8 := (Nat.div_add_mod p 8).symm
  unfold lbit
  rw [packs_at d ls q (p / 8) (by omega), loN_bit (pbit_rng d ls) _ _ 8 (by omega)]
  rw [← e]
/-- A bit of numbers that were taken from bytes is that of the bytes. -/
theorem pbit_nums (D : Nat) (xs : List Int) (n p : Nat) (hD : 0 < D) (h : p < D * n) : pbit D (nums D xs n) p = lbit xs p := by
  have e : p = D * (p / D) + p % D := (Nat.div_add_mod p D).symm
  have h1 : p / D < n := (Nat.div_lt_iff_lt_mul hD).2 (by rw [Nat.mul_comm]; exact h)
  unfold pbit
  rw [nums_at D xs n _ h1, loN_bit (lbit_rng xs) _ _ D (Nat.mod_lt _ hD)]
  rw [← e]

section
variable {D : Nat} (hD1 : 1 ≤ D) (hD2 : D ≤ 32)
include hD1 hD2
theorem sizeI_nat (n : Nat) (hn : n ≤ 1048576) : sizeI D n = ((nbytes D n : Nat) : Int) := by
  unfold sizeI nbytes
  rw [if_neg (by omega)]
  have : ((D * n : Nat) : Int) = (D : Int) * (n : Int) := Int.natCast_mul D n
  rw [← this]
  omega
/-- Numbers that are packed are unpacked again. -/
theorem runpack_pack (ls : List Int) (hn : ls.length ≤ 1048576) (hr : ∀ i, i < ls.length → 0 ≤ ls.getD i 0 ∧ ls.getD i 0 < 2 ^ D) :
    runpack (D : Int) (ls.length : Int) (packs D ls (nbytes D ls.length)) = some ls := by
  have hM : D * ls.length ≤ 8 * nbytes D ls.length := by unfold nbytes; omega
  unfold runpack
  rw [if_neg]
  · congr 1
    refine list_ext5 (by rw [nums_len]; rfl) fun i hi => ?_
    rw [nums_len, Int.toNat_natCast] at hi
    rw [Int.toNat_natCast, Int.toNat_natCast, nums_at D _ _ i hi, ← num_loN i (hr i hi).1 (hr i hi).2]
    refine loN_eq _ _ D fun t ht => lbit_packs D ls _ _ ?_
    have : D * i + D ≤ D * ls.length := by
      have := Nat.mul_le_mul_left D (show i + 1 ≤ ls.length by omega)
      rwa [Nat.mul_succ] at this
    omega
  · rintro (h | h | h | h | h | ⟨p, h1, h2, h3⟩)
    · omega
    · omega
    · omega
    · omega
    · rw [packs_len, sizeI_nat hD1 hD2 ls.length hn] at h
      exact h rfl
    · rw [packs_len] at h1
      rw [Int.toNat_natCast, Int.toNat_natCast] at h2
      rw [lbit_packs D ls _ p h1] at h3
      exact h3 (pbit_far D ls p (by omega) h2)
/-- Bytes that are unpacked are packed again. -/
theorem rpack_unpack {n : Int} {xs ls : List Int} (hr : ∀ x ∈ xs, 0 ≤ x ∧ x < 256) (h : runpack (D : Int) n xs = some ls) : rpack (D : Int) ls = some xs ∧ (ls.length : Int) = n ∧ ls.length ≤ 1048576 ∧ ∀ i, 0 ≤ ls.getD i 0 ∧ ls.getD i 0 < 2 ^ D := by
  unfold runpack at h
  split at h
  · cases h
  · rename_i hn
    injection h with h
    obtain ⟨N, rfl⟩ : ∃ N : Nat, n = (N : Int) := ⟨n.toNat, by omega⟩
    rw [Int.toNat_natCast, Int.toNat_natCast] at *
    subst h
    have hN : N ≤ 1048576 := by omega
    have hlen : xs.length = nbytes D N := by
      have h1 : (xs.length : Int) = sizeI D N := Classical.byContradiction fun h => hn (.inr (.inr (.inr (.inr (.inl h)))))
      rw [sizeI_nat hD1 hD2 N hN] at h1
      omega
    have hz : ∀ p, D * N ≤ p → lbit xs p = 0 := fun p hp => by
      by_cases h8 : p < 8 * xs.length
      · exact Classical.byContradiction fun h => hn (.inr (.inr (.inr (.inr (.inr ⟨p, h8, hp, h⟩)))))
      · exact lbit_far xs p (by omega)
    have hrng : ∀ i, 0 ≤ (nums D xs N).getD i 0 ∧ (nums D xs N).getD i 0 < 2 ^ D := fun i => by
      by_cases hi : i < N
      · rw [nums_at D xs N i hi]
        exact loN_rng (lbit_rng xs) D _
      · rw [List.getD_eq_getElem?_getD, List.getElem?_eq_none (by rw [nums_len]; omega)]
        exact ⟨Int.le_refl _, Int.pow_pos (by decide)⟩
    refine ⟨?_, by rw [nums_len], by rw [nums_len]; exact hN, hrng⟩
    unfold rpack
    rw [if_neg]
    · congr 1
      rw [nums_len, Int.toNat_natCast]
      refine list_ext5 (by rw [packs_len, hlen]) fun j hj => ?_
      rw [packs_len] at hj
      rw [packs_at D _ _ j hj, ← byte_loN hr j]
      refine loN_eq _ _ 8 fun t ht => ?_
      by_cases hp : 8 * j + t < D * N
      · exact pbit_nums D xs N _ (by omega) hp
      · rw [hz _ (by omega)]
        exact pbit_far D _ _ (by omega) (by rw [nums_len]; omega)
    · rintro (h | h | ⟨i, h1, h2⟩)
      · omega
      · omega
      · rw [Int.toNat_natCast] at h2
        exact h2 (hrng i).2
end

end Go.Proofs.YteflpbkdnebopaaGreatDoor

namespace Go.Proofs.YteflpbkdnebopaaGreatDoor
open Go.RowKit
set_option maxRecDepth 100000

theorem take_snoc' (l : List Int) (k : Nat) (h : k < l.length) : l.take (k + 1) = l.take k ++ [l.getD k 0] := by
  rw [List.take_succ_eq_append_getElem h]
  simp [List.getD, List.getElem?_eq_getElem h]

def sameB (xs ys : List Int) : Bool := decide (xs = ys)
theorem sameB_refl (xs : List Int) : sameB xs xs = true := by simp [sameB]
theorem sameB_true {xs ys : List Int} (h : sameB xs ys = true) : xs = ys := by simpa [sameB] using h

theorem sameB_at {xs ys : List Int} (j : Nat) (h : xs.getD j 0 ≠ ys.getD j 0) : sameB xs ys = false := by
  simp only [sameB, decide_eq_false_iff_not]
  rintro rfl
  exact h rfl
theorem sameB_len {xs ys : List Int} (h : xs.length ≠ ys.length) : sameB xs ys = false := by
  simp only [sameB, decide_eq_false_iff_not]
  rintro rfl
  exact h rfl

theorem rsame_any (A1 A2 : Option Addr) (n1 n2 c1 c2 : Nat) (xs ys : List Int) (w : World) (h1 : Sl w A1 n1 c1 xs) (h2 : Sl w A2 n2 c2 ys) :
    Calls Tryz.prog 19 #[.slice A1 n1 c1, .slice A2 n2 c2] w fun e w' => e = .returned (.bool (sameB xs ys)) ∧ ∃ m, w' = w.drewN m := by
  have hn1 := h1.cap
  have hb1 := h1.big
  unfold maxLen at hb1
  by_cases hl : n1 = n2
  · subst hl
    have H1 := Lib.hid h1
    have H2 := Lib.hid h2
    clear h1 h2
    go_enter Tryz.func19, Tryz.ntmps19
    go_wp2
    go_loopw [5] (fun i wr => ∃ j : Nat, j ≤ n1 ∧ i = .int .i64 j ∧ Hid (xs.take j = ys.take j) ∧ Hid (∃ m, wr = w.drewN m)) (fun i _ => n1 - (intOf i).toNat)
    case atStart => exact ⟨0, Nat.zero_le _, rfl, rfl, ⟨0, rfl⟩⟩
    case round =>
      obtain ⟨j, hj, rfl, ht, m, rfl⟩ := hrel
      by_cases hlt : j < n1
      · obtain ⟨b1, o1, rfl, hc1⟩ := H1.out.bytes (by omega)
        obtain ⟨b2, o2, rfl, hc2⟩ := H2.out.bytes (by omega)
        have g1 := hc1 j hlt
        have g2 := hc2 j hlt
        clear hc1 hc2
        generalize hx : xs.getD j 0 = x at g1
        generalize hy : ys.getD j 0 = y at g2
        have HX := Lib.hid hx
        have HY := Lib.hid hy
        clear hx hy
        have hj0 : (0 : Int) ≤ (j : Int) := by omega
        have hjl : (j : Int) < (n1 : Int) := by omega
        by_cases hxy : x = y
        · subst hxy
          go_wp2
          go_quiet (fail)
          go_wp2
          go_roundw
          case rel =>
            refine ⟨j + 1, by omega, by go_num, ?_, ⟨_, rfl⟩⟩
            show xs.take (j + 1) = ys.take (j + 1)
            rw [take_snoc' xs j (by rw [H1.out.len]; exact hlt), take_snoc' ys j (by rw [H2.out.len]; exact hlt), ht.out, HX.out, HY.out]
          case measure => simp [intOf]; omega
        · have hne : (x != y) = true := by simpa using hxy
          have HN := Lib.hid hxy
          clear hxy
          go_wp2
          go_quiet (fail)
          go_wp2
          go_ret
          exact ⟨by rw [sameB_at j (by rw [HX.out, HY.out]; exact HN.out)]; rfl, _, by first | rfl | rw [World.drewN_drewN]⟩
      · obtain rfl : j = n1 := by omega
        have HT := Lib.hid ht
        clear ht
        go_wp2
        go_ret
        have e : xs = ys := by
          have h := HT.out.out
          rwa [List.take_of_length_le (by rw [H1.out.len]; exact Nat.le_refl _), List.take_of_length_le (by rw [H2.out.len]; exact Nat.le_refl _)] at h
        exact ⟨by rw [e, sameB_refl]; rfl, _, rfl⟩
  · have hne : (n1 != n2) = true := by simpa using hl
    have hne2 : ((n1 : Int) != (n2 : Int)) = true := by simp; omega
    have HE : Hid (sameB xs ys = false) := sameB_len (by rw [h1.len, h2.len]; exact hl)
    clear h1 h2 hl
    go_enter Tryz.func19, Tryz.ntmps19
    go_wp2
    go_ret
    exact ⟨by rw [HE.out]; rfl, 0, rfl⟩

theorem rsame_self (A1 A2 : Option Addr) (n c1 c2 : Nat) (xs : List Int) (w : World) (h1 : Sl w A1 n c1 xs) (h2 : Sl w A2 n c2 xs) :
    Calls Tryz.prog 19 #[.slice A1 n c1, .slice A2 n c2] w fun e w' => e = .returned (.bool true) ∧ ∃ m, w' = w.drewN m := by
  have h := rsame_any A1 A2 n n c1 c2 xs xs w h1 h2
  rwa [sameB_refl] at h
theorem rsame_nil (w : World) : Calls Tryz.prog 19 #[.slice none 0 0, .slice none 0 0] w fun e w' => e = .returned (.bool true) ∧ ∃ m, w' = w.drewN m :=
  rsame_self none none 0 0 0 [] w (Sl.nil w) (Sl.nil w)


theorem SlK.nil (k : IntKind) (w : World) : SlK k w none 0 0 [] := ⟨rfl, Nat.le_refl _, by unfold maxLen; omega, fun h => absurd h (Nat.lt_irrefl 0), fun _ => rfl⟩

end Go.Proofs.YteflpbkdnebopaaGreatDoor

namespace Go.Proofs.YteflpbkdnebopaaGreatDoor
open Go.RowKit
set_option linter.unusedVariables false

/-- The number i of 12 bits. -/
def n12 (xs : List Int) (i : Nat) : Int := loN (lbit xs) (12 * i) 12
theorem n12_rng (xs : List Int) (i : Nat) : 0 ≤ n12 xs i ∧ n12 xs i < 4096 := loN_rng (lbit_rng xs) 12 _
theorem nums12 (xs : List Int) (n i : Nat) (h : i < n) : (nums 12 xs n).getD i 0 = n12 xs i := nums_at 12 xs n i h
/-- The index of the first number above 3328, or -1. -/
def fstI (f : Nat → Int) : Nat → Int
  | 0 => -1
  | n + 1 => if 0 ≤ fstI f n then fstI f n else if 3328 < f n then (n : Int) else -1
def IsF (f : Nat → Int) (N : Nat) (r : Int) : Prop := (r = -1 ∧ ∀ i, i < N → f i ≤ 3328) ∨ (∃ i : Nat, i < N ∧ r = (i : Int) ∧ 3328 < f i ∧ ∀ j, j < i → f j ≤ 3328)
theorem fstI_is (f : Nat → Int) (N : Nat) : IsF f N (fstI f N) := by
  induction N with
  | zero => exact .inl ⟨rfl, fun i hi => absurd hi (Nat.not_lt_zero _)⟩
  | succ n ih =>
    unfold fstI
    rcases ih with ⟨h1, h2⟩ | ⟨i, h1, h2, h3, h4⟩
    · rw [h1, if_neg (by decide)]
      by_cases hn : 3328 < f n
      · rw [if_pos hn]
        exact .inr ⟨n, by omega, rfl, hn, h2⟩
      · rw [if_neg hn]
        refine .inl ⟨rfl, fun i hi => ?_⟩
        by_cases e : i = n
        · subst e; omega
        · exact h2 i (by omega)
    · rw [h2, if_pos (by omega)]
      exact .inr ⟨i, by omega, rfl, h3, h4⟩
theorem IsF.one {f : Nat → Int} {N : Nat} {r s : Int} (h : IsF f N r) (k : IsF f N s) : r = s := by
  rcases h with ⟨h1, h2⟩ | ⟨i, h1, h2, h3, h4⟩ <;> rcases k with ⟨k1, k2⟩ | ⟨j, k1, k2, k3, k4⟩
  · rw [h1, k1]
  · have := h2 j k1; omega
  · have := k2 i h1; omega
  · rcases Nat.lt_trichotomy i j with e | e | e
    · have := k4 i e; omega
    · rw [h2, k2, e]
    · have := h4 j e; omega
theorem fstI_low (f : Nat → Int) (N : Nat) (h : ∀ i, i < N → f i ≤ 3328) : fstI f N = -1 := (fstI_is f N).one (.inl ⟨rfl, h⟩)
theorem fstI_at (f : Nat → Int) (N i : Nat) (hi : i < N) (h : 3328 < f i) (hl : ∀ j, j < i → f j ≤ 3328) : fstI f N = (i : Int) := (fstI_is f N).one (.inr ⟨i, hi, rfl, h, hl⟩)
theorem fstI_ext {f g : Nat → Int} {N : Nat} (h : ∀ i, i < N → f i = g i) : fstI f N = fstI g N :=
  (fstI_is f N).one (by
    rcases fstI_is g N with ⟨h1, h2⟩ | ⟨i, h1, h2, h3, h4⟩
    · exact .inl ⟨h1, fun i hi => by rw [h i hi]; exact h2 i hi⟩
    · exact .inr ⟨i, h1, h2, by rw [h i h1]; exact h3, fun j hj => by rw [h j (by omega)]; exact h4 j hj⟩)
theorem fstI_rng (f : Nat → Int) (N : Nat) : -1 ≤ fstI f N ∧ fstI f N < (N : Int) ∨ fstI f N = -1 := by
  rcases fstI_is f N with ⟨h1, _⟩ | ⟨i, h1, h2, _⟩
  · exact .inr h1
  · exact .inl ⟨by omega, by omega⟩
/-- The first byte of the first number that is too great. -/
def offI (r : Int) : Int := if r < 0 then -1 else r * 12 / 8
def firstX (xs : List Int) : Int := if xs.length % 3 = 0 then offI (fstI (n12 xs) (xs.length / 3 * 2)) else -1
theorem firstX_rng (xs : List Int) : firstX xs = -1 ∨ (0 ≤ firstX xs ∧ firstX xs < (xs.length : Int)) := by
  unfold firstX
  split
  · unfold offI
    rcases fstI_rng (n12 xs) (xs.length / 3 * 2) with h | h
    · split
      · exact .inl rfl
      · exact .inr ⟨by omega, by omega⟩
    · rw [h]; exact .inl rfl
  · exact .inl rfl
theorem firstX_low {xs : List Int} (h : ∀ i, i < xs.length / 3 * 2 → n12 xs i ≤ 3328) : firstX xs = -1 := by
  unfold firstX
  split
  · rw [fstI_low _ _ h]; rfl
  · rfl
theorem firstX_all {xs : List Int} (h : firstX xs = -1) (h3 : xs.length % 3 = 0) : ∀ i, i < xs.length / 3 * 2 → n12 xs i ≤ 3328 := by
  unfold firstX at h
  rw [if_pos h3] at h
  rcases fstI_is (n12 xs) (xs.length / 3 * 2) with ⟨h1, h2⟩ | ⟨i, h1, h2, h3, h4⟩
  · exact h2
  · rw [h2] at h
    unfold offI at h
    rw [if_neg (by omega)] at h
    omega

/-- A part of the bytes. -/
def seg (xs : List Int) (a m : Nat) : List Int := (xs.drop a).take m
theorem seg_len {xs : List Int} {a m : Nat} (h : a + m ≤ xs.length) : (seg xs a m).length = m := by unfold seg; simp; omega
theorem seg_getD (xs : List Int) (a m i : Nat) (h : i < m) : (seg xs a m).getD i 0 = xs.getD (a + i) 0 := by
  unfold seg
  simp [List.getD, h]
theorem seg_all (xs : List Int) : seg xs 0 xs.length = xs := by simp [seg]
theorem seg_rng {xs : List Int} (a m : Nat) (h : ∀ x ∈ xs, 0 ≤ x ∧ x < 256) : ∀ x ∈ seg xs a m, 0 ≤ x ∧ x < 256 := fun x hx => h x (List.mem_of_mem_drop (List.mem_of_mem_take hx))
theorem lbit_seg (xs : List Int) (a m p : Nat) (h : p < 8 * m) : lbit (seg xs a m) p = lbit xs (8 * a + p) := by
  unfold lbit
  rw [seg_getD xs a m _ (by omega), show (8 * a + p) / 8 = a + p / 8 by omega, show (8 * a + p) % 8 = p % 8 by omega]
theorem n12_seg (xs : List Int) (k m i : Nat) (h : i < 2 * m) : n12 (seg xs (3 * k) (3 * m)) i = n12 xs (2 * k + i) := by
  unfold n12
  refine loN_eq _ _ _ fun t ht => ?_
  rw [lbit_seg _ _ _ _ (by omega)]
  congr 1
  omega

/-- Packing with 12 bits, and what Unpack makes of bytes. -/
theorem unpack12 (xs : List Int) (k : Nat) (hk : k ≤ 500000) : runpack 12 ((2 * k : Nat) : Int) xs = if xs.length = 3 * k then some (nums 12 xs (2 * k)) else none := by
  unfold runpack
  have hs : sizeI 12 ((2 * k : Nat) : Int) = ((3 * k : Nat) : Int) := by
    unfold sizeI
    rw [if_neg (by omega)]
    omega
  rw [hs]
  by_cases hl : xs.length = 3 * k
  · rw [if_pos hl, if_neg]
    · rfl
    · rintro (h | h | h | h | h | ⟨p, h1, h2, _⟩)
      · omega
      · omega
      · omega
      · omega
      · omega
      · rw [show (12 : Int).toNat = 12 from rfl, Int.toNat_natCast] at h2
        omega
  · rw [if_neg hl, if_pos]
    exact .inr (.inr (.inr (.inr (.inl (by omega)))))
theorem pack12 (ls : List Int) (k : Nat) (hl : ls.length = 2 * k) (h : ∀ i, i < 2 * k → ls.getD i 0 < 4096) : rpack 12 ls = some (packs 12 ls (3 * k)) := by
  unfold rpack
  rw [if_neg, hl]
  · congr 1
    show packs 12 ls (nbytes 12 (2 * k)) = _
    congr 1
    unfold nbytes
    omega
  · rintro (h1 | h1 | ⟨i, h1, h2⟩)
    · omega
    · omega
    · rw [hl] at h1
      exact h2 (by rw [show (2 : Int) ^ (12 : Int).toNat = 4096 by decide]; exact h i h1)
theorem n12_packs (ls : List Int) (k i : Nat) (hl : ls.length = 2 * k) (hi : i < 2 * k) (h0 : 0 ≤ ls.getD i 0) (h1 : ls.getD i 0 < 4096) : n12 (packs 12 ls (3 * k)) i = ls.getD i 0 := by
  unfold n12
  rw [loN_eq (g := pbit 12 ls) (12 * i) (12 * i) 12 fun t ht => lbit_packs 12 ls (3 * k) _ (by omega)]
  exact num_loN i h0 (by omega)
/-- Bytes are the packing of their numbers. -/
theorem packs_nums12 (xs : List Int) (k : Nat) (hl : xs.length = 3 * k) (hk : k ≤ 500000) (hr : ∀ x ∈ xs, 0 ≤ x ∧ x < 256) : packs 12 (nums 12 xs (2 * k)) (3 * k) = xs := by
  have h := unpack12 xs k hk
  rw [if_pos hl] at h
  have := (rpack_unpack (D := 12) (by decide) (by decide) hr h).1
  change rpack 12 _ = _ at this
  rw [pack12 _ k (nums_len _ _ _) (fun i hi => by rw [nums12 _ _ _ hi]; exact (n12_rng xs i).2)] at this
  exact Option.some.inj this
theorem first_unp (xs : List Int) (hl : xs.length ≤ 10000) : firstX xs = offI (fstI (fun i => ((runpack 12 ((xs.length / 3 * 2 : Nat) : Int) xs).getD []).getD i 0) ((runpack 12 ((xs.length / 3 * 2 : Nat) : Int) xs).getD []).length) := by
  have h := unpack12 xs (xs.length / 3) (by omega)
  rw [show 2 * (xs.length / 3) = xs.length / 3 * 2 by omega] at h
  rw [h]
  by_cases h3 : xs.length % 3 = 0
  · rw [if_pos (by omega)]
    unfold firstX
    rw [if_pos h3]
    simp only [Option.getD_some]
    rw [nums_len]
    exact congrArg offI (fstI_ext fun i hi => (nums12 xs _ i hi).symm)
  · rw [if_neg (by omega)]
    unfold firstX
    rw [if_neg h3]
    rfl
theorem NOpt.any {o : Option (List Int)} {w : World} {e : Ending} {w' : World} (h : NOpt o w e w') :
    ∃ A c, e = .returned (.tuple #[.slice A (o.getD []).length c, .bool o.isSome]) ∧ SlK .u32 w' A (o.getD []).length c (o.getD []) ∧ Past w w' := by
  cases o with
  | none => exact ⟨none, 0, h.1, SlK.nil _ _, h.2⟩
  | some xs =>
    obtain ⟨A, n, c, h1, h2, h3⟩ := h
    have := h2.len
    subst this
    exact ⟨A, c, h1, h2, h3⟩
theorem nums_rng12 (xs : List Int) (o : Int) (i : Nat) : 0 ≤ ((runpack 12 o xs).getD []).getD i 0 ∧ ((runpack 12 o xs).getD []).getD i 0 < 4096 := by
  unfold runpack
  split
  · simp
  · simp only [Option.getD_some]
    rw [show (12 : Int).toNat = 12 from rfl]
    by_cases h : i < o.toNat
    · rw [nums12 _ _ _ h]
      exact n12_rng xs i
    · rw [List.getD_eq_getElem?_getD, List.getElem?_eq_none (by rw [nums_len]; omega)]
      exact ⟨Int.le_refl _, by decide⟩
end Go.Proofs.YteflpbkdnebopaaGreatDoor
