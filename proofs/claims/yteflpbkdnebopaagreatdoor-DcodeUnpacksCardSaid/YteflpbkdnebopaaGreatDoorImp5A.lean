/- The program's Least, Size, Bit, and its test of the two numbers: what each hands back. The test whether one of the numbers is too wide: the library's search with the program's closure. The arithmetic of the program's buffer: what its shifts and masks do to the bits that it holds. The program's Pack. The program's Unpack. -/
import Derived.Test.YteflpbkdnebopaaGreatDoorB5
import Derived.Test.YteflpbkdnebopaaGreatDoorShelf
import Derived.Lib.EndianBits
import Derived.Laws.MakeOwn
namespace Go.Proofs.YteflpbkdnebopaaGreatDoor
open Go.RowKit
set_option maxRecDepth 100000

theorem leastN_bitLen : ∀ f x, leastN x ≤ f → Lib.bitLenAux f x = leastN x
  | 0, x, h => by
    show 0 = leastN x
    omega
  | f + 1, x, h => by
    rw [Lib.bitLenAux]
    split
    · rename_i h0
      rw [h0, leastN_zero]
    · rename_i h0
      rw [leastN_pos h0] at h ⊢
      rw [leastN_bitLen f (x / 2) (by omega)]
      omega
theorem len32_any (x : Int) (w : World) (h0 : 0 ≤ x) (h1 : x < 4294967296) : Calls Tryz.prog 72 #[.int .u32 x] w fun e w' => e = .returned (.int .i64 (leastN x.toNat : Int)) ∧ w = w' := by
  refine (Tryz.bits_Len32 x w h0 (by omega)).mono ?_
  rintro e w' ⟨rfl, rfl⟩
  refine ⟨?_, rfl⟩
  rw [show Lib.bitLen x.toNat = leastN x.toNat from leastN_bitLen 64 x.toNat ((leastN_le 64 _).2 (by omega))]
theorem pleast_any (x : Int) (w : World) (h0 : 0 ≤ x) (h1 : x < 4294967296) : Calls Tryz.prog 63 #[.int .u32 x] w fun e w' => e = .returned (.int .i64 (leastN x.toNat : Int)) ∧ w = w' := by
  have H := fun w => Lib.hid (len32_any x w h0 h1)
  go_enter Tryz.func63, Tryz.ntmps63
  go_wp2_with fail
  refine (H _).out.mono ?_
  rintro e w' ⟨rfl, rfl⟩
  go_wp2
  go_ret
  exact ⟨rfl, rfl⟩

/-- Whether there are packings of n numbers of d bits. -/
def fits (d n : Int) : Bool := decide (1 ≤ d ∧ d ≤ 32 ∧ 0 ≤ n ∧ n ≤ 1048576)
theorem packable_any (d n : Int) (w : World) : Calls Tryz.prog 60 #[.int .i64 d, .int .i64 n] w fun e w' => e = .returned (.bool (fits d n)) ∧ w = w' := by
  by_cases h1 : d < 1
  · have hs : fits d n = false := by simp [fits]; omega
    rw [hs]
    go_enter Tryz.func60, Tryz.ntmps60
    go_wp2
    go_ret
    exact ⟨rfl, rfl⟩
  · by_cases h2 : 32 < d
    · have hs : fits d n = false := by simp [fits]; omega
      rw [hs]
      go_enter Tryz.func60, Tryz.ntmps60
      go_wp2
      go_ret
      exact ⟨rfl, rfl⟩
    · by_cases h3 : n < 0
      · have hs : fits d n = false := by simp [fits]; omega
        rw [hs]
        go_enter Tryz.func60, Tryz.ntmps60
        go_wp2
        go_ret
        exact ⟨rfl, rfl⟩
      · have hs : fits d n = decide (n ≤ 1048576) := by
          unfold fits
          exact decide_eq_decide.2 ⟨fun h => h.2.2.2, fun h => ⟨by omega, by omega, by omega, h⟩⟩
        have b1 : 1 ≤ d := by omega
        have b2 : d ≤ 32 := by omega
        have b3 : 0 ≤ n := by omega
        clear h1 h2 h3
        rw [hs]
        go_enter Tryz.func60, Tryz.ntmps60
        go_wp2
        go_ret
        exact ⟨rfl, rfl⟩
theorem fits_true {d n : Int} (h : fits d n = true) : 1 ≤ d ∧ d ≤ 32 ∧ 0 ≤ n ∧ n ≤ 1048576 := by simpa [fits] using h
theorem sizeI_false {d n : Int} (h : fits d n = false) : sizeI d n = 0 := by
  unfold sizeI
  rw [if_pos]
  simp [fits] at h
  omega
theorem sizeI_true {d n : Int} (h : fits d n = true) : sizeI d n = (d * n + 7) / 8 := by
  have := fits_true h
  unfold sizeI
  rw [if_neg (by omega)]

theorem psize_any (d n : Int) (w : World) : Calls Tryz.prog 58 #[.int .i64 d, .int .i64 n] w fun e w' => e = .returned (.int .i64 (sizeI d n)) ∧ w = w' := by
  have HP := fun w => Lib.hid (packable_any d n w)
  cases hf : fits d n with
  | false =>
    rw [sizeI_false hf]
    simp only [hf] at HP
    clear hf
    go_enter Tryz.func58, Tryz.ntmps58
    go_wp2_with fail
    refine (HP _).out.mono ?_
    rintro e w' ⟨rfl, rfl⟩
    go_wp2
    go_ret
    exact ⟨rfl, rfl⟩
  | true =>
    have hs := sizeI_true hf
    have h := fits_true hf
    have HS := Lib.hid hs
    simp only [hf] at HP
    have p1 : 0 ≤ d * n := Int.mul_nonneg (by omega) h.2.2.1
    have p2 : d * n ≤ 33554432 := by
      have h1 : d * n ≤ 32 * n := Int.mul_le_mul_of_nonneg_right h.2.1 h.2.2.1
      omega
    clear h hs hf
    go_enter Tryz.func58, Tryz.ntmps58
    go_wp2_with fail
    refine (HP _).out.mono ?_
    rintro e w' ⟨rfl, rfl⟩
    go_wp2
    go_ret
    exact ⟨by rw [HS.out]; rfl, rfl⟩

theorem quiet_eq {P : Program} {f : FuncId} {args : Array Value} {w : World} {n : Nat} {v : Value}
    (h : Calls P f args (w.drewN n) fun e w' => e = .returned v ∧ w.drewN n = w') : Calls P f args (w.drewN n) fun e w'' => e = .returned v ∧ ∃ m, w'' = w.drewN m :=
  h.mono fun _ _ ⟨he, hm⟩ => ⟨he, n, hm.symm⟩

/-- The closure that asks whether a number is too wide: d lies in a block of its own. -/
theorem wide_any (x d : Int) (g : Nat) (w : World) (h0 : 0 ≤ x) (h1 : x < 4294967296) (hd : w.cell? ⟨g, 0, none⟩ = some (.int .i64 d)) :
    Calls Tryz.prog 62 #[.int .u32 x, .pointer (some ⟨g, 0, none⟩)] w fun e w' => e = .returned (.bool (decide (d < (leastN x.toNat : Int)))) ∧ ∃ m, w' = w.drewN m := by
  have H := fun w => Lib.hid (pleast_any x w h0 h1)
  have HD := fun m => (show (w.drewN m).cell? ⟨g, 0, none⟩ = some (.int .i64 d) from hd)
  have HD1 : w.drew.cell? ⟨g, 0, none⟩ = some (.int .i64 d) := hd
  generalize leastN x.toNat = L at *
  go_enter Tryz.func62, Tryz.ntmps62
  go_wp2_with fail
  go_quiet ((go_at_call 63; exact quiet_eq (H _).out))
  go_wp2
  go_ret
  exact ⟨rfl, _, rfl⟩

def bitB (n : Nat) (i : Int) : Bool := decide (0 ≤ i ∧ i / 8 < (n : Int))
def bitV (xs : List Int) (n : Nat) (i : Int) : Int := if bitB n i then lbit xs i.toNat else 0
end Go.Proofs.YteflpbkdnebopaaGreatDoor

namespace Go.Proofs.YteflpbkdnebopaaGreatDoor
open Go.RowKit
set_option maxRecDepth 100000

/-- Whether one of the first n numbers needs more than d bits. -/
def wideB (d : Int) (ls : List Int) (n : Nat) : Bool := (List.range n).any fun i => decide (d < (leastN (ls.getD i 0).toNat : Int))
theorem wideB_succ (d : Int) (ls : List Int) (n : Nat) : wideB d ls (n + 1) = (wideB d ls n || decide (d < (leastN (ls.getD n 0).toNat : Int))) := by simp [wideB, List.range_succ]
theorem wideB_true {d : Int} {ls : List Int} {n i : Nat} (hi : i < n) (h : d < (leastN (ls.getD i 0).toNat : Int)) : wideB d ls n = true :=
  List.any_eq_true.2 ⟨i, List.mem_range.2 hi, decide_eq_true h⟩
theorem wideB_false {d : Int} {ls : List Int} {n : Nat} (h : wideB d ls n = false) (i : Nat) (hi : i < n) : (leastN (ls.getD i 0).toNat : Int) ≤ d := by
  by_cases hw : d < (leastN (ls.getD i 0).toNat : Int)
  · rw [wideB_true hi hw] at h
    cases h
  · omega

set_option maxHeartbeats 1000000 in
theorem pindex_any (d : Int) (g : Nat) (A : Option Addr) (n c : Nat) (ls : List Int) (w : World) (hS : SlK .u32 w A n c ls) (hr : ∀ i, 0 ≤ ls.getD i 0 ∧ ls.getD i 0 < 4294967296)
    (hd : w.cell? ⟨g, 0, none⟩ = some (.int .i64 d)) (hn : n ≤ 10000) :
    Calls Tryz.prog 73 #[.slice A n c, .func (.func 62) #[] #[.pointer (some ⟨g, 0, none⟩)]] w fun e w' =>
      ∃ r : Int, e = .returned (.int .i64 r) ∧ decide (0 ≤ r) = wideB d ls n ∧ -1 ≤ r ∧ r ≤ 10000 ∧ ∃ m, w' = w.drewN m := by
  have HC := fun (i m : Nat) => Lib.hid (wide_any (ls.getD i 0) d g (w.drewN m) (hr i).1 (hr i).2 hd)
  have HS := Lib.hid hS
  have eg : ∀ args w, (callFunc 62 args).run Tryz.prog w = .ok (.enter 62 args) w := enters_of Tryz.func62 (by kernel_rfl) rfl
  clear hS hr hd
  go_enter Tryz.func73, Tryz.ntmps73
  go_wp2
  go_loopg [5, 8] n (fun k _ s8 wr => ∃ i : Nat, i ≤ n ∧ k = n - i ∧ s8 = .int .i64 (i : Int) ∧ Hid (wideB d ls i = false) ∧ Hid (∃ m, wr = w.drewN m))
  case atStart => exact ⟨0, Nat.zero_le _, rfl, rfl, rfl, ⟨0, rfl⟩⟩
  case round =>
    obtain ⟨i, hin, hgk, rfl, HW, m, rfl⟩ := hrel
    have HGK := Lib.hid hgk
    clear hgk
    by_cases hlt : i < n
    · obtain ⟨b, o, rfl, hc⟩ := HS.out.cells (by omega)
      have hx : (w.drewN m).cell? ⟨b, o + i, none⟩ = _ := hc i hlt
      have hi0 : (0 : Int) ≤ (i : Int) := by omega
      have hin1 : (i : Int) < (n : Int) := by omega
      have HB := Lib.hid (wideB_succ d ls i)
      have HI := HC i m
      have HT : Hid (d < (leastN (ls.getD i 0).toNat : Int) → wideB d ls n = true) := wideB_true hlt
      clear hc HC
      generalize ls.getD i 0 = x at *
      by_cases hq : d < (leastN x.toNat : Int)
      · have hqb : decide (d < (leastN x.toNat : Int)) = true := by simpa using hq
        rw [hqb] at HI
        have HT2 : Hid (wideB d ls n = true) := HT.out hq
        clear hq hqb HT HB
        go_wp2_with fail
        refine HI.out.mono ?_
        rintro e w' ⟨rfl, m2, rfl⟩
        go_wp2_with fail
        go_ret
        exact ⟨(i : Int), rfl, by rw [HT2.out]; simp, by omega, by omega, _, rfl⟩
      · have hqb : decide (d < (leastN x.toNat : Int)) = false := by simpa using hq
        rw [hqb] at HI HB
        clear hq hqb HT
        go_wp2_with fail
        refine HI.out.mono ?_
        rintro e w' ⟨rfl, m2, rfl⟩
        go_wp2_with fail
        go_roundg (n - (i + 1))
        case measure => have := HGK.out; omega
        case rel => exact ⟨i + 1, by omega, rfl, by go_num, (show _ = _ by rw [HB.out, HW.out]; rfl), ⟨_, rfl⟩⟩
    · obtain rfl : i = n := by omega
      go_wp2_with fail
      go_ret
      exact ⟨-1, rfl, by rw [HW.out]; rfl, by omega, by omega, _, rfl⟩

theorem pcontains_any (d : Int) (g : Nat) (A : Option Addr) (n c : Nat) (ls : List Int) (w : World) (hS : SlK .u32 w A n c ls) (hr : ∀ i, 0 ≤ ls.getD i 0 ∧ ls.getD i 0 < 4294967296)
    (hd : w.cell? ⟨g, 0, none⟩ = some (.int .i64 d)) (hn : n ≤ 10000) :
    Calls Tryz.prog 64 #[.slice A n c, .func (.func 62) #[] #[.pointer (some ⟨g, 0, none⟩)]] w fun e w' =>
      e = .returned (.bool (wideB d ls n)) ∧ ∃ m, w' = w.drewN m := by
  have HI := Lib.hid (pindex_any d g A n c ls w hS hr hd hn)
  clear hS hr hd
  go_enter Tryz.func64, Tryz.ntmps64
  go_wp2_with fail
  refine HI.out.mono ?_
  rintro e w' ⟨r, rfl, hw, _, _, m, rfl⟩
  have HW := Lib.hid hw
  clear hw
  go_wp2_with fail
  go_ret
  exact ⟨by rw [← HW.out]; rfl, _, rfl⟩

end Go.Proofs.YteflpbkdnebopaaGreatDoor

namespace Go.Proofs.YteflpbkdnebopaaGreatDoor
open Go.RowKit
set_option maxRecDepth 100000

theorem loN_zero {f : Nat → Int} (n : Nat) : ∀ p, (∀ t, t < n → f (p + t) = 0) → loN f p n = 0 := by
  induction n with
  | zero => intro p _; rfl
  | succ n ih =>
    intro p h
    have h0 := h 0 (by omega)
    rw [Nat.add_zero] at h0
    rw [loN, h0, ih (p + 1) fun t ht => by
      have := h (t + 1) (by omega)
      rwa [show p + (t + 1) = p + 1 + t by omega] at this]
    rfl
theorem loN_eq_zero {f : Nat → Int} (hf : ∀ q, 0 ≤ f q ∧ f q ≤ 1) {p n : Nat} (h : loN f p n = 0) (t : Nat) (ht : t < n) : f (p + t) = 0 := by
  rw [← loN_bit hf p t n ht, h]
  simp
/-- The bits that are held, with one number more behind them. -/
theorem join_num {D : Nat} {ls : List Int} {i q r : Nat} (h : 8 * q + r = D * i) (h0 : 0 ≤ ls.getD i 0) (h1 : ls.getD i 0 < 2 ^ D) :
    loN (pbit D ls) (8 * q) r + ls.getD i 0 * 2 ^ r = loN (pbit D ls) (8 * q) (r + D) := by
  rw [loN_split, h, num_loN i h0 h1, Int.mul_comm]
/-- .. and with one byte more. -/
theorem join_byte5 {xs : List Int} (hr : ∀ x ∈ xs, 0 ≤ x ∧ x < 256) {p h j : Nat} (e : p + h = 8 * j) :
    loN (lbit xs) p h + xs.getD j 0 * 2 ^ h = loN (lbit xs) p (h + 8) := by
  rw [loN_split, e, byte_loN hr, Int.mul_comm]
theorem low_bits (f : Nat → Int) (hf : ∀ q, 0 ≤ f q ∧ f q ≤ 1) (p D h : Nat) (hh : D ≤ h) : loN f p h % 2 ^ D = loN f p D ∧ loN f p h / 2 ^ D = loN f (p + D) (h - D) := by
  have e : h = D + (h - D) := by omega
  have hp : (0 : Int) < 2 ^ D := Int.pow_pos (by decide)
  have hr := loN_rng hf D p
  rw [e, loN_split, ← e]
  constructor
  · rw [Int.add_mul_emod_self_left]
    exact Int.emod_eq_of_lt hr.1 hr.2
  · rw [Int.add_mul_ediv_left _ _ (Int.ne_of_gt hp), Int.ediv_eq_zero_of_lt hr.1 hr.2, Int.zero_add]
theorem pow_le (a b : Nat) (h : a ≤ b) : (2 : Int) ^ a ≤ 2 ^ b := by
  have h1 : (2 : Nat) ^ a ≤ 2 ^ b := Nat.pow_le_pow_right (by decide) h
  exact_mod_cast h1
theorem shl_small {X : Int} {r s : Nat} (h0 : 0 ≤ X) (h1 : X < 2 ^ s) (hs : s + r ≤ 63) : IntKind.u64.wrap (X * 2 ^ r) = X * 2 ^ r ∧ 0 ≤ X * 2 ^ r ∧ X * 2 ^ r < 2 ^ 63 := by
  have hp : (0 : Int) < 2 ^ r := Int.pow_pos (by decide)
  have a0 : 0 ≤ X * 2 ^ r := Int.mul_nonneg h0 (Int.le_of_lt hp)
  have a1 : X * 2 ^ r < 2 ^ 63 := by
    have h : X * 2 ^ r < 2 ^ s * 2 ^ r := Int.mul_lt_mul_of_pos_right h1 hp
    rw [← Int.pow_add] at h
    exact Int.lt_of_lt_of_le h (pow_le _ _ hs)
  refine ⟨?_, a0, a1⟩
  rw [IntKind.wrap_u64]
  omega
theorem or_join {B X : Int} {r s : Nat} (b0 : 0 ≤ B) (b1 : B < 2 ^ r) (h0 : 0 ≤ X) (h1 : X < 2 ^ s) (hs : s + r ≤ 63) : bits .or .u64 B (X * 2 ^ r) = B + X * 2 ^ r := by
  obtain ⟨_, a0, a1⟩ := shl_small h0 h1 hs
  have hb : B < 2 ^ 63 := Int.lt_of_lt_of_le b1 (pow_le r 63 (by omega))
  have a2 : X * 2 ^ r < 2 ^ 64 := by omega
  have b2 : B < 2 ^ 64 := by omega
  exact bits_join_low .u64 64 (by decide) wraps_u64 r B (X * 2 ^ r) b0 b1 b2 a0 (Int.mul_emod_left _ _) a2
theorem mask_low {B : Int} {D : Nat} (b0 : 0 ≤ B) (b1 : B < 2 ^ 63) (hD : D ≤ 32) : bits .and .u64 B (2 ^ D - 1) = B % 2 ^ D :=
  bits_mask .u64 64 (by decide) wraps_u64 D (by omega) B b0 (by omega)

end Go.Proofs.YteflpbkdnebopaaGreatDoor

namespace Go.Proofs.YteflpbkdnebopaaGreatDoor
open Go.RowKit
set_option maxRecDepth 100000

theorem make0 (N : Nat) (hN : N ≤ 1000000) (w : World) : ∃ w', (Instr.makeSlice 25 (.int .i64 0) (.int .i64 (N : Int))).run Tryz.prog w = .ok (.slice (some ⟨w.heap.size, 0, none⟩) 0 N) w' ∧
    w'.ownsRow w.heap.size 5 1 (.slice (some ⟨w.heap.size, 0, none⟩) 0 N) 0 (([] : List Int).map (Value.int .u8)) ∧ Past w w' := by
  obtain ⟨i0, hi, hz0, hz1, hz2⟩ := info_parts info8
  obtain ⟨w', h1, h2, h3⟩ := run_make_own (P := Tryz.prog) w w.heap.size 25 5 i0 (.int .u8 0) 1 Tryz.underlying25 hi hz0 hz1 .i64 .i64 N (by rw [hz2]; omega) (by unfold maxLen; omega) (Nat.le_refl _)
  exact ⟨w', h1, h2, ⟨h3.os, h3.tape, h3.output, h3.size, fun i hi => h3.block i hi (by simp)⟩⟩

theorem rpack_none_of {d : Int} {ls : List Int} {n : Nat} (hl : ls.length = n) (hn : n ≤ 10000) (h0 : ∀ i, 0 ≤ ls.getD i 0) (h : fits d n = false ∨ wideB d ls n = true) : rpack d ls = none := by
  unfold rpack
  rw [if_pos]
  by_cases hd : d < 1
  · exact .inl hd
  by_cases hd2 : 32 < d
  · exact .inr (.inl hd2)
  refine .inr (.inr ?_)
  rcases h with h | h
  · simp [fits] at h
    omega
  · obtain ⟨i, hi, hw⟩ := List.any_eq_true.1 h
    have hw := of_decide_eq_true hw
    refine ⟨i, by rw [hl]; exact List.mem_range.1 hi, fun hlt => ?_⟩
    have h1 : (ls.getD i 0).toNat < 2 ^ d.toNat := by
      have := h0 i
      have e : ((2 ^ d.toNat : Nat) : Int) = 2 ^ d.toNat := Int.natCast_pow 2 d.toNat
      omega
    have := (leastN_le d.toNat _).2 h1
    omega
theorem rpack_some_of {D : Nat} {ls : List Int} {n : Nat} (hl : ls.length = n) (hf : fits (D : Int) n = true) (h : ∀ i, i < n → ls.getD i 0 < 2 ^ D) : rpack (D : Int) ls = some (packs D ls (nbytes D n)) := by
  have := fits_true hf
  unfold rpack
  rw [hl, Int.toNat_natCast, if_neg]
  rintro (h1 | h1 | ⟨i, h1, h2⟩)
  · omega
  · omega
  · exact h2 (h i h1)
theorem narrow {D : Nat} {ls : List Int} {n : Nat} (h0 : ∀ i, 0 ≤ ls.getD i 0) (h : wideB (D : Int) ls n = false) (i : Nat) (hi : i < n) : ls.getD i 0 < 2 ^ D := by
  have h1 := wideB_false h i hi
  have h2 := (leastN_le D (ls.getD i 0).toNat).1 (by omega)
  have e : ((2 ^ D : Nat) : Int) = 2 ^ D := Int.natCast_pow 2 D
  have := h0 i
  omega

/-- What the two loops keep: the bytes that are written, and the bits that are held. -/
def PG (D : Nat) (ls : List Int) (q : Nat) (v : Value) (w wx : World) : Prop :=
  wx.ownsRow w.heap.size 5 1 v q ((packs D ls q).map (Value.int .u8)) ∧ Past w wx

theorem PG.push {D : Nat} {ls : List Int} {q : Nat} {v v' : Value} {w wr w' : World} {o : Obj} {cc : Int} (h : PG D ls q v w wr) (hc : packs D ls (q + 1) = packs D ls q ++ [cc])
    (h1 : w'.ownsRow w.heap.size 5 1 v' (q + 1) ((packs D ls q).map (Value.int .u8) ++ [Value.int .u8 cc])) (h2 : (wr.alloc o).grownBy w' v.ownBlock) : PG D ls (q + 1) v' w w' := by
  refine ⟨?_, (h.2.trans' ((Below.refl _ _).alloc (Nat.le_refl _) _)).grown h2 (Nat.le_trans h.2.size (by simp)) (own_block_ge h.1)⟩
  rw [hc, List.map_append]
  exact h1
theorem PG.done {D : Nat} {ls : List Int} {q : Nat} {v : Value} {w0 w wx : World} (h : PG D ls q v w wx) (hp : Past w0 w) : ROpt (some (packs D ls q)) w0 (.returned (.tuple #[v, .bool true])) wx := by
  obtain ⟨A, c, rfl⟩ := own_slice h.1
  exact ⟨A, q, c, rfl, Sl.of_own h.1 (packs_rng D ls q), hp.trans' h.2⟩
/-- The last byte, if bits are left. -/
theorem last_byte {D : Nat} {ls : List Int} {q r : Nat} (hD : 0 < D) (hr : r ≤ 7) (h : 8 * q + r = D * ls.length) : IntKind.u8.wrap (loN (pbit D ls) (8 * q) r) = loN (pbit D ls) (8 * q) 8 := by
  have e : (8 : Nat) = r + (8 - r) := by omega
  have hz : loN (pbit D ls) (8 * q + r) (8 - r) = 0 := loN_zero _ _ fun t _ => pbit_far D ls _ hD (by omega)
  have hs := loN_split (pbit D ls) r (8 - r) (8 * q)
  rw [hz, ← e, Int.mul_zero, Int.add_zero] at hs
  rw [hs, IntKind.wrap_u8]
  have hb := loN_rng (pbit_rng D ls) r (8 * q)
  have h7 := pow_le r 7 hr
  have e7 : (2 : Int) ^ 7 = 128 := by decide
  omega

set_option maxHeartbeats 4000000 in
theorem ppack_any (d : Int) (A : Option Addr) (n c : Nat) (ls : List Int) (w : World) (hS : SlK .u32 w A n c ls) (hr : ∀ i, 0 ≤ ls.getD i 0 ∧ ls.getD i 0 < 4294967296) (hn : n ≤ 10000) :
    Calls Tryz.prog 50 #[.int .i64 d, .slice A n c] w (ROpt (rpack d ls) w) := by
  have hmf : ∀ (fn : Fn) (first cap : Array Value) (w : World), (Instr.makeFunc fn first cap).run Tryz.prog w = .ok (.func fn first cap) w := fun _ _ _ _ => rfl
  have HN := Lib.hid (fun h => rpack_none_of (d := d) hS.len hn (fun i => (hr i).1) h)
  have HP := fun w => Lib.hid (packable_any d n w)
  obtain ⟨w0, hw0⟩ : ∃ w0, w0 = w.alloc (.cells #[.int .i64 d] 3) := ⟨_, rfl⟩
  have hrow : Row w0 w.heap.size 3 #[.int .i64 d] := by rw [hw0]; exact Row.new _ _ _
  have hbox : w0.cell? ⟨w.heap.size, 0, none⟩ = some (.int .i64 d) := by rw [hrow.cell]; rfl
  have hpast : Past w w0 := by rw [hw0]; exact (Below.refl _ _).alloc (Nat.le_refl _) _
  have HC := Lib.hid (pcontains_any d w.heap.size A n c ls w0 (hS.past hpast) hr hbox hn)
  have HW0 := Lib.hid (And.intro hrow hpast)
  clear hrow hpast
  subst hw0
  cases hf : fits d n with
  | false =>
    have HNo : Hid (rpack d ls = none) := HN.out (.inl hf)
    simp only [hf] at HP
    clear hf hS hr HN HC
    go_enter Tryz.func50, Tryz.ntmps50
    go_wp2_with fail
    refine (HP _).out.mono ?_
    rintro e w' ⟨rfl, rfl⟩
    go_wp2_with fail
    go_ret2
    rw [HNo.out]
    exact ⟨rfl, HW0.out.2⟩
  | true =>
    have HF := Lib.hid (fits_true hf)
    cases hw : wideB d ls n with
    | true =>
      have HNo : Hid (rpack d ls = none) := HN.out (.inr hw)
      rw [hw] at HC
      simp only [hf] at HP
      clear hf hS hr HN hw
      go_enter Tryz.func50, Tryz.ntmps50
      go_wp2_with fail
      refine (HP _).out.mono ?_
      rintro e w' ⟨rfl, rfl⟩
      go_wp2_with fail
      refine HC.out.mono ?_
      rintro e w' ⟨rfl, m, rfl⟩
      go_wp2_with fail
      go_ret2
      rw [HNo.out]
      exact ⟨rfl, HW0.out.2.drewN m⟩
    | false =>
      have := fits_true hf
      obtain ⟨D, rfl⟩ : ∃ D : Nat, d = (D : Int) := ⟨d.toNat, by omega⟩
      have hlow := narrow (fun i => (hr i).1) hw
      have HSome := Lib.hid (rpack_some_of hS.len hf hlow)
      have HLOW := Lib.hid hlow
      have hnb : nbytes D n ≤ 50000 := by
        unfold nbytes
        have := Nat.mul_le_mul (show D ≤ 32 by omega) hn
        omega
      have hsz := sizeI_nat (D := D) (by omega) (by omega) n (by omega)
      have HSZ := fun w => Lib.hid (psize_any D n w)
      simp only [hsz] at HSZ
      have hD1 : 1 ≤ D := by omega
      have hD2 : D ≤ 32 := by omega
      have HS := Lib.hid (hS.past HW0.out.2)
      have HLN := Lib.hid hS.len
      have HR := Lib.hid hr
      rw [hw] at HC
      simp only [hf] at HP
      clear hlow hf hw hS hr HN hsz this HF
      go_enter Tryz.func50, Tryz.ntmps50
      go_wp2_with fail
      refine (HP _).out.mono ?_
      rintro e w' ⟨rfl, rfl⟩
      go_wp2_with fail
      refine HC.out.mono ?_
      rintro e w1 ⟨rfl, m, hw1⟩
      have hbox1 : w1.cell? ⟨w.heap.size, 0, none⟩ = some (.int .i64 (D : Int)) := by rw [hw1]; exact hbox
      have HS1 : Hid (SlK .u32 w1 A n c ls) := by rw [hw1]; exact HS.out.drewN m
      have HW1 : Hid (Past w w1 ∧ w.heap.size < w1.heap.size) := by
        rw [hw1]
        exact ⟨HW0.out.2.drewN m, HW0.out.1.lt⟩
      clear hw1 HS HC HP hbox HW0
      have hmk := make0 (nbytes D n) (by omega) w1
      obtain ⟨w2, hmk, hown2, hpast2⟩ := hmk
      have HO2 : Hid (PG D ls 0 (.slice (some ⟨w1.heap.size, 0, none⟩) 0 (nbytes D n)) w1 w2) := ⟨hown2, hpast2⟩
      have HNB : Hid (nbytes D n = (D * n + 7) / 8) := rfl
      clear hown2 hpast2
      go_wp2_with fail
      refine (HSZ _).out.mono ?_
      rintro e w' ⟨rfl, rfl⟩
      generalize nbytes D n = N at *
      go_wp2_with fail
      go_loopg [7, 8, 9, 11, 30] n (fun k s7 s8 s9 _ s30 wx => ∃ i q r : Nat, i ≤ n ∧ k = n - i ∧ r ≤ 7 ∧ s8 = .int .u64 (loN (pbit D ls) (8 * q) r) ∧ s9 = .int .i64 (r : Int) ∧ s30 = .int .i64 (i : Int) ∧ Hid (8 * q + r = D * i) ∧ Hid (PG D ls q s7 w1 wx))
      case atStart => exact ⟨0, 0, 0, Nat.zero_le _, rfl, by omega, rfl, rfl, rfl, rfl, HO2⟩
      case round =>
        clear HO2
        obtain ⟨i, q, r, hin, hgk, hr7, rfl, rfl, rfl, HQ, HO⟩ := hrel
        have HGK := Lib.hid hgk
        clear hgk hmk
        have hb1 : wr.cell? ⟨w.heap.size, 0, none⟩ = some (.int .i64 (D : Int)) := by
          have h := Below.cell (p := ⟨w.heap.size, 0, none⟩) HO.out.2 HW1.out.2
          rw [h]
          exact hbox1
        by_cases hlt : i < n
        · obtain ⟨b, o, rfl, hc⟩ := (HS1.out.past HO.out.2).cells (by omega)
          have hx := hc i hlt
          clear hc
          have hi0 : (0 : Int) ≤ (i : Int) := by omega
          have hin1 : (i : Int) < (n : Int) := by omega
          have hx0 := (HR.out i).1
          have hx1 := (HR.out i).2
          have HJ := Lib.hid (join_num HQ.out hx0 (HLOW.out i hlt))
          have hb := loN_rng (pbit_rng D ls) r (8 * q)
          obtain ⟨hs1, hs2, hs3⟩ := shl_small (r := r) (s := 32) hx0 (by omega) (by omega)
          have ho := or_join (r := r) (s := 32) hb.1 hb.2 hx0 (by omega) (by omega)
          rw [HJ.out] at ho
          have hor : Hid (bits .or .u64 (loN (pbit D ls) (8 * q) r) (IntKind.u64.wrap (ls.getD i 0 * 2 ^ r)) = loN (pbit D ls) (8 * q) (r + D)) := by
            show _ = _
            rw [hs1, ho]
          obtain ⟨T, hT⟩ : ∃ T, (r + D) / 8 = T := ⟨_, rfl⟩
          obtain ⟨r', hr'⟩ : ∃ r', (r + D) % 8 = r' := ⟨_, rfl⟩
          have hTi : ((r : Int) + (D : Int)) / 8 = (T : Int) := by omega
          have hri : ((r : Int) + (D : Int)) % 8 = (r' : Int) := by omega
          have hT5 : T ≤ 4 := by omega
          have HTR : Hid (r + D = 8 * T + r') := by show _ = _; omega
          have hr7' : r' ≤ 7 := by omega
          have hq2 : q + T ≤ 50000 := by
            have h1 := HQ.out
            have h2 := Nat.mul_le_mul (show D ≤ 32 by omega) (show i + 1 ≤ 10000 by omega)
            rw [Nat.mul_succ] at h2
            omega
          have hbm : loN (pbit D ls) (8 * q) r ≤ 128 := by
            have h := pow_le r 7 hr7
            have e : (2 : Int) ^ 7 = 128 := by decide
            omega
          have hb0 := hb.1
          clear hb HJ hT hr' hs1 hs2 hs3 ho
          have HO2 : Hid (PG D ls (q + 0) u7 w1 wr) := HO.out
          clear HO
          generalize loN (pbit D ls) (8 * q) r = B at *
          generalize ls.getD i 0 = X at *
          go_wp2_with fail
          rw [hor.out, hTi]
          go_loopg [7, 8, 45] T (fun k s7 s8 s45 wx => ∃ t : Nat, t ≤ T ∧ k = T - t ∧ s8 = .int .u64 (loN (pbit D ls) (8 * (q + t)) (r + D - 8 * t)) ∧ s45 = .int .i64 (t : Int) ∧ Hid (PG D ls (q + t) s7 w1 wx))
          case atStart => exact ⟨0, Nat.zero_le _, rfl, rfl, rfl, HO2⟩
          case round =>
            clear HO2 hb1
            obtain ⟨t, ht, hgk, rfl, rfl, HO⟩ := hrel
            have HGK2 := Lib.hid hgk
            clear hgk
            have hb1 : wr.cell? ⟨w.heap.size, 0, none⟩ = some (.int .i64 (D : Int)) := by
              have h := Below.cell (p := ⟨w.heap.size, 0, none⟩) HO.out.2 HW1.out.2
              rw [h]
              exact hbox1
            by_cases hlt2 : t < T
            · have HTR1 := HTR.out
              have hlow := low_bits (pbit D ls) (pbit_rng D ls) (8 * (q + t)) 8 (r + D - 8 * t) (by omega)
              have hlow1 : Hid (loN (pbit D ls) (8 * (q + t)) (r + D - 8 * t) / 256 = loN (pbit D ls) (8 * (q + (t + 1))) (r + D - 8 * (t + 1))) := by
                show _ = _
                rw [show 8 * (q + (t + 1)) = 8 * (q + t) + 8 by omega, show r + D - 8 * (t + 1) = r + D - 8 * t - 8 by omega]
                exact hlow.2
              have hcv : IntKind.u8.wrap (loN (pbit D ls) (8 * (q + t)) (r + D - 8 * t)) = loN (pbit D ls) (8 * (q + t)) 8 := by
                rw [IntKind.wrap_u8]
                exact hlow.1
              have HPS := Lib.hid (packs_succ D ls (q + t))
              rw [lo8_loN] at HPS
              have hb0 := loN_rng (pbit_rng D ls) (r + D - 8 * t) (8 * (q + t))
              have hb63 : loN (pbit D ls) (8 * (q + t)) (r + D - 8 * t) ≤ 9223372036854775807 := by
                have h := pow_le (r + D - 8 * t) 63 (by omega)
                have e : (2 : Int) ^ 63 = 9223372036854775808 := by decide
                omega
              have hb00 := hb0.1
              clear hlow hb0 HTR1
              generalize loN (pbit D ls) (8 * (q + t)) (r + D - 8 * t) = Bt at *
              generalize loN (pbit D ls) (8 * (q + t)) 8 = cc at *
              obtain ⟨i8, hi8, hz80, hz81, hz82⟩ := info_parts info8
              go_wp2_with (at_builtin; refine wpList_append_own _ rfl _ _ 25 rfl w1.heap.size 5 i8 (.int .u8 0) 1 1 Tryz.underlying25 hi8 hz80 hz81 hz82 rfl (by decide) _ (q + t) _ rfl (HO.out.1.alloc _) ⟨wr.heap.size, 0, none⟩ 1 1 [.int .u8 cc] rfl rfl ?c1 ?c2 ?c3 ?c4 ?c5 ?_)
              case c1 => exact one_cell wr _ _
              case c2 => simp [Value.oneCell']
              case c3 => unfold maxLen; omega
              case c4 => omega
              case c5 => exact Nat.le_trans HO.out.2.size (by simp)
              intro v' w3 hown1 hgrow1 _
              have HO3 : Hid (PG D ls (q + (t + 1)) v' w1 w3) := HO.out.push HPS.out hown1 hgrow1
              clear hown1 hgrow1 HO hb1
              go_wp2_with fail
              go_roundg (T - (t + 1))
              case rel => exact ⟨t + 1, by omega, rfl, by rw [← hlow1.out], by go_num, HO3⟩
              case measure => have := HGK2.out; omega
            · obtain rfl : t = T := by omega
              have HTR1 := HTR.out
              have e1 : r + D - 8 * t = r' := by omega
              have HQ2 : Hid (8 * (q + t) + r' = D * (i + 1)) := by
                have := HQ.out
                show _ = _
                rw [Nat.mul_succ]
                omega
              rw [e1]
              clear HTR1 e1
              go_wp2_with fail
              go_roundg (n - (i + 1))
              case rel => exact ⟨i + 1, q + t, r', by omega, rfl, hr7', rfl, by first | rfl | rw [hri], by go_num, HQ2, HO⟩
              case measure => have := HGK.out; omega
        · obtain rfl : i = n := by omega
          have hq2 : q ≤ 50000 := by
            have h1 := HQ.out
            have h2 := Nat.mul_le_mul (show D ≤ 32 by omega) hn
            omega
          by_cases hr0 : r = 0
          · subst hr0
            have HE : Hid (N = q) := by
              have h1 := HQ.out
              have h2 := HNB.out
              show _ = _
              omega
            go_wp2_with fail
            go_ret2
            rw [HSome.out, HE.out]
            exact HO.out.done HW1.out.1
          · have hr1 : (0 : Int) < (r : Int) := by omega
            have HE : Hid (N = q + 1) := by
              have h1 := HQ.out
              have h2 := HNB.out
              show _ = _
              omega
            have hcv := last_byte (ls := ls) (q := q) (r := r) (D := D) (by omega) hr7 (by rw [HLN.out]; exact HQ.out)
            have HPS := Lib.hid (packs_succ D ls q)
            rw [lo8_loN] at HPS
            have hbm : loN (pbit D ls) (8 * q) r ≤ 128 := by
              have hb := loN_rng (pbit_rng D ls) r (8 * q)
              have h := pow_le r 7 hr7
              have e : (2 : Int) ^ 7 = 128 := by decide
              omega
            have hb0 := (loN_rng (pbit_rng D ls) r (8 * q)).1
            generalize loN (pbit D ls) (8 * q) 8 = cc at *
            generalize loN (pbit D ls) (8 * q) r = B at *
            obtain ⟨i8, hi8, hz80, hz81, hz82⟩ := info_parts info8
            go_wp2_with (at_builtin; refine wpList_append_own _ rfl _ _ 25 rfl w1.heap.size 5 i8 (.int .u8 0) 1 1 Tryz.underlying25 hi8 hz80 hz81 hz82 rfl (by decide) _ q _ rfl (HO.out.1.alloc _) ⟨wr.heap.size, 0, none⟩ 1 1 [.int .u8 cc] rfl rfl ?d1 ?d2 ?d3 ?d4 ?d5 ?_)
            case d1 => exact one_cell wr _ _
            case d2 => simp [Value.oneCell']
            case d3 => unfold maxLen; omega
            case d4 => omega
            case d5 => exact Nat.le_trans HO.out.2.size (by simp)
            intro v' w3 hown1 hgrow1 _
            have HO3 : Hid (PG D ls (q + 1) v' w1 w3) := HO.out.push HPS.out hown1 hgrow1
            clear hown1 hgrow1 HO
            go_wp2_with fail
            go_ret2
            rw [HSome.out, HE.out]
            exact HO3.out.done HW1.out.1

end Go.Proofs.YteflpbkdnebopaaGreatDoor

namespace Go.Proofs.YteflpbkdnebopaaGreatDoor
open Go.RowKit
set_option maxRecDepth 100000

theorem make32 (N : Nat) (hN : N ≤ 1100000) (w : World) : (Instr.makeSlice 67 (.int .i64 (N : Int)) (.int .i64 (N : Int))).run Tryz.prog w = .ok (.slice (some ⟨w.heap.size, 0, none⟩) N N) (w.alloc (.cells (madeCells #[.int .u32 0] N) 22)) := by
  obtain ⟨i0, hi, hz0, hz1, hz2⟩ := info_parts info32
  have h := run_make (P := Tryz.prog) w 67 22 i0 (.int .u32 0) Tryz.underlying67 hi hz0 .i64 .i64 (N : Int) (N : Int) (by omega) (Int.le_refl _) (by rw [hz2]; omega) (by omega)
  rw [hz1, Nat.mul_one, Int.toNat_natCast] at h
  exact h

/-- What the loops keep: the row of numbers, of which the first i are written. -/
def UG (D : Nat) (xs : List Int) (g N i : Nat) (w wx : World) : Prop :=
  Past w wx ∧ ∃ cs : Array Value, Row wx g 22 cs ∧ cs.size = N ∧ ∀ j, j < i → cs[j]? = some (.int .u32 ((nums D xs N).getD j 0))
theorem UG.start (D : Nat) (xs : List Int) (N : Nat) (w : World) : UG D xs w.heap.size N 0 w (w.alloc (.cells (madeCells #[.int .u32 0] N) 22)) :=
  ⟨(Below.refl _ _).alloc (Nat.le_refl _) _, _, Row.new _ _ _, size_madeCells _ _, fun _ hj => absurd hj (Nat.not_lt_zero _)⟩
theorem UG.done {D : Nat} {xs : List Int} {g N : Nat} {w wx : World} (h : UG D xs g N N w wx) (hN : N ≤ 1100000) : NOpt (some (nums D xs N)) w (.returned (.tuple #[.slice (some ⟨g, 0, none⟩) N N, .bool true])) wx := by
  obtain ⟨hp, cs, hrow, _, hc⟩ := h
  refine ⟨_, N, N, rfl, ⟨nums_len D xs N, Nat.le_refl _, by unfold maxLen; omega, fun _ => ⟨g, 0, rfl, fun j hj => ?_⟩, fun e => by cases e⟩, hp⟩
  rw [Nat.zero_add, hrow.cell]
  exact hc j hj

theorem UG.old {D : Nat} {xs : List Int} {g N i : Nat} {w wx : World} (h : UG D xs g N i w wx) (hi : i < N) : (∃ old, wx.cell? ⟨g, i, none⟩ = some old) ∧ wx.frozen? ⟨g, i, none⟩ = false := by
  obtain ⟨_, cs, hrow, hs, _⟩ := h
  exact ⟨⟨cs[i]'(by omega), by rw [hrow.cell, Array.getElem?_eq_getElem (by omega)]⟩, hrow.fr i⟩
theorem UG.set {D : Nat} {xs : List Int} {g N i : Nat} {w wx : World} (h : UG D xs g N i w wx) (hi : i < N) (hg : w.heap.size ≤ g) : UG D xs g N (i + 1) w (wx.setCell ⟨g, i, none⟩ (.int .u32 (loN (lbit xs) (D * i) D))) := by
  obtain ⟨hp, cs, hrow, hs, hc⟩ := h
  refine ⟨past_of_only hp (only_setCell (only_of_past (Below.refl _ _) (some g)) (.inl rfl) _) hp.size hg, _, hrow.set i _, by simp [hs], fun j hj => ?_⟩
  by_cases he : j = i
  · subst he
    rw [Array.getElem?_setIfInBounds_self_of_lt (by omega), nums_at D xs N j hi]
  · rw [Array.getElem?_setIfInBounds_ne (by omega)]
    exact hc j (by omega)

theorem runpack_none_of {d n : Int} {xs : List Int} (h : fits d n = false ∨ (xs.length : Int) ≠ sizeI d n) : runpack d n xs = none := by
  unfold runpack
  rw [if_pos]
  rcases h with h | h
  · simp [fits] at h
    omega
  · exact .inr (.inr (.inr (.inr (.inl h))))

theorem runpack_some_of {D N r : Nat} {xs : List Int} (hf : fits (D : Int) (N : Int) = true) (hz : (xs.length : Int) = sizeI D N) (he : D * N + r = 8 * xs.length) (h : ∀ t, t < r → lbit xs (D * N + t) = 0) :
    runpack (D : Int) (N : Int) xs = some (nums D xs N) := by
  have := fits_true hf
  unfold runpack
  rw [Int.toNat_natCast, Int.toNat_natCast, if_neg]
  rintro (h1 | h1 | h1 | h1 | h1 | ⟨p, h1, h2, h3⟩)
  · omega
  · omega
  · omega
  · omega
  · exact h1 hz
  · refine h3 ?_
    have := h (p - D * N) (by omega)
    rwa [show D * N + (p - D * N) = p by omega] at this
theorem runpack_none_bits {D N r : Nat} {xs : List Int} (he : D * N + r = 8 * xs.length) (h : loN (lbit xs) (D * N) r ≠ 0) : runpack (D : Int) (N : Int) xs = none := by
  unfold runpack
  rw [Int.toNat_natCast, Int.toNat_natCast, if_pos]
  refine .inr (.inr (.inr (.inr (.inr ?_))))
  refine Classical.byContradiction fun hn => h (loN_zero _ _ fun t ht => ?_)
  exact Classical.byContradiction fun hne => hn ⟨D * N + t, by omega, by omega, hne⟩

set_option maxHeartbeats 4000000 in
theorem punpack_any (d n : Int) (A : Option Addr) (L c : Nat) (xs : List Int) (w : World) (hS : Sl w A L c xs) (hL : L ≤ 10000) :
    Calls Tryz.prog 48 #[.int .i64 d, .int .i64 n, .slice A L c] w (NOpt (runpack d n xs) w) := by
  have HN := Lib.hid (fun h => runpack_none_of (d := d) (n := n) (xs := xs) h)
  have HP := fun w => Lib.hid (packable_any d n w)
  have HSZ := fun w => Lib.hid (psize_any d n w)
  have hlen := hS.len
  cases hf : fits d n with
  | false =>
    have HNo : Hid (runpack d n xs = none) := HN.out (.inl hf)
    simp only [hf] at HP
    clear hf hS HN
    go_enter Tryz.func48, Tryz.ntmps48
    go_wp2_with fail
    refine (HP _).out.mono ?_
    rintro e w' ⟨rfl, rfl⟩
    go_wp2_with fail
    go_ret2
    rw [HNo.out]
    exact ⟨rfl, Below.refl _ _⟩
  | true =>
    by_cases hz : (L : Int) = sizeI d n
    · have hff := fits_true hf
      obtain ⟨D, rfl⟩ : ∃ D : Nat, d = (D : Int) := ⟨d.toNat, by omega⟩
      obtain ⟨N, rfl⟩ : ∃ N : Nat, n = (N : Int) := ⟨n.toNat, by omega⟩
      have hsz := sizeI_nat (D := D) (by omega) (by omega) N (by omega)
      have HLN : Hid (L = nbytes D N) := by
        show _ = _
        omega
      have hD1 : 1 ≤ D := by omega
      have hD2 : D ≤ 32 := by omega
      have hN1 : N ≤ 1048576 := by omega
      rw [← hz] at HSZ
      simp only [hf] at HP
      have HS := Lib.hid hS
      have HXL := Lib.hid hlen
      have HFZ := Lib.hid (And.intro hf hz)
      have hmk := make32 N (by omega) w
      obtain ⟨g, hg⟩ : ∃ g, g = w.heap.size := ⟨_, rfl⟩
      have HO0 := Lib.hid (UG.start D xs N w)
      rw [← hg] at hmk HO0
      have HLB : Hid (L = (D * N + 7) / 8) := HLN.out
      have HG : Hid (w.heap.size ≤ g) := Nat.le_of_eq hg.symm
      clear hf hz hS HN hsz hff hlen hg HLN
      go_enter Tryz.func48, Tryz.ntmps48
      go_wp2_with fail
      refine (HP _).out.mono ?_
      rintro e w' ⟨rfl, rfl⟩
      go_wp2_with fail
      refine (HSZ _).out.mono ?_
      rintro e w' ⟨rfl, rfl⟩
      go_wp2_with fail
      clear hmk HSZ HP
      go_loopg [9, 10, 11, 12, 28] N (fun k s9 s10 s11 _ s28 wx => ∃ i r x : Nat, i ≤ N ∧ k = N - i ∧ r ≤ 7 ∧ s9 = .int .u64 (loN (lbit xs) (D * i) r) ∧ s10 = .int .i64 (r : Int) ∧ s11 = .int .i64 (x : Int) ∧ s28 = .int .i64 (i : Int) ∧ Hid (D * i + r = 8 * x) ∧ Hid (UG D xs g N i w wx))
      case atStart => exact ⟨0, 0, 0, Nat.zero_le _, rfl, by omega, rfl, rfl, rfl, rfl, rfl, HO0⟩
      case round =>
        clear HO0
        obtain ⟨i, r, x, hin, hgk, hr7, rfl, rfl, rfl, rfl, HQ, HO⟩ := hrel
        have HGK := Lib.hid hgk
        clear hgk
        by_cases hlt : i < N
        · have hi0 : (0 : Int) ≤ (i : Int) := by omega
          have hin1 : (i : Int) < (N : Int) := by omega
          go_wp2_with fail
          go_loopg [9, 10, 11] (D + 8 - r) (fun k s9 s10 s11 wx => ∃ h y : Nat, h ≤ D + 7 ∧ k = D + 8 - h ∧ s9 = .int .u64 (loN (lbit xs) (D * i) h) ∧ s10 = .int .i64 (h : Int) ∧ s11 = .int .i64 (y : Int) ∧ wx = wr ∧ Hid (D * i + h = 8 * y))
          case atStart => exact ⟨r, x, by omega, by omega, rfl, rfl, rfl, rfl, HQ⟩
          case round =>
            clear HQ
            obtain ⟨h, y, hh7, hgk, rfl, rfl, rfl, rfl, HQ⟩ := hrel
            have HGK2 := Lib.hid hgk
            clear hgk
            by_cases hlt2 : h < D
            · have hy : y < L := by
                have h1 := Nat.mul_le_mul_left D (show i + 1 ≤ N by omega)
                rw [Nat.mul_succ] at h1
                have h2 := HQ.out
                have h3 := HLB.out
                omega
              obtain ⟨b, o, rfl, hc⟩ := (HS.out.past HO.out.1).bytes (by omega)
              have hx := hc y hy
              clear hc
              have hy0 : (0 : Int) ≤ (y : Int) := by omega
              have hyL : (y : Int) < (L : Int) := by omega
              have hh1 : (h : Int) < (D : Int) := by omega
              obtain ⟨hx0, hx1⟩ := getD_rng8 HS.out.rng y
              have hb := loN_rng (lbit_rng xs) h (D * i)
              have HJ := Lib.hid (join_byte5 HS.out.rng HQ.out)
              obtain ⟨hs1, _, _⟩ := shl_small (r := h) (s := 8) hx0 hx1 (by omega)
              have ho := or_join (r := h) (s := 8) hb.1 hb.2 hx0 hx1 (by omega)
              rw [HJ.out] at ho
              replace ho := Lib.hid ho
              have hb0 := hb.1
              have hbm : loN (lbit xs) (D * i) h ≤ 4294967296 := by
                have h1 := pow_le h 32 (by omega)
                have e : (2 : Int) ^ 32 = 4294967296 := by decide
                omega
              have HQ2 : Hid (D * i + (h + 8) = 8 * (y + 1)) := by
                have := HQ.out
                show _ = _
                omega
              clear hb HJ hs1 HQ
              generalize loN (lbit xs) (D * i) h = B at *
              generalize xs.getD y 0 = X at *
              go_wp2_with fail
              go_roundg (D + 8 - (h + 8))
              case rel => exact ⟨h + 8, y + 1, by omega, rfl, by rw [← ho.out], by go_num, by go_num, rfl, HQ2⟩
              case measure => have := HGK2.out; omega
            · have hh1 : (D : Int) ≤ (h : Int) := by omega
              obtain ⟨⟨old, hold⟩, hfr⟩ := HO.out.old hlt
              have HO2 := Lib.hid (HO.out.set hlt HG.out)
              obtain ⟨hl1, hl2⟩ := low_bits (lbit xs) (lbit_rng xs) (D * i) D h (by omega)
              have hb0 := (loN_rng (lbit_rng xs) h (D * i)).1
              have hb1 : loN (lbit xs) (D * i) h < 2 ^ 63 := Int.lt_of_lt_of_le (loN_rng (lbit_rng xs) h (D * i)).2 (pow_le h 63 (by omega))
              have hm := mask_low hb0 hb1 hD2
              rw [hl1] at hm
              have hval : Hid (bits .and .u64 (loN (lbit xs) (D * i) h) (IntKind.u64.wrap (IntKind.u64.wrap (2 ^ D) - 1)) % 4294967296 = loN (lbit xs) (D * i) D) := by
                have hp0 : (0 : Int) < 2 ^ D := Int.pow_pos (by decide)
                have hp1 := pow_le D 32 hD2
                have e : (2 : Int) ^ 32 = 4294967296 := by decide
                have hr := loN_rng (lbit_rng xs) D (D * i)
                show _ = _
                have hw1 : IntKind.u64.wrap (2 ^ D) = 2 ^ D := wraps_u64 _ (by omega) (by omega)
                have hw2 : IntKind.u64.wrap (2 ^ D - 1) = 2 ^ D - 1 := wraps_u64 _ (by omega) (by omega)
                rw [hw1, hw2, hm, Int.emod_eq_of_lt hr.1 (by omega)]
              have HQ2 : Hid (D * (i + 1) + (h - D) = 8 * y) := by
                have := HQ.out
                show _ = _
                rw [Nat.mul_succ]
                omega
              have HL2 := Lib.hid hl2
              clear hm hl1 hl2
              go_wp2_with fail
              rw [hval.out]
              go_roundg (N - (i + 1))
              case rel => exact ⟨i + 1, h - D, y, by omega, rfl, by omega, by rw [HL2.out]; rfl, congrArg (Value.int .i64) (by omega), rfl, by go_num, HQ2, HO2⟩
              case measure => have := HGK.out; omega
        · obtain rfl : i = N := by omega
          have HE : Hid (D * i + r = 8 * xs.length) := by
            have h1 := HQ.out
            have h2 := HLB.out
            have h3 := HXL.out
            show _ = _
            omega
          have hb0 := (loN_rng (lbit_rng xs) r (D * i)).1
          by_cases hB : loN (lbit xs) (D * i) r = 0
          · have HSome : Hid (runpack (D : Int) (i : Int) xs = some (nums D xs i)) := runpack_some_of HFZ.out.1 (by rw [HXL.out]; exact HFZ.out.2) HE.out (loN_eq_zero (lbit_rng xs) hB)
            generalize loN (lbit xs) (D * i) r = B at *
            subst hB
            go_wp2_with fail
            go_ret2
            rw [HSome.out]
            exact HO.out.done (by omega)
          · have HNo : Hid (runpack (D : Int) (i : Int) xs = none) := runpack_none_bits HE.out hB
            generalize loN (lbit xs) (D * i) r = B at *
            have hBb : (B != 0) = true := by simpa using hB
            clear hB
            go_wp2_with fail
            go_ret2
            rw [HNo.out]
            exact ⟨rfl, HO.out.1⟩
    · have HNo : Hid (runpack d n xs = none) := HN.out (.inr (by rw [hlen]; exact hz))
      simp only [hf] at HP
      generalize sizeI d n = z at *
      have hzb : ((L : Int) != z) = true := by simpa using hz
      clear hf hS HN hz
      go_enter Tryz.func48, Tryz.ntmps48
      go_wp2_with fail
      refine (HP _).out.mono ?_
      rintro e w' ⟨rfl, rfl⟩
      go_wp2_with fail
      refine (HSZ _).out.mono ?_
      rintro e w' ⟨rfl, rfl⟩
      go_wp2_with fail
      go_ret2
      rw [HNo.out]
      exact ⟨rfl, Below.refl _ _⟩

end Go.Proofs.YteflpbkdnebopaaGreatDoor
