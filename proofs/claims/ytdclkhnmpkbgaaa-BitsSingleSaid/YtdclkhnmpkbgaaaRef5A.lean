/- Contracts of the reference of packed numbers: how many bits a number needs, how many bytes a packing has, the bits of bytes. -/
import Derived.Test.YtdclkhnmpkbgaaaRows
import Derived.Test.YtdclkhnmpkbgaaaBase
import Derived.Deep.QuietTactic
import Derived.BigQuiet
import Derived.Deep.LoopGhost
import Derived.Laws.AppendOwn
import Derived.Outline
namespace Go.Proofs.Ytdclkhnmpkbgaaa
open Go.RowKit

/-- The least number of bits. -/
def leastN (x : Nat) : Nat := if x = 0 then 0 else leastN (x / 2) + 1
termination_by x
decreasing_by omega
theorem leastN_zero : leastN 0 = 0 := by rw [leastN, if_pos rfl]
theorem leastN_pos {x : Nat} (h : x ≠ 0) : leastN x = leastN (x / 2) + 1 := by rw [leastN, if_neg h]
theorem leastN_le (d : Nat) : ∀ x, leastN x ≤ d ↔ x < 2 ^ d := by
  induction d with
  | zero =>
    intro x
    by_cases h : x = 0
    · subst h; rw [leastN_zero]; simp
    · rw [leastN_pos h]; simp; omega
  | succ d ih =>
    intro x
    by_cases h : x = 0
    · subst h; rw [leastN_zero]; simp [Nat.pow_pos]
    · rw [leastN_pos h, Nat.pow_succ]
      have := ih (x / 2)
      omega

theorem rleast_any (x : Nat) (w : World) (hx : x < 4294967296) : Calls Try.prog 19 #[.int .u32 (x : Int)] w fun e w' => e = .returned (.int .i64 (leastN x : Int)) ∧ w = w' := by
  have h32 := (leastN_le 32 x).2 (by omega)
  go_enter Try.func19, Try.ntmps19
  go_wp2
  go_loop [0, 3] (fun s0 s2 => ∃ y n : Nat, y ≤ x ∧ s0 = .int .u32 (y : Int) ∧ s2 = .int .i64 (n : Int) ∧ Hid (n + leastN y = leastN x)) (fun s0 _ => (intOf s0).toNat)
  case atStart => exact ⟨x, 0, Nat.le_refl _, rfl, rfl, Nat.zero_add _⟩
  case round =>
    obtain ⟨y, n, hy, rfl, rfl, HN⟩ := hrel
    have hn : n ≤ 32 := by have := HN.out; omega
    by_cases h0 : y = 0
    · subst h0
      have HN2 : Hid (n = leastN x) := by
        have h := HN.out
        rwa [leastN_zero] at h
      clear HN
      go_wp2
      go_ret
      exact ⟨by rw [← HN2.out]; rfl, rfl⟩
    · have HN2 : Hid (n + 1 + leastN (y / 2) = leastN x) := by
        have h := HN.out
        rw [leastN_pos h0] at h
        show _ = _
        omega
      have h1 : 0 < y := by omega
      clear HN h0
      go_wp2
      go_round
      case rel => exact ⟨y / 2, n + 1, by omega, by first | rfl | go_num, by go_num, HN2⟩
      case measure => simp [intOf]; omega

def sizeI (d n : Int) : Int := if d < 1 ∨ 32 < d ∨ n < 0 ∨ 1048576 < n then 0 else (d * n + 7) / 8
theorem rsize_any (d n : Int) (w : World) : Calls Try.prog 16 #[.int .i64 d, .int .i64 n] w fun e w' => e = .returned (.int .i64 (sizeI d n)) ∧ w = w' := by
  by_cases h : d < 1 ∨ 32 < d ∨ n < 0 ∨ 1048576 < n
  · have hs : sizeI d n = 0 := by unfold sizeI; rw [if_pos h]
    rw [hs]
    clear hs
    by_cases h1 : d < 1
    · clear h
      go_enter Try.func16, Try.ntmps16
      go_wp2
      go_ret
      exact ⟨rfl, rfl⟩
    · by_cases h2 : 32 < d
      · clear h
        go_enter Try.func16, Try.ntmps16
        go_wp2
        go_ret
        exact ⟨rfl, rfl⟩
      · by_cases h3 : n < 0
        · clear h
          go_enter Try.func16, Try.ntmps16
          go_wp2
          go_ret
          exact ⟨rfl, rfl⟩
        · have h4 : 1048576 < n := by omega
          clear h
          go_enter Try.func16, Try.ntmps16
          go_wp2
          go_ret
          exact ⟨rfl, rfl⟩
  · have hs : sizeI d n = (d * n + 7) / 8 := by unfold sizeI; rw [if_neg h]
    have HS := Lib.hid hs
    have d1 : 1 ≤ d := by omega
    have d2 : d ≤ 32 := by omega
    have n1 : 0 ≤ n := by omega
    have n2 : n ≤ 1048576 := by omega
    have p1 : 0 ≤ d * n := Int.mul_nonneg (by omega) n1
    have p2 : d * n ≤ 33554432 := by
      have h1 : d * n ≤ 32 * n := Int.mul_le_mul_of_nonneg_right d2 n1
      omega
    clear h hs
    by_cases h8 : 0 < d * n % 8
    · have HQ : Hid ((d * n + 7) / 8 = d * n / 8 + 1) := by
        show _ = _
        generalize d * n = p at *
        omega
      go_enter Try.func16, Try.ntmps16
      go_wp2
      go_ret
      exact ⟨by rw [HS.out, HQ.out]; rfl, rfl⟩
    · have HQ : Hid ((d * n + 7) / 8 = d * n / 8) := by
        show _ = _
        generalize d * n = p at *
        omega
      go_enter Try.func16, Try.ntmps16
      go_wp2
      go_ret
      exact ⟨by rw [HS.out, HQ.out]; rfl, rfl⟩

/-- Bit p of bytes, the lowest one of each byte first. -/
def lbit (xs : List Int) (p : Nat) : Int := xs.getD (p / 8) 0 / 2 ^ (p % 8) % 2
def lbits (xs : List Int) (p : Nat) : List Int := (List.range p).map (lbit xs)
theorem lbits_len (xs : List Int) (p : Nat) : (lbits xs p).length = p := by simp [lbits]
theorem lbits_succ (xs : List Int) (p : Nat) : lbits xs (p + 1) = lbits xs p ++ [lbit xs p] := by simp [lbits, List.range_succ]
theorem lbit_in (xs : List Int) (i t : Nat) (ht : t < 8) : lbit xs (8 * i + t) = xs.getD i 0 / 2 ^ t % 2 := by
  unfold lbit
  rw [show (8 * i + t) / 8 = i by omega, show (8 * i + t) % 8 = t by omega]
theorem half_pow (y : Int) (t : Nat) : y / 2 ^ t / 2 = y / 2 ^ (t + 1) := by
  rw [Int.pow_succ, Int.ediv_ediv_of_nonneg (by exact Int.le_of_lt (Int.pow_pos (by decide)))]

theorem info64 : (Try.prog.info? 3).map (fun i => (i.zero, i.size, i.bytes)) = some (some (.int .i64 0), 1, 8) := by kernel_rfl
theorem own_block_ge {w : World} {base : Nat} {e : TypeId} {size : Nat} {v : Value} {n : Nat} {xs : List Value} (h : w.ownsRow base e size v n xs) : ∀ g, v.ownBlock = some g → base ≤ g := by
  intro g hg
  rcases h.2 with ⟨h1, _⟩ | ⟨b, cap, cur, h1, h2, _⟩
  · subst h1
    cases hg
  · subst h1
    cases hg
    exact h2
theorem one_cell (w : World) (e : TypeId) (u : Value) : ∀ j v, [u][j]? = some v → (w.alloc (.cells #[u] e)).cell? ((⟨w.heap.size, 0, none⟩ : Addr).add j) = some v := by
  intro j v hj
  cases j with
  | zero =>
    simp at hj
    subst hj
    rw [add_none, World.cell?_alloc_new]
    rfl
  | succ j => simp at hj

set_option maxHeartbeats 2000000 in
theorem rbits_any (A : Option Addr) (n c : Nat) (xs : List Int) (w : World) (hS : Sl w A n c xs) (hn : n ≤ 10000000) :
    Calls Try.prog 23 #[.slice A n c] w fun e w' => ∃ v, e = .returned v ∧ w'.ownsRow w.heap.size 3 1 v (8 * n) ((lbits xs (8 * n)).map (Value.int .i64)) ∧ Past w w' := by
  have HS := Lib.hid hS
  obtain ⟨i0, hi, hz0, hz1, hz2⟩ := info_parts info64
  clear hS
  go_enter Try.func23, Try.ntmps23
  go_wp2
  go_loopg [3, 4] n (fun k s3 s4 wx => ∃ i : Nat, i ≤ n ∧ k = n - i ∧ s4 = .int .i64 (i : Int) ∧ Hid (wx.ownsRow w.heap.size 3 1 s3 (8 * i) ((lbits xs (8 * i)).map (Value.int .i64)) ∧ Past w wx))
  case atStart => exact ⟨0, Nat.zero_le _, rfl, rfl, ⟨rfl, .inl ⟨rfl, rfl⟩⟩, Below.refl _ _⟩
  case round =>
    obtain ⟨i, hin, hgk, rfl, HO⟩ := hrel
    have HGK := Lib.hid hgk
    clear hgk
    obtain ⟨wo, rfl⟩ : ∃ wo : World, wo = wr := ⟨_, rfl⟩
    by_cases hlt : i < n
    · obtain ⟨b, o, rfl, hc⟩ := (HS.out.past HO.out.2).bytes (by omega)
      have hx := hc i hlt
      have hi0 : (0 : Int) ≤ (i : Int) := by omega
      have hin1 : (i : Int) < (n : Int) := by omega
      obtain ⟨hr0, hr1⟩ := HS.out.rng (xs.getD i 0) (by
        have := HS.out.len
        rw [List.getD_eq_getElem?_getD, List.getElem?_eq_getElem (by omega)]
        exact List.getElem_mem _)
      have HBT := Lib.hid (fun t ht => lbit_in xs i t ht)
      clear hc
      generalize xs.getD i 0 = y at hx hr0 hr1 HBT
      have hy0 : y = y / 2 ^ 0 := by simp
      have HY0 := Lib.hid hy0
      clear hy0
      go_wp2
      go_loopg [3, 5, 6] 8 (fun k s3 s5 s6 wx => ∃ t : Nat, t ≤ 8 ∧ k = 8 - t ∧ s5 = .int .i64 (y / 2 ^ t) ∧ s6 = .int .i64 (t : Int) ∧ Hid (wx.ownsRow w.heap.size 3 1 s3 (8 * i + t) ((lbits xs (8 * i + t)).map (Value.int .i64)) ∧ Past w wx))
      case atStart => exact ⟨0, by omega, rfl, by rw [← HY0.out], rfl, HO⟩
      case round =>
        clear HO
        obtain ⟨t, ht, hgk, rfl, rfl, HO⟩ := hrel
        have HGK2 := Lib.hid hgk
        clear hgk
        by_cases hlt2 : t < 8
        · have hz0' : 0 ≤ y / 2 ^ t := Int.ediv_nonneg hr0 (by exact Int.le_of_lt (Int.pow_pos (by decide)))
          have hz1' : y / 2 ^ t ≤ y := Int.ediv_le_self _ hr0
          have HB := Lib.hid (lbits_succ xs (8 * i + t))
          have HH := Lib.hid (half_pow y t)
          have HL : Hid (lbit xs (8 * i + t) = y / 2 ^ t % 2) := HBT.out t hlt2
          generalize y / 2 ^ t = z at *
          have hz2' : z < 256 := by omega
          go_wp2_with (at_builtin; refine wpList_append_own _ rfl _ _ 48 rfl w.heap.size 3 i0 (.int .i64 0) 1 8 Try.underlying48 hi hz0 hz1 hz2 rfl (by decide) _ (8 * i + t) _ rfl (HO.out.1.alloc _) ⟨wr.heap.size, 0, none⟩ 1 1 [.int .i64 (z % 2)] rfl rfl ?c1 ?c2 ?c3 ?c4 ?c5 ?_)
          case c1 => exact one_cell wr _ _
          case c2 => simp [Value.oneCell']
          case c3 => unfold maxLen; omega
          case c4 => omega
          case c5 => exact Nat.le_trans HO.out.2.size (by simp)
          intro v' w1 hown1 hgrow1 _
          have HO2 : Hid (w1.ownsRow w.heap.size 3 1 v' (8 * i + (t + 1)) ((lbits xs (8 * i + (t + 1))).map (Value.int .i64)) ∧ Past w w1) := by
            have e : 8 * i + (t + 1) = 8 * i + t + 1 := by omega
            rw [e, HB.out, List.map_append, HL.out]
            exact ⟨hown1, (HO.out.2.trans' ((Below.refl _ _).alloc (Nat.le_refl _) _)).grown hgrow1 (Nat.le_trans HO.out.2.size (by simp)) (own_block_ge HO.out.1)⟩
          clear hown1 hgrow1 HO
          go_wp2
          go_roundg (8 - (t + 1))
          case rel => exact ⟨t + 1, by omega, rfl, by rw [← HH.out], by go_num, HO2⟩
          case measure => have := HGK2.out; omega
        · obtain rfl : t = 8 := by omega
          go_wp2
          go_roundg (n - (i + 1))
          case rel => exact ⟨i + 1, by omega, rfl, by go_num, HO⟩
          case measure => have := HGK.out; omega
    · obtain rfl : i = n := by omega
      go_wp2
      go_ret
      exact ⟨_, rfl, HO.out⟩

end Go.Proofs.Ytdclkhnmpkbgaaa
