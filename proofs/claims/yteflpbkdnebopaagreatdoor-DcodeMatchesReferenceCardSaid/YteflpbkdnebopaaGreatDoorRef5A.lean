/- Contracts of the reference of packed numbers: how many bits a number needs, how many bytes a packing has, the bits of bytes. Contract of the reference of packed numbers: the packing. Contracts of the reference of packed numbers: Same, and the unpacking. -/
import Derived.Test.YteflpbkdnebopaaGreatDoorRows
import Derived.Test.YteflpbkdnebopaaGreatDoorBase
import Derived.Deep.QuietTactic
import Derived.BigQuiet
import Derived.Deep.LoopGhost
import Derived.Laws.AppendOwn
import Derived.Outline
namespace Go.Proofs.YteflpbkdnebopaaGreatDoor
open Go.RowKit
set_option maxRecDepth 100000

/-- The least number of bits. -/
def leastN (x : Nat) : Nat := if x = 0 then 0 else leastN (x / 2) + 1
termination_by x
decreasing_by omega
theorem leastN_zero : leastN 0 = 0 := by rw [leastN, if_pos rfl]
theorem leastN_pos {x : Nat} (h : x ≠ 0) : leastN x = leastN (x / 2) + 1 := by rw [leastN, if_neg h]
theorem leastN_le (d : Nat) : ∀ x, leastN x ≤ d ↔ x < 2 ^ d := by
  induction d with
  | zero =>
    intro x
    by_cases h : x = 0
    · subst h; rw [leastN_zero]; simp
    · rw [leastN_pos h]; simp; omega
  | succ d ih =>
    intro x
    by_cases h : x = 0
    · subst h; rw [leastN_zero]; simp [Nat.pow_pos]
    · rw [leastN_pos h, Nat.pow_succ]
      have := ih (x / 2)
      omega

theorem rleast_any (x : Nat) (w : World) (hx : x < 4294967296) : Calls Tryz.prog 51 #[.int .u32 (x : Int)] w fun e w' => e = .returned (.int .i64 (leastN x : Int)) ∧ w = w' := by
  have h32 := (leastN_le 32 x).2 (by omega)
  go_enter Tryz.func51, Tryz.ntmps51
  go_wp2
  go_loop [0, 3] (fun s0 s2 => ∃ y n : Nat, y ≤ x ∧ s0 = .int .u32 (y : Int) ∧ s2 = .int .i64 (n : Int) ∧ Hid (n + leastN y = leastN x)) (fun s0 _ => (intOf s0).toNat)
  case atStart => exact ⟨x, 0, Nat.le_refl _, rfl, rfl, Nat.zero_add _⟩
  case round =>
    obtain ⟨y, n, hy, rfl, rfl, HN⟩ := hrel
    have hn : n ≤ 32 := by have := HN.out; omega
    by_cases h0 : y = 0
    · subst h0
      have HN2 : Hid (n = leastN x) := by
        have h := HN.out
        rwa [leastN_zero] at h
      clear HN
      go_wp2
      go_ret
      exact ⟨by rw [← HN2.out]; rfl, rfl⟩
    · have HN2 : Hid (n + 1 + leastN (y / 2) = leastN x) := by
        have h := HN.out
        rw [leastN_pos h0] at h
        show _ = _
        omega
      have h1 : 0 < y := by omega
      clear HN h0
      go_wp2
      go_round
      case rel => exact ⟨y / 2, n + 1, by omega, by first | rfl | go_num, by go_num, HN2⟩
      case measure => simp [intOf]; omega

def sizeI (d n : Int) : Int := if d < 1 ∨ 32 < d ∨ n < 0 ∨ 1048576 < n then 0 else (d * n + 7) / 8
theorem rsize_any (d n : Int) (w : World) : Calls Tryz.prog 54 #[.int .i64 d, .int .i64 n] w fun e w' => e = .returned (.int .i64 (sizeI d n)) ∧ w = w' := by
  by_cases h : d < 1 ∨ 32 < d ∨ n < 0 ∨ 1048576 < n
  · have hs : sizeI d n = 0 := by unfold sizeI; rw [if_pos h]
    rw [hs]
    clear hs
    by_cases h1 : d < 1
    · clear h
      go_enter Tryz.func54, Tryz.ntmps54
      go_wp2
      go_ret
      exact ⟨rfl, rfl⟩
    · by_cases h2 : 32 < d
      · clear h
        go_enter Tryz.func54, Tryz.ntmps54
        go_wp2
        go_ret
        exact ⟨rfl, rfl⟩
      · by_cases h3 : n < 0
        · clear h
          go_enter Tryz.func54, Tryz.ntmps54
          go_wp2
          go_ret
          exact ⟨rfl, rfl⟩
        · have h4 : 1048576 < n := by omega
          clear h
          go_enter Tryz.func54, Tryz.ntmps54
          go_wp2
          go_ret
          exact ⟨rfl, rfl⟩
  · have hs : sizeI d n = (d * n + 7) / 8 := by unfold sizeI; rw [if_neg h]
    have HS := Lib.hid hs
    have d1 : 1 ≤ d := by omega
    have d2 : d ≤ 32 := by omega
    have n1 : 0 ≤ n := by omega
    have n2 : n ≤ 1048576 := by omega
    have p1 : 0 ≤ d * n := Int.mul_nonneg (by omega) n1
    have p2 : d * n ≤ 33554432 := by
      have h1 : d * n ≤ 32 * n := Int.mul_le_mul_of_nonneg_right d2 n1
      omega
    clear h hs
    by_cases h8 : 0 < d * n % 8
    · have HQ : Hid ((d * n + 7) / 8 = d * n / 8 + 1) := by
        show _ = _
        generalize d * n = p at *
        omega
      go_enter Tryz.func54, Tryz.ntmps54
      go_wp2
      go_ret
      exact ⟨by rw [HS.out, HQ.out]; rfl, rfl⟩
    · have HQ : Hid ((d * n + 7) / 8 = d * n / 8) := by
        show _ = _
        generalize d * n = p at *
        omega
      go_enter Tryz.func54, Tryz.ntmps54
      go_wp2
      go_ret
      exact ⟨by rw [HS.out, HQ.out]; rfl, rfl⟩

/-- Bit p of bytes, the lowest one of each byte first. -/
def lbit (xs : List Int) (p : Nat) : Int := xs.getD (p / 8) 0 / 2 ^ (p % 8) % 2
def lbits (xs : List Int) (p : Nat) : List Int := (List.range p).map (lbit xs)
theorem lbits_len (xs : List Int) (p : Nat) : (lbits xs p).length = p := by simp [lbits]
theorem lbits_succ (xs : List Int) (p : Nat) : lbits xs (p + 1) = lbits xs p ++ [lbit xs p] := by simp [lbits, List.range_succ]
theorem lbit_in (xs : List Int) (i t : Nat) (ht : t < 8) : lbit xs (8 * i + t) = xs.getD i 0 / 2 ^ t % 2 := by
  unfold lbit
  rw [show (8 * i + t) / 8 = i by omega, show (8 * i + t) % 8 = t by omega]
theorem half_pow (y : Int) (t : Nat) : y / 2 ^ t / 2 = y / 2 ^ (t + 1) := by
  rw [Int.pow_succ, Int.ediv_ediv_of_nonneg (by exact Int.le_of_lt (Int.pow_pos (by decide)))]

theorem info64 : (Tryz.prog.info? 3).map (fun i => (i.zero, i.size, i.bytes)) = some (some (.int .i64 0), 1, 8) := by kernel_rfl
theorem own_block_ge {w : World} {base : Nat} {e : TypeId} {size : Nat} {v : Value} {n : Nat} {xs : List Value} (h : w.ownsRow base e size v n xs) : ∀ g, v.ownBlock = some g → base ≤ g := by
  intro g hg
  rcases h.2 with ⟨h1, _⟩ | ⟨b, cap, cur, h1, h2, _⟩
  · subst h1
    cases hg
  · subst h1
    cases hg
    exact h2
theorem one_cell (w : World) (e : TypeId) (u : Value) : ∀ j v, [u][j]? = some v → (w.alloc (.cells #[u] e)).cell? ((⟨w.heap.size, 0, none⟩ : Addr).add j) = some v := by
  intro j v hj
  cases j with
  | zero =>
    simp at hj
    subst hj
    rw [add_none, World.cell?_alloc_new]
    rfl
  | succ j => simp at hj

set_option maxHeartbeats 2000000 in
theorem rbits_any (A : Option Addr) (n c : Nat) (xs : List Int) (w : World) (hS : Sl w A n c xs) (hn : n ≤ 10000000) :
    Calls Tryz.prog 55 #[.slice A n c] w fun e w' => ∃ v, e = .returned v ∧ w'.ownsRow w.heap.size 3 1 v (8 * n) ((lbits xs (8 * n)).map (Value.int .i64)) ∧ Past w w' := by
  have HS := Lib.hid hS
  obtain ⟨i0, hi, hz0, hz1, hz2⟩ := info_parts info64
  clear hS
  go_enter Tryz.func55, Tryz.ntmps55
  go_wp2
  go_loopg [3, 4] n (fun k s3 s4 wx => ∃ i : Nat, i ≤ n ∧ k = n - i ∧ s4 = .int .i64 (i : Int) ∧ Hid (wx.ownsRow w.heap.size 3 1 s3 (8 * i) ((lbits xs (8 * i)).map (Value.int .i64)) ∧ Past w wx))
  case atStart => exact ⟨0, Nat.zero_le _, rfl, rfl, ⟨rfl, .inl ⟨rfl, rfl⟩⟩, Below.refl _ _⟩
  case round =>
    obtain ⟨i, hin, hgk, rfl, HO⟩ := hrel
    have HGK := Lib.hid hgk
    clear hgk
    obtain ⟨wo, rfl⟩ : ∃ wo : World, wo = wr := ⟨_, rfl⟩
    by_cases hlt : i < n
    · obtain ⟨b, o, rfl, hc⟩ := (HS.out.past HO.out.2).bytes (by omega)
      have hx := hc i hlt
      have hi0 : (0 : Int) ≤ (i : Int) := by omega
      have hin1 : (i : Int) < (n : Int) := by omega
      obtain ⟨hr0, hr1⟩ := HS.out.rng (xs.getD i 0) (by
        have := HS.out.len
        rw [List.getD_eq_getElem?_getD, List.getElem?_eq_getElem (by omega)]
        exact List.getElem_mem _)
      have HBT := Lib.hid (fun t ht => lbit_in xs i t ht)
      clear hc
      generalize xs.getD i 0 = y at hx hr0 hr1 HBT
      have hy0 : y = y / 2 ^ 0 := by simp
      have HY0 := Lib.hid hy0
      clear hy0
      go_wp2
      go_loopg [3, 5, 6] 8 (fun k s3 s5 s6 wx => ∃ t : Nat, t ≤ 8 ∧ k = 8 - t ∧ s5 = .int .i64 (y / 2 ^ t) ∧ s6 = .int .i64 (t : Int) ∧ Hid (wx.ownsRow w.heap.size 3 1 s3 (8 * i + t) ((lbits xs (8 * i + t)).map (Value.int .i64)) ∧ Past w wx))
      case atStart => exact ⟨0, by omega, rfl, by rw [← HY0.out], rfl, HO⟩
      case round =>
        clear HO
        obtain ⟨t, ht, hgk, rfl, rfl, HO⟩ := hrel
        have HGK2 := Lib.hid hgk
        clear hgk
        by_cases hlt2 : t < 8
        · have hz0' : 0 ≤ y / 2 ^ t := Int.ediv_nonneg hr0 (by exact Int.le_of_lt (Int.pow_pos (by decide)))
          have hz1' : y / 2 ^ t ≤ y := Int.ediv_le_self _ hr0
          have HB := Lib.hid (lbits_succ xs (8 * i + t))
          have HH := Lib.hid (half_pow y t)
          have HL : Hid (lbit xs (8 * i + t) = y / 2 ^ t % 2) := HBT.out t hlt2
          generalize y / 2 ^ t = z at *
          have hz2' : z < 256 := by omega
          go_wp2_with (at_builtin; refine wpList_append_own _ rfl _ _ 28 rfl w.heap.size 3 i0 (.int .i64 0) 1 8 Tryz.underlying28 hi hz0 hz1 hz2 rfl (by decide) _ (8 * i + t) _ rfl (HO.out.1.alloc _) ⟨wr.heap.size, 0, none⟩ 1 1 [.int .i64 (z % 2)] rfl rfl ?c1 ?c2 ?c3 ?c4 ?c5 ?_)
          case c1 => exact one_cell wr _ _
          case c2 => simp [Value.oneCell']
          case c3 => unfold maxLen; omega
          case c4 => omega
          case c5 => exact Nat.le_trans HO.out.2.size (by simp)
          intro v' w1 hown1 hgrow1 _
          have HO2 : Hid (w1.ownsRow w.heap.size 3 1 v' (8 * i + (t + 1)) ((lbits xs (8 * i + (t + 1))).map (Value.int .i64)) ∧ Past w w1) := by
            have e : 8 * i + (t + 1) = 8 * i + t + 1 := by omega
            rw [e, HB.out, List.map_append, HL.out]
            exact ⟨hown1, (HO.out.2.trans' ((Below.refl _ _).alloc (Nat.le_refl _) _)).grown hgrow1 (Nat.le_trans HO.out.2.size (by simp)) (own_block_ge HO.out.1)⟩
          clear hown1 hgrow1 HO
          go_wp2
          go_roundg (8 - (t + 1))
          case rel => exact ⟨t + 1, by omega, rfl, by rw [← HH.out], by go_num, HO2⟩
          case measure => have := HGK2.out; omega
        · obtain rfl : t = 8 := by omega
          go_wp2
          go_roundg (n - (i + 1))
          case rel => exact ⟨i + 1, by omega, rfl, by go_num, HO⟩
          case measure => have := HGK.out; omega
    · obtain rfl : i = n := by omega
      go_wp2
      go_ret
      exact ⟨_, rfl, HO.out⟩

end Go.Proofs.YteflpbkdnebopaaGreatDoor

namespace Go.Proofs.YteflpbkdnebopaaGreatDoor
open Go.RowKit

theorem info8 : (Tryz.prog.info? 5).map (fun i => (i.zero, i.size, i.bytes)) = some (some (.int .u8 0), 1, 1) := by kernel_rfl
/-- A slice value with n numbers xs of kind k: address A (nil possible), capacity c. -/
structure SlK (k : IntKind) (w : World) (A : Option Addr) (n c : Nat) (xs : List Int) : Prop where
  len : xs.length = n
  cap : n ≤ c
  big : c ≤ maxLen
  cells : 0 < n → ∃ b o, A = some ⟨b, o, none⟩ ∧ ∀ i, i < n → w.cell? ⟨b, o + i, none⟩ = some (.int k (xs.getD i 0))
  nil0 : A = none → c = 0
theorem SlK.past {k : IntKind} {w w' : World} {A : Option Addr} {n c : Nat} {xs : List Int} (h : SlK k w A n c xs) (hp : Past w w') : SlK k w' A n c xs :=
  ⟨h.len, h.cap, h.big, fun hn => by
    obtain ⟨b, o, e, hc⟩ := h.cells hn
    exact ⟨b, o, e, fun i hi => (hp.cell (cell_lt (hc i hi))).trans (hc i hi)⟩, h.nil0⟩
theorem SlK.drewN {k : IntKind} {w : World} {A : Option Addr} {n c : Nat} {xs : List Int} (h : SlK k w A n c xs) (m : Nat) : SlK k (w.drewN m) A n c xs := ⟨h.len, h.cap, h.big, h.cells, h.nil0⟩

/-- Bit p of numbers of d bits. -/
def pbit (d : Nat) (ls : List Int) (p : Nat) : Int := ls.getD (p / d) 0 / 2 ^ (p % d) % 2
def pbits (d : Nat) (ls : List Int) (p : Nat) : List Int := (List.range p).map (pbit d ls)
theorem pbits_len (d : Nat) (ls : List Int) (p : Nat) : (pbits d ls p).length = p := by simp [pbits]
theorem pbits_succ (d : Nat) (ls : List Int) (p : Nat) : pbits d ls (p + 1) = pbits d ls p ++ [pbit d ls p] := by simp [pbits, List.range_succ]
theorem pbits_getD (d : Nat) (ls : List Int) (m p : Nat) (h : p < m) : (pbits d ls m).getD p 0 = pbit d ls p := by simp [pbits, List.getD, h]
theorem pbit_in (d : Nat) (ls : List Int) (i t : Nat) (ht : t < d) : pbit d ls (d * i + t) = ls.getD i 0 / 2 ^ t % 2 := by
  unfold pbit
  have h1 : (d * i + t) / d = i := by rw [Nat.mul_add_div (by omega), Nat.div_eq_of_lt ht, Nat.add_zero]
  have h2 : (d * i + t) % d = t := by rw [Nat.mul_add_mod, Nat.mod_eq_of_lt ht]
  rw [h1, h2]
theorem pbit_rng (d : Nat) (ls : List Int) (p : Nat) : 0 ≤ pbit d ls p ∧ pbit d ls p ≤ 1 := by unfold pbit; omega
theorem pbit_far (d : Nat) (ls : List Int) (p : Nat) (hd : 0 < d) (h : d * ls.length ≤ p) : pbit d ls p = 0 := by
  unfold pbit
  have : ls.length ≤ p / d := (Nat.le_div_iff_mul_le hd).2 (by rw [Nat.mul_comm]; exact h)
  rw [List.getD_eq_getElem?_getD, List.getElem?_eq_none this]
  simp
/-- Eight bits as a number, the lowest one first; t of them, from the highest one on. -/
def lo8 (f : Nat → Int) (p : Nat) : Nat → Int
  | 0 => 0
  | t + 1 => 2 * lo8 f p t + f (p + (7 - t))
theorem lo8_rng (f : Nat → Int) (hf : ∀ q, 0 ≤ f q ∧ f q ≤ 1) (p t : Nat) : 0 ≤ lo8 f p t ∧ lo8 f p t < 2 ^ t := by
  induction t with
  | zero => simp [lo8]
  | succ t ih =>
    have hb := hf (p + (7 - t))
    have e : (2 : Int) ^ (t + 1) = 2 ^ t * 2 := Int.pow_succ 2 t
    rw [lo8, e]
    omega
theorem lo8_255 (f : Nat → Int) (hf : ∀ q, 0 ≤ f q ∧ f q ≤ 1) (p t : Nat) (ht : t ≤ 8) : lo8 f p t ≤ 255 := by
  have h := (lo8_rng f hf p t).2
  have : t = 0 ∨ t = 1 ∨ t = 2 ∨ t = 3 ∨ t = 4 ∨ t = 5 ∨ t = 6 ∨ t = 7 ∨ t = 8 := by omega
  rcases this with rfl | rfl | rfl | rfl | rfl | rfl | rfl | rfl | rfl <;> omega
def packs (d : Nat) (ls : List Int) (q : Nat) : List Int := (List.range q).map fun j => lo8 (pbit d ls) (8 * j) 8
theorem packs_succ (d : Nat) (ls : List Int) (q : Nat) : packs d ls (q + 1) = packs d ls q ++ [lo8 (pbit d ls) (8 * q) 8] := by simp [packs, List.range_succ]
theorem packs_len (d : Nat) (ls : List Int) (q : Nat) : (packs d ls q).length = q := by simp [packs]
theorem packs_rng (d : Nat) (ls : List Int) (q : Nat) : ∀ x ∈ packs d ls q, 0 ≤ x ∧ x < 256 := by
  intro x hx
  obtain ⟨j, _, rfl⟩ := List.mem_map.1 hx
  have h1 := lo8_rng (pbit d ls) (pbit_rng d ls) (8 * j) 8
  have h2 := lo8_255 (pbit d ls) (pbit_rng d ls) (8 * j) 8 (Nat.le_refl _)
  omega
def nbytes (d n : Nat) : Nat := (d * n + 7) / 8
/-- What the reference packs. -/
def rpack (d : Int) (ls : List Int) : Option (List Int) :=
  if d < 1 ∨ 32 < d ∨ ∃ i, i < ls.length ∧ ¬ ls.getD i 0 < 2 ^ d.toNat then none else some (packs d.toNat ls (nbytes d.toNat ls.length))

/-- What a function returns that finds bytes or none. -/
def ROpt (o : Option (List Int)) (w : World) (e : Ending) (w' : World) : Prop :=
  match o with
  | none => e = .returned (.tuple #[.slice none 0 0, .bool false]) ∧ Past w w'
  | some xs => ∃ A n c, e = .returned (.tuple #[.slice A n c, .bool true]) ∧ Sl w' A n c xs ∧ Past w w'

/-- The cells of what a call owns. -/
theorem own_cell {w : World} {B : Nat} {e : TypeId} {A : Option Addr} {n c : Nat} {k : IntKind} {xs : List Int} (hl : xs.length = n) (h : w.ownsRow B e 1 (.slice A n c) n (xs.map (Value.int k))) (hn : 0 < n) :
    ∃ g, A = some ⟨g, 0, none⟩ ∧ n ≤ c ∧ c ≤ maxLen ∧ ∀ i, i < n → w.cell? ⟨g, i, none⟩ = some (.int k (xs.getD i 0)) := by
  rcases h.2 with ⟨e1, e2⟩ | ⟨g, cap, cur, e1, e2, e3, e4, e5, e6, e7⟩
  · injection e1 with a1 a2 a3
    omega
  · injection e1 with a1 a2 a3
    subst a1 a3
    refine ⟨g, rfl, e4, e5, fun i hi => ?_⟩
    have hc := h.cells (g := g) rfl i (.int k (xs.getD i 0)) (by simp [List.getD, List.getElem?_eq_getElem (show i < xs.length by omega)])
    rw [add_none, Nat.zero_add] at hc
    exact hc

/-- The same, with what is handed back in memory of the call's own. -/
def ROwn (o : Option (List Int)) (w : World) (e : Ending) (w' : World) : Prop :=
  match o with
  | none => e = .returned (.tuple #[.slice none 0 0, .bool false]) ∧ Past w w'
  | some xs => ∃ v, e = .returned (.tuple #[v, .bool true]) ∧ w'.ownsRow w.heap.size 5 1 v xs.length (xs.map (Value.int .u8)) ∧ (∀ x ∈ xs, 0 ≤ x ∧ x < 256) ∧ Past w w'
theorem owns_lower {w : World} {b b' : Nat} {e : TypeId} {size : Nat} {v : Value} {n : Nat} {xs : List Value} (h : w.ownsRow b e size v n xs) (hb : b' ≤ b) : w.ownsRow b' e size v n xs :=
  ⟨h.1, h.2.elim .inl fun ⟨g, cap, cur, e1, e2, e3⟩ => .inr ⟨g, cap, cur, e1, Nat.le_trans hb e2, e3⟩⟩
set_option maxHeartbeats 4000000 in
set_option maxRecDepth 100000 in
theorem rpack_own (d : Int) (A : Option Addr) (n c : Nat) (ls : List Int) (w : World) (hS : SlK .u32 w A n c ls) (hr : ∀ i, 0 ≤ ls.getD i 0 ∧ ls.getD i 0 < 4294967296) (hn : n ≤ 10000) :
    Calls Tryz.prog 25 #[.int .i64 d, .slice A n c] w (ROwn (rpack d ls) w) := by
  by_cases hd : d < 1 ∨ 32 < d
  · have ho : rpack d ls = none := by unfold rpack; rw [if_pos (by rcases hd with h | h; exact .inl h; exact .inr (.inl h))]
    rw [ho]
    clear ho hr hS
    rcases hd with h1 | h1
    all_goals
      go_enter Tryz.func25, Tryz.ntmps25
      go_wp2_with fail
      go_ret2
      exact ⟨rfl, Below.refl _ _⟩
  · obtain ⟨D, rfl⟩ : ∃ D : Nat, d = (D : Int) := ⟨d.toNat, by omega⟩
    have hD1 : 1 ≤ D := by omega
    have hD2 : D ≤ 32 := by omega
    have HS := Lib.hid hS
    have HLN := Lib.hid hS.len
    have HR := Lib.hid hr
    obtain ⟨i0, hi, hz0, hz1, hz2⟩ := info_parts info64
    clear hd hS hr
    have hmul : ∀ i, i ≤ n → D * i ≤ 320000 := fun i hi => by
      have := Nat.mul_le_mul hD2 (Nat.le_trans hi hn)
      omega
    have HM := Lib.hid hmul
    clear hmul
    go_enter Tryz.func25, Tryz.ntmps25
    go_wp2_with fail
    go_loopg [6, 7] n (fun k s6 s7 wx => ∃ i : Nat, i ≤ n ∧ k = n - i ∧ s7 = .int .i64 (i : Int) ∧ Hid (∀ t, t < i → ls.getD t 0 < 2 ^ D) ∧ Hid (wx.ownsRow w.heap.size 3 1 s6 (D * i) ((pbits D ls (D * i)).map (Value.int .i64)) ∧ Past w wx))
    case atStart => exact ⟨0, Nat.zero_le _, rfl, rfl, fun t ht => absurd ht (Nat.not_lt_zero _), ⟨rfl, .inl ⟨rfl, rfl⟩⟩, Below.refl _ _⟩
    case round =>
      obtain ⟨i, hin, hgk, rfl, HV, HO⟩ := hrel
      have HGK := Lib.hid hgk
      clear hgk
      obtain ⟨wo, rfl⟩ : ∃ wo : World, wo = wr := ⟨_, rfl⟩
      by_cases hlt : i < n
      · obtain ⟨b, o, rfl, hc⟩ := (HS.out.past HO.out.2).cells (by omega)
        have hx := hc i hlt
        have hi0 : (0 : Int) ≤ (i : Int) := by omega
        have hin1 : (i : Int) < (n : Int) := by omega
        obtain ⟨hr0, hr1⟩ := HR.out i
        obtain ⟨y, hy⟩ := Int.eq_ofNat_of_zero_le hr0
        have HY := Lib.hid hy
        rw [hy] at hx hr1
        have HLE := Lib.hid (rleast_any y · (by omega))
        have HLD := Lib.hid (leastN_le D y)
        have hl32 := (leastN_le 32 y).2 (by omega)
        clear hc hr0 hy hr1
        by_cases hle : leastN y ≤ D
        · have HV2 : Hid (∀ t, t < i + 1 → ls.getD t 0 < 2 ^ D) := fun t ht => by
            rcases Nat.lt_succ_iff_lt_or_eq.1 ht with h | rfl
            · exact HV.out t h
            · rw [HY.out]
              exact_mod_cast HLD.out.1 hle
          have HBT : Hid (∀ t, t < D → pbit D ls (D * i + t) = (y : Int) / 2 ^ t % 2) := fun t ht => by rw [pbit_in D ls i t ht, HY.out]
          have HMI := Lib.hid (HM.out i (by omega))
          have hleb : decide (D < leastN y) = false := by simp; omega
          have HYB : Hid (y < 4294967296) := by have := (HR.out i).2; rw [HY.out] at this; show _ < _; omega
          clear HV HY HLD
          generalize leastN y = ln at *
          go_wp2_with fail
          refine (HLE.out _).mono ?_
          rintro e w' ⟨rfl, rfl⟩
          go_wp2_with fail
          go_loopg [6, 8, 9] D (fun k s6 s8 s9 wx => ∃ t : Nat, t ≤ D ∧ k = D - t ∧ s8 = .int .u32 ((y : Int) / 2 ^ t) ∧ s9 = .int .i64 (t : Int) ∧ Hid (wx.ownsRow w.heap.size 3 1 s6 (D * i + t) ((pbits D ls (D * i + t)).map (Value.int .i64)) ∧ Past w wx))
          case atStart => exact ⟨0, Nat.zero_le _, rfl, by simp, rfl, HO⟩
          case round =>
            clear HO
            obtain ⟨t, ht, hgk, rfl, rfl, HO⟩ := hrel
            have HGK2 := Lib.hid hgk
            clear hgk
            by_cases hlt2 : t < D
            · have hz0' : 0 ≤ (y : Int) / 2 ^ t := Int.ediv_nonneg (by omega) (by exact Int.le_of_lt (Int.pow_pos (by decide)))
              have hz1' : (y : Int) / 2 ^ t ≤ 4294967295 := by
                have h := Int.ediv_le_self (2 ^ t) (show 0 ≤ (y : Int) by omega)
                have := HYB.out
                omega
              have HB := Lib.hid (pbits_succ D ls (D * i + t))
              have HH := Lib.hid (half_pow (y : Int) t)
              have HL := Lib.hid (HBT.out t hlt2)
              generalize (y : Int) / 2 ^ t = z at *
              go_wp2_with (at_builtin; refine wpList_append_own _ rfl _ _ 28 rfl w.heap.size 3 i0 (.int .i64 0) 1 8 Tryz.underlying28 hi hz0 hz1 hz2 rfl (by decide) _ (D * i + t) _ rfl (HO.out.1.alloc _) ⟨wr.heap.size, 0, none⟩ 1 1 [.int .i64 (z % 2)] rfl rfl ?c1 ?c2 ?c3 ?c4 ?c5 ?_)
              case c1 => exact one_cell wr _ _
              case c2 => simp [Value.oneCell']
              case c3 => have := HMI.out; unfold maxLen; omega
              case c4 => have := HMI.out; omega
              case c5 => exact Nat.le_trans HO.out.2.size (by simp)
              intro v' w1 hown1 hgrow1 _
              have HO2 : Hid (w1.ownsRow w.heap.size 3 1 v' (D * i + (t + 1)) ((pbits D ls (D * i + (t + 1))).map (Value.int .i64)) ∧ Past w w1) := by
                have e : D * i + (t + 1) = D * i + t + 1 := by omega
                rw [e, HB.out, List.map_append, HL.out]
                exact ⟨hown1, (HO.out.2.trans' ((Below.refl _ _).alloc (Nat.le_refl _) _)).grown hgrow1 (Nat.le_trans HO.out.2.size (by simp)) (own_block_ge HO.out.1)⟩
              clear hown1 hgrow1 HO
              go_wp2_with fail
              go_roundg (D - (t + 1))
              case rel => exact ⟨t + 1, by omega, rfl, by rw [← HH.out], by go_num, HO2⟩
              case measure => have := HGK2.out; omega
            · obtain rfl : t = D := by omega
              have HO2 : Hid (wr.ownsRow w.heap.size 3 1 u6 (t * (i + 1)) ((pbits t ls (t * (i + 1))).map (Value.int .i64)) ∧ Past w wr) := by
                rw [Nat.mul_succ]
                exact HO.out
              go_wp2_with fail
              go_roundg (n - (i + 1))
              case rel => exact ⟨i + 1, by omega, rfl, by go_num, HV2, HO2⟩
              case measure => have := HGK.out; omega
        · have HD : Hid (rpack (D : Int) ls = none) := by
            show rpack (D : Int) ls = none
            unfold rpack
            rw [if_pos (.inr (.inr ⟨i, by rw [HLN.out]; exact hlt, fun h => hle (HLD.out.2 (by
              rw [HY.out, Int.toNat_natCast] at h
              exact_mod_cast h))⟩))]
          generalize leastN y = ln at *
          go_wp2_with fail
          refine (HLE.out _).mono ?_
          rintro e w' ⟨rfl, rfl⟩
          go_wp2_with fail
          go_ret2
          rw [HD.out]
          exact ⟨rfl, HO.out.2⟩
      · obtain rfl : i = n := by omega
        have HD : Hid (rpack (D : Int) ls = some (packs D ls (nbytes D i))) := by
          show rpack (D : Int) ls = _
          unfold rpack
          rw [HLN.out, Int.toNat_natCast, if_neg]
          rintro (h | h | ⟨t, h1, h2⟩)
          · omega
          · omega
          · exact h2 (HV.out t h1)
        have HPF : Hid (∀ p, D * i ≤ p → pbit D ls p = 0) := fun p hp => pbit_far D ls p (by omega) (by rw [HLN.out]; exact hp)
        have HMI := HM.out i (Nat.le_refl _)
        have HNB : Hid (8 * nbytes D i = D * i + (8 - D * i % 8) % 8) := by show _ = _; unfold nbytes; omega
        have hnb : nbytes D i ≤ 50000 := by unfold nbytes; omega
        clear hlt HV HGK
        generalize nbytes D i = N at *
        generalize hM : D * i = M at *
        clear hM
        generalize hPad : (8 - M % 8) % 8 = Pd at *
        have HPD := Lib.hid hPad
        clear hPad
        obtain ⟨i8, hi8, hz80, hz81, hz82⟩ := info_parts info8
        go_wp2_with fail
        go_loopg [6] Pd (fun k s6 wx => ∃ t : Nat, t ≤ Pd ∧ k = Pd - t ∧ Hid (wx.ownsRow w.heap.size 3 1 s6 (M + t) ((pbits D ls (M + t)).map (Value.int .i64)) ∧ Past w wx))
        case atStart => exact ⟨0, Nat.zero_le _, rfl, HO⟩
        case round =>
          clear HO
          obtain ⟨t, ht, hgk, HO⟩ := hrel
          have HGK := Lib.hid hgk
          clear hgk
          obtain ⟨BA, bc, rfl⟩ := own_slice HO.out.1
          by_cases hlt : t < Pd
          · have h8 : (((M : Int) + (t : Int)) % 8 != 0) = true := by have := HPD.out; simp; omega
            have HB := Lib.hid (pbits_succ D ls (M + t))
            have HZ := Lib.hid (HPF.out (M + t) (by omega))
            go_wp2_with (at_builtin; refine wpList_append_own _ rfl _ _ 28 rfl w.heap.size 3 i0 (.int .i64 0) 1 8 Tryz.underlying28 hi hz0 hz1 hz2 rfl (by decide) _ (M + t) _ rfl (HO.out.1.alloc _) ⟨wr.heap.size, 0, none⟩ 1 1 [.int .i64 0] rfl rfl ?d1 ?d2 ?d3 ?d4 ?d5 ?_)
            case d1 => exact one_cell wr _ _
            case d2 => simp [Value.oneCell']
            case d3 => have := HPD.out; unfold maxLen; omega
            case d4 => have := HPD.out; omega
            case d5 => exact Nat.le_trans HO.out.2.size (by simp)
            intro v' w1 hown1 hgrow1 _
            have HO2 : Hid (w1.ownsRow w.heap.size 3 1 v' (M + (t + 1)) ((pbits D ls (M + (t + 1))).map (Value.int .i64)) ∧ Past w w1) := by
              have e : M + (t + 1) = M + t + 1 := by omega
              rw [e, HB.out, List.map_append, HZ.out]
              exact ⟨hown1, (HO.out.2.trans' ((Below.refl _ _).alloc (Nat.le_refl _) _)).grown hgrow1 (Nat.le_trans HO.out.2.size (by simp)) (own_block_ge HO.out.1)⟩
            clear hown1 hgrow1 HO
            go_wp2_with fail
            go_roundg (Pd - (t + 1))
            case rel => exact ⟨t + 1, by omega, rfl, HO2⟩
            case measure => have := HGK.out; omega
          · obtain rfl : t = Pd := by omega
            have h8 : (((M : Int) + (t : Int)) % 8 != 0) = false := by have := HPD.out; simp; omega
            have hMN : M + t = 8 * N := HNB.out.symm
            have hMI : (M : Int) + (t : Int) = 8 * (N : Int) := by omega
            rw [hMN] at HO
            have HMN := Lib.hid hMI
            obtain ⟨wb, rfl⟩ : ∃ wb : World, wb = wr := ⟨_, rfl⟩
            clear hMI
            go_wp2_with fail
            rw [hMN]
            go_loopg [10, 11] N (fun k s10 s11 wx => ∃ q : Nat, q ≤ N ∧ k = N - q ∧ s11 = .int .i64 (8 * (q : Int)) ∧ Hid (wx.ownsRow wb.heap.size 5 1 s10 q ((packs D ls q).map (Value.int .u8)) ∧ Past wb wx))
            case atStart => exact ⟨0, Nat.zero_le _, rfl, rfl, ⟨rfl, .inl ⟨rfl, rfl⟩⟩, Below.refl _ _⟩
            case round =>
              obtain ⟨q, hq, hgk, rfl, HQ⟩ := hrel
              have HGK3 := Lib.hid hgk
              clear hgk
              obtain ⟨wo, rfl⟩ : ∃ wo : World, wo = wr := ⟨_, rfl⟩
              by_cases hlt : q < N
              · obtain ⟨g, rfl, hbc, hbm, hcell⟩ := own_cell (by rw [pbits_len]) HO.out.1 (by omega)
                have HCELL := Lib.hid hcell
                have hq8b : decide (8 * (q : Int) < 8 * (N : Int)) = true := by simp; omega
                clear hcell
                go_wp2_with fail
                go_loopg [12, 13] 8 (fun k s12 s13 wx => ∃ t : Nat, t ≤ 8 ∧ k = 8 - t ∧ s12 = .int .i64 (lo8 (pbit D ls) (8 * q) t) ∧ s13 = .int .i64 (7 - (t : Int)) ∧ Hid (wx = wo))
                case atStart => exact ⟨0, by omega, rfl, rfl, by first | rfl | go_num, rfl⟩
                case round =>
                  obtain ⟨t2, ht2, hgk, rfl, rfl, hw⟩ := hrel
                  have HGK4 := Lib.hid hgk
                  obtain rfl := hw.out
                  clear hgk
                  have ho0 := (lo8_rng (pbit D ls) (pbit_rng D ls) (8 * q) t2).1
                  have ho1 := lo8_255 (pbit D ls) (pbit_rng D ls) (8 * q) t2 ht2
                  by_cases hlt2 : t2 < 8
                  · have hnx : lo8 (pbit D ls) (8 * q) (t2 + 1) = 2 * lo8 (pbit D ls) (8 * q) t2 + pbit D ls (8 * q + (7 - t2)) := rfl
                    have hc1 := HCELL.out (8 * q + (7 - t2)) (by omega)
                    rw [pbits_getD D ls _ _ (by omega)] at hc1
                    have hc2 := (HQ.out.2.cell (cell_lt hc1)).trans hc1
                    obtain ⟨hb0, hb1⟩ := pbit_rng D ls (8 * q + (7 - t2))
                    have HNX := Lib.hid hnx
                    clear hc1 hnx
                    generalize lo8 (pbit D ls) (8 * q) t2 = sv at *
                    generalize pbit D ls (8 * q + (7 - t2)) = bv at *
                    go_wp2_with fail
                    go_roundg (8 - (t2 + 1))
                    case rel => exact ⟨t2 + 1, by omega, rfl, by first | (rw [HNX.out]; done) | (rw [HNX.out]; go_num) | (rw [HNX.out]; congr 1; omega), by first | go_num | (congr 1; omega), rfl⟩
                    case measure => have := HGK4.out; omega
                  · obtain rfl : t2 = 8 := by omega
                    have HSX := Lib.hid (packs_succ D ls q)
                    generalize lo8 (pbit D ls) (8 * q) 8 = sv at *
                    go_wp2_with (at_builtin; refine wpList_append_own _ rfl _ _ 25 rfl wb.heap.size 5 i8 (.int .u8 0) 1 1 Tryz.underlying25 hi8 hz80 hz81 hz82 rfl (by decide) _ q _ rfl (HQ.out.1.alloc _) ⟨wr.heap.size, 0, none⟩ 1 1 [.int .u8 sv] rfl rfl (one_cell wr _ _) (by simp [Value.oneCell']) (by unfold maxLen; omega) (by omega) (Nat.le_trans HQ.out.2.size (by simp)) ?_)
                    intro v' w2 hown1 hgrow1 _
                    have HQ2 : Hid (w2.ownsRow wb.heap.size 5 1 v' (q + 1) ((packs D ls (q + 1)).map (Value.int .u8)) ∧ Past wb w2) := by
                      rw [HSX.out, List.map_append]
                      exact ⟨hown1, (HQ.out.2.trans' ((Below.refl _ _).alloc (Nat.le_refl _) _)).grown hgrow1 (Nat.le_trans HQ.out.2.size (by simp)) (own_block_ge HQ.out.1)⟩
                    clear hown1 hgrow1 HQ
                    go_wp2_with fail
                    go_roundg (N - (q + 1))
                    case rel => exact ⟨q + 1, by omega, rfl, by first | go_num | (congr 1; omega), HQ2⟩
                    case measure => have := HGK3.out; omega
              · obtain rfl : q = N := by omega
                obtain ⟨OA, oc, rfl⟩ := own_slice HQ.out.1
                have HQW := Lib.hid HQ.out.1
                have HPP := Lib.hid (HO.out.2.trans' HQ.out.2)
                go_wp2_with fail
                go_ret2
                rw [HD.out]
                exact ⟨_, rfl, by rw [packs_len]; exact owns_lower HQW.out HO.out.2.size, packs_rng D ls q, HPP.out⟩
theorem rpack_any (d : Int) (A : Option Addr) (n c : Nat) (ls : List Int) (w : World) (hS : SlK .u32 w A n c ls) (hr : ∀ i, 0 ≤ ls.getD i 0 ∧ ls.getD i 0 < 4294967296) (hn : n ≤ 10000) :
    Calls Tryz.prog 25 #[.int .i64 d, .slice A n c] w (ROpt (rpack d ls) w) := by
  refine (rpack_own d A n c ls w hS hr hn).mono ?_
  intro e w'
  unfold ROwn ROpt
  cases rpack d ls with
  | none => exact id
  | some xs =>
    intro h
    obtain ⟨v, h1, h2, h3, h4⟩ := h
    obtain ⟨OA, oc, rfl⟩ := own_slice h2
    exact ⟨_, _, _, h1, Sl.of_own h2 h3, h4⟩

end Go.Proofs.YteflpbkdnebopaaGreatDoor

namespace Go.Proofs.YteflpbkdnebopaaGreatDoor
open Go.RowKit
set_option maxRecDepth 100000

/-- The number of t bits from the highest one of D bits on, the lowest one at p. -/
def hiN (f : Nat → Int) (p D : Nat) : Nat → Int
  | 0 => 0
  | t + 1 => 2 * hiN f p D t + f (p + (D - 1 - t))
theorem hiN_rng (f : Nat → Int) (hf : ∀ q, 0 ≤ f q ∧ f q ≤ 1) (p D t : Nat) : 0 ≤ hiN f p D t ∧ hiN f p D t < 2 ^ t := by
  induction t with
  | zero => simp [hiN]
  | succ t ih =>
    have hb := hf (p + (D - 1 - t))
    have e : (2 : Int) ^ (t + 1) = 2 ^ t * 2 := Int.pow_succ 2 t
    rw [hiN, e]
    omega
theorem lbit_rng (xs : List Int) (p : Nat) : 0 ≤ lbit xs p ∧ lbit xs p ≤ 1 := by unfold lbit; omega
theorem lbits_getD (xs : List Int) (m p : Nat) (h : p < m) : (lbits xs m).getD p 0 = lbit xs p := by simp [lbits, List.getD, h]
def nums (D : Nat) (xs : List Int) (n : Nat) : List Int := (List.range n).map fun i => hiN (lbit xs) (D * i) D D
theorem nums_len (D : Nat) (xs : List Int) (n : Nat) : (nums D xs n).length = n := by simp [nums]
theorem nums_succ (D : Nat) (xs : List Int) (n : Nat) : nums D xs (n + 1) = nums D xs n ++ [hiN (lbit xs) (D * n) D D] := by simp [nums, List.range_succ]
theorem nums_rng (D : Nat) (xs : List Int) (n : Nat) : ∀ x ∈ nums D xs n, 0 ≤ x ∧ x < 2 ^ D := by
  intro x hx
  obtain ⟨j, _, rfl⟩ := List.mem_map.1 hx
  exact hiN_rng (lbit xs) (lbit_rng xs) (D * j) D D
/-- What the reference unpacks. -/
def runpack (d n : Int) (xs : List Int) : Option (List Int) :=
  if d < 1 ∨ 32 < d ∨ n < 0 ∨ 1048576 < n ∨ (xs.length : Int) ≠ sizeI d n ∨ (∃ p, p < 8 * xs.length ∧ d.toNat * n.toNat ≤ p ∧ lbit xs p ≠ 0) then none else some (nums d.toNat xs n.toNat)

theorem info32 : (Tryz.prog.info? 22).map (fun i => (i.zero, i.size, i.bytes)) = some (some (.int .u32 0), 1, 4) := by kernel_rfl
/-- What a function returns that finds numbers or none. -/
def NOpt (o : Option (List Int)) (w : World) (e : Ending) (w' : World) : Prop :=
  match o with
  | none => e = .returned (.tuple #[.slice none 0 0, .bool false]) ∧ Past w w'
  | some xs => ∃ A n c, e = .returned (.tuple #[.slice A n c, .bool true]) ∧ SlK .u32 w' A n c xs ∧ Past w w'
theorem SlK.of_own {k : IntKind} {w : World} {B : Nat} {e : TypeId} {A : Option Addr} {n c : Nat} {xs : List Int} (h : w.ownsRow B e 1 (.slice A n c) n (xs.map (Value.int k))) : SlK k w A n c xs := by
  have hl : xs.length = n := by have := h.1; simpa using this
  rcases h.2 with ⟨e1, e2⟩ | ⟨g, cap, cur, e1, e2, e3, e4, e5, e6, e7⟩
  · injection e1 with a1 a2 a3
    subst a1 a2 a3
    exact ⟨hl, Nat.le_refl _, by unfold maxLen; omega, fun h => absurd h (Nat.lt_irrefl 0), fun _ => rfl⟩
  · injection e1 with a1 a2 a3
    subst a1 a3
    refine ⟨hl, e4, e5, fun hn => ⟨g, 0, rfl, fun i hi => ?_⟩, fun e => by cases e⟩
    have hc := h.cells (g := g) rfl i (.int k (xs.getD i 0)) (by simp [List.getD, List.getElem?_eq_getElem (show i < xs.length by omega)])
    rw [← add_none]
    exact hc

theorem pow31 (k : Nat) (h : k ≤ 31) : (2 : Int) ^ k ≤ 2147483648 := by
  have h1 : (2 : Nat) ^ k ≤ 2 ^ 31 := Nat.pow_le_pow_right (by decide) h
  have h2 : (2 : Nat) ^ 31 = 2147483648 := by decide
  have h3 : ((2 ^ k : Nat) : Int) = (2 : Int) ^ k := Int.natCast_pow 2 k
  rw [← h3]
  omega
set_option maxHeartbeats 4000000 in
theorem runpack_any (d n : Int) (A : Option Addr) (L c : Nat) (xs : List Int) (w : World) (hS : Sl w A L c xs) (hL : L ≤ 10000) :
    Calls Tryz.prog 30 #[.int .i64 d, .int .i64 n, .slice A L c] w (NOpt (runpack d n xs) w) := by
  have HSZ := Lib.hid (rsize_any d n)
  have hlen := hS.len
  by_cases hbad : d < 1 ∨ 32 < d ∨ n < 0 ∨ 1048576 < n
  · have ho : runpack d n xs = none := by
      unfold runpack
      rw [if_pos]
      rcases hbad with h | h | h | h
      · exact .inl h
      · exact .inr (.inl h)
      · exact .inr (.inr (.inl h))
      · exact .inr (.inr (.inr (.inl h)))
    rw [ho]
    clear ho
    rcases hbad with h1 | h1 | h1 | h1
    all_goals
      go_enter Tryz.func30, Tryz.ntmps30
      go_wp2_with fail
      all_goals
        go_ret2
        exact ⟨rfl, Below.refl _ _⟩
  · obtain ⟨D, rfl⟩ : ∃ D : Nat, d = (D : Int) := ⟨d.toNat, by omega⟩
    obtain ⟨N, rfl⟩ : ∃ N : Nat, n = (N : Int) := ⟨n.toNat, by omega⟩
    have hD1 : 1 ≤ D := by omega
    have hD2 : D ≤ 32 := by omega
    have hN2 : N ≤ 1048576 := by omega
    clear hbad
    by_cases hz : (L : Int) = sizeI D N
    · have hzz : sizeI (D : Int) (N : Int) = ((D : Int) * (N : Int) + 7) / 8 := by unfold sizeI; rw [if_neg (by omega)]
      have hM0 : ((D * N : Nat) : Int) = (D : Int) * (N : Int) := Int.natCast_mul D N
      obtain ⟨M, hM⟩ : ∃ M : Nat, D * N = M := ⟨_, rfl⟩
      rw [hM] at hM0
      have hLM : 8 * L = M + (8 - M % 8) % 8 := by
        rw [hzz, ← hM0] at hz
        omega
      have hNM : N ≤ M := by
        rw [← hM]
        exact Nat.le_mul_of_pos_left N hD1
      have hO : runpack (D : Int) (N : Int) xs = if ∃ p, p < 8 * L ∧ M ≤ p ∧ lbit xs p ≠ 0 then none else some (nums D xs N) := by
        unfold runpack
        simp only [Int.toNat_natCast, hlen, hM]
        by_cases hx : ∃ p, p < 8 * L ∧ M ≤ p ∧ lbit xs p ≠ 0
        · rw [if_pos hx, if_pos (.inr (.inr (.inr (.inr (.inr hx)))))]
        · rw [if_neg hx, if_neg]
          rintro (h | h | h | h | h | h)
          · omega
          · omega
          · omega
          · omega
          · exact h hz
          · exact hx h
      have HO := Lib.hid hO
      have hmul : ∀ i, i ≤ N → D * i ≤ M := fun i hi => by rw [← hM]; exact Nat.mul_le_mul_left D hi
      have HMUL := Lib.hid hmul
      have HBI := Lib.hid (fun w (h : Sl w A L c xs) => rbits_any A L c xs w h (by omega))
      have HS := Lib.hid hS
      have hzb : ((L : Int) != sizeI D N) = false := by simpa using hz
      have HM := Lib.hid hM
      have HLM := Lib.hid hLM
      clear hO hmul hS hz hzz hM hLM
      generalize sizeI (D : Int) (N : Int) = z at *
      obtain ⟨i32, hi32, hy0, hy1, hy2⟩ := info_parts info32
      go_enter Tryz.func30, Tryz.ntmps30
      go_wp2_with fail
      refine (HSZ.out _).mono ?_
      rintro e w' ⟨rfl, rfl⟩
      go_wp2_with fail
      refine (HBI.out _ HS.out).mono ?_
      rintro e w1 ⟨v, rfl, ho, hp⟩
      obtain ⟨BA, bc, rfl⟩ := own_slice ho
      have HBO := Lib.hid (And.intro ho hp)
      clear ho hp
      go_wp2_with fail
      go_loopg [9, 10] N (fun k s9 s10 wx => ∃ i : Nat, i ≤ N ∧ k = N - i ∧ s10 = .int .i64 (i : Int) ∧ Hid (wx.ownsRow w1.heap.size 22 1 s9 i ((nums D xs i).map (Value.int .u32)) ∧ Past w1 wx))
      case atStart => exact ⟨0, Nat.zero_le _, rfl, rfl, ⟨rfl, .inl ⟨rfl, rfl⟩⟩, Below.refl _ _⟩
      case round =>
        obtain ⟨i, hi, hgk, rfl, HQ⟩ := hrel
        have HGK := Lib.hid hgk
        clear hgk
        obtain ⟨wo, rfl⟩ : ∃ wo : World, wo = wr := ⟨_, rfl⟩
        by_cases hlt : i < N
        · obtain ⟨P, hP⟩ : ∃ P : Nat, D * i = P := ⟨_, rfl⟩
          have hPI : (i : Int) * (D : Int) = (P : Int) := by rw [← hP, Int.natCast_mul, Int.mul_comm]
          have hPM : P + D ≤ M := by
            have := HMUL.out (i + 1) (by omega)
            rw [Nat.mul_succ, hP] at this
            exact this
          have HNS : Hid (nums D xs (i + 1) = nums D xs i ++ [hiN (lbit xs) P D D]) := by
            show _ = _
            rw [nums_succ, hP]
          have hML : M ≤ 8 * L := by have := HLM.out; omega
          obtain ⟨g, rfl, hbc, hbm, hcell⟩ := own_cell (by rw [lbits_len]) HBO.out.1 (by omega)
          have HCELL := Lib.hid hcell
          clear hcell hP
          go_wp2_with fail
          go_loopg [11, 12] D (fun k s11 s12 wx => ∃ r : Nat, r ≤ D ∧ k = r ∧ s11 = .int .u32 (hiN (lbit xs) P D (D - r)) ∧ s12 = .int .i64 ((r : Int) - 1) ∧ Hid (wx = wo))
          case atStart => exact ⟨D, Nat.le_refl _, rfl, by rw [Nat.sub_self]; rfl, by first | rfl | go_num, rfl⟩
          case round =>
            obtain ⟨r, hr, hgk, rfl, rfl, hw⟩ := hrel
            have HGK2 := Lib.hid hgk
            obtain rfl := hw.out
            clear hgk hw
            cases r with
            | zero =>
              have e1 : ((0 : Nat) : Int) - 1 = -1 := rfl
              have hv := hiN_rng (lbit xs) (lbit_rng xs) P D D
              simp only [e1, Nat.sub_zero]
              generalize hiN (lbit xs) P D D = sv at *
              obtain ⟨hv0, hv1⟩ := hv
              clear hv1
              go_wp2_with (at_builtin; refine wpList_append_own _ rfl _ _ 67 rfl w1.heap.size 22 i32 (.int .u32 0) 1 4 Tryz.underlying67 hi32 hy0 hy1 hy2 rfl (by decide) _ i _ rfl (HQ.out.1.alloc _) ⟨wr.heap.size, 0, none⟩ 1 1 [.int .u32 sv] rfl rfl ?c1 ?c2 ?c3 ?c4 ?c5 ?_)
              case c1 => exact one_cell wr _ _
              case c2 => simp [Value.oneCell']
              case c3 => unfold maxLen; omega
              case c4 => omega
              case c5 => exact Nat.le_trans HQ.out.2.size (by simp)
              intro v' w2 hown1 hgrow1 _
              have HQ2 : Hid (w2.ownsRow w1.heap.size 22 1 v' (i + 1) ((nums D xs (i + 1)).map (Value.int .u32)) ∧ Past w1 w2) := by
                rw [HNS.out, List.map_append]
                exact ⟨hown1, (HQ.out.2.trans' ((Below.refl _ _).alloc (Nat.le_refl _) _)).grown hgrow1 (Nat.le_trans HQ.out.2.size (by simp)) (own_block_ge HQ.out.1)⟩
              clear hown1 hgrow1 HQ
              go_wp2_with fail
              go_roundg (N - (i + 1))
              case rel => exact ⟨i + 1, by omega, rfl, by first | go_num | (congr 1; omega), HQ2⟩
              case measure => have := HGK.out; omega
            | succ r =>
              have e1 : ((r + 1 : Nat) : Int) - 1 = (r : Int) := by omega
              have e2 : (r : Int) - 1 = (r : Int) - 1 := rfl
              have hnx : hiN (lbit xs) P D (D - r) = 2 * hiN (lbit xs) P D (D - (r + 1)) + lbit xs (P + r) := by
                rw [show D - r = (D - (r + 1)) + 1 by omega, hiN, show D - 1 - (D - (r + 1)) = r by omega]
              have hv := hiN_rng (lbit xs) (lbit_rng xs) P D (D - (r + 1))
              have hpw : (2 : Int) ^ (D - (r + 1)) ≤ 2147483648 := by
                exact pow31 _ (by omega)
              have hc1 := HCELL.out (P + r) (by omega)
              rw [lbits_getD xs _ _ (by omega)] at hc1
              have hc2 := (HQ.out.2.cell (cell_lt hc1)).trans hc1
              obtain ⟨hb0, hb1⟩ := lbit_rng xs (P + r)
              have HNX := Lib.hid hnx
              obtain ⟨hv0, hv1⟩ := hv
              have hv2 : hiN (lbit xs) P D (D - (r + 1)) < 2147483648 := by omega
              simp only [e1]
              clear hc1 hnx hv1 hpw e1 e2
              generalize hiN (lbit xs) P D (D - (r + 1)) = sv at *
              generalize lbit xs (P + r) = bv at *
              go_wp2_with fail
              go_roundg r
              case rel => exact ⟨r, by omega, rfl, by first | (rw [HNX.out]; done) | (rw [HNX.out]; go_num) | (rw [HNX.out]; congr 1; omega), by first | rfl | go_num | (congr 1; omega), rfl⟩
              case measure => have := HGK2.out; omega
        · have hiN : N = i := by omega
          subst hiN
          have hPI : (N : Int) * (D : Int) = (M : Int) := by rw [hM0, Int.mul_comm]
          have hML : M ≤ 8 * L := by have := HLM.out; omega
          obtain ⟨OA, oc, rfl⟩ := own_slice HQ.out.1
          have HSL := Lib.hid (SlK.of_own HQ.out.1)
          have HPW := Lib.hid (HBO.out.2.trans' HQ.out.2)
          have HCELL : Hid (∀ p, p < 8 * L → ∃ g, BA = some ⟨g, 0, none⟩ ∧ wo.cell? ⟨g, p, none⟩ = some (.int .i64 (lbit xs p))) := fun p hp => by
            obtain ⟨g, rfl, hbc, hbm, hcell⟩ := own_cell (by rw [lbits_len]) HBO.out.1 (by omega)
            have hc1 := hcell p hp
            rw [lbits_getD xs _ _ hp] at hc1
            exact ⟨g, rfl, (HQ.out.2.cell (cell_lt hc1)).trans hc1⟩
          have hbcap : 8 * L ≤ bc ∨ L = 0 := by
            rcases Nat.eq_zero_or_pos L with h | h
            · exact .inr h
            · obtain ⟨g, _, hbc, _⟩ := own_cell (by rw [lbits_len]) HBO.out.1 (by omega)
              exact .inl hbc
          obtain ⟨w4, rfl⟩ : ∃ w4 : World, w4 = wo := ⟨_, rfl⟩
          clear HQ HBO hlt HGK
          go_wp2_with fail
          go_loopg [13] (8 * L - M) (fun k s13 wx => ∃ p : Nat, M ≤ p ∧ p ≤ 8 * L ∧ k = 8 * L - p ∧ s13 = .int .i64 (p : Int) ∧ Hid (∀ q, M ≤ q → q < p → lbit xs q = 0) ∧ Hid (wx = w4))
          case atStart => exact ⟨M, Nat.le_refl _, hML, rfl, by first | rfl | (rw [hPI]; done) | go_num, fun q h1 h2 => absurd h2 (by omega), rfl⟩
          case round =>
            obtain ⟨p, hp1, hp2, hgk, rfl, HV, hw⟩ := hrel
            have HGK := Lib.hid hgk
            obtain rfl := hw.out
            clear hgk hw
            by_cases hlt : p < 8 * L
            · obtain ⟨g, rfl, hc⟩ := HCELL.out p hlt
              have hlt2 : (p : Int) < 8 * (L : Int) := by omega
              have hpc : p < bc := by omega
              by_cases hb : lbit xs p = 0
              · rw [hb] at hc
                have HV2 : Hid (∀ q, M ≤ q → q < p + 1 → lbit xs q = 0) := fun q h1 h2 => by
                  rcases Nat.lt_succ_iff_lt_or_eq.1 h2 with h | rfl
                  · exact HV.out q h1 h
                  · exact hb
                clear hb HV
                go_wp2_with fail
                go_roundg (8 * L - (p + 1))
                case rel => exact ⟨p + 1, by omega, by omega, rfl, by first | go_num | (congr 1; omega), HV2, rfl⟩
                case measure => have := HGK.out; omega
              · have HD : Hid (runpack (D : Int) (N : Int) xs = none) := by
                  show _ = _
                  rw [HO.out, if_pos ⟨p, hlt, hp1, hb⟩]
                have hbb : (lbit xs p != 0) = true := by simpa using hb
                clear hb HV
                generalize lbit xs p = bv at *
                go_wp2_with fail
                go_ret2
                rw [HD.out]
                exact ⟨rfl, HPW.out⟩
            · have e : p = 8 * L := by omega
              subst e
              have HD : Hid (runpack (D : Int) (N : Int) xs = some (nums D xs N)) := by
                show _ = _
                rw [HO.out, if_neg]
                rintro ⟨q, h1, h2, h3⟩
                exact h3 (HV.out q h2 h1)
              go_wp2_with fail
              go_ret2
              rw [HD.out]
              exact ⟨_, _, _, rfl, HSL.out, HPW.out⟩
    · have ho : runpack D N xs = none := by
        unfold runpack
        rw [if_pos]
        right; right; right; right; left
        rw [hlen]
        exact hz
      have hzb : ((L : Int) != sizeI D N) = true := by simpa using hz
      rw [ho]
      clear ho hz
      generalize sizeI D N = z at *
      go_enter Tryz.func30, Tryz.ntmps30
      go_wp2_with fail
      refine (HSZ.out _).mono ?_
      rintro e w' ⟨rfl, rfl⟩
      go_wp2_with fail
      go_ret2
      exact ⟨rfl, Below.refl _ _⟩

end Go.Proofs.YteflpbkdnebopaaGreatDoor
