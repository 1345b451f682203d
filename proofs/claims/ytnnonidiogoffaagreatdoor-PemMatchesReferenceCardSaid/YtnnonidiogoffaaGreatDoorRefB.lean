/- Contract of the reference of base 64: the bits of bytes. -/
import Derived.Test.YtnnonidiogoffaaGreatDoorRefA
import Derived.Laws.AppendOwn
import Derived.Outline
import Derived.Deep.LoopGhost
namespace Go.Proofs.YtnnonidiogoffaaGreatDoor
open Go.RowKit

/-- Bit p of bytes, the highest one of each byte first. -/
def bitAt (xs : List Int) (p : Nat) : Int := xs.getD (p / 8) 0 / 2 ^ (7 - p % 8) % 2
def bitsTo (xs : List Int) (p : Nat) : List Int := (List.range p).map (bitAt xs)
theorem bitsTo_len (xs : List Int) (p : Nat) : (bitsTo xs p).length = p := by simp [bitsTo]
theorem bitsTo_succ (xs : List Int) (p : Nat) : bitsTo xs (p + 1) = bitsTo xs p ++ [bitAt xs p] := by simp [bitsTo, List.range_succ]
theorem bitsTo_zero (xs : List Int) : bitsTo xs 0 = [] := rfl

theorem i64_low (n : Int) : bits .and .i64 n 1 = n % 2 := by
  have h1 : (BitVec.ofInt 64 1).toNat = 2 ^ 1 - 1 := by decide
  have key : (BitVec.ofInt 64 n &&& BitVec.ofInt 64 1).toNat = (n % ((2 ^ 64 : Nat) : Int)).toNat % 2 ^ 1 := by
    rw [BitVec.toNat_and, BitVec.toNat_ofInt, h1, Nat.and_two_pow_sub_one_eq_mod]
  show IntKind.i64.wrap ((BitVec.ofInt 64 n &&& BitVec.ofInt 64 1).toNat : Nat) = n % 2
  rw [key, IntKind.wrap_i64]
  omega
theorem bitAt_in (xs : List Int) (i t : Nat) (ht : t < 8) : bitAt xs (8 * i + t) = xs.getD i 0 / 2 ^ (7 - t) % 2 := by
  unfold bitAt
  rw [show (8 * i + t) / 8 = i by omega, show (8 * i + t) % 8 = t by omega]

theorem info64 : (Tryz.prog.info? 3).map (fun i => (i.zero, i.size, i.bytes)) = some (some (.int .i64 0), 1, 8) := by kernel_rfl

/-- The block of what a call owns is new. -/
theorem own_block_ge {w : World} {base : Nat} {e : TypeId} {size : Nat} {v : Value} {n : Nat} {xs : List Value} (h : w.ownsRow base e size v n xs) : ∀ g, v.ownBlock = some g → base ≤ g := by
  intro g hg
  rcases h.2 with ⟨h1, _⟩ | ⟨b, cap, cur, h1, h2, _⟩
  · subst h1
    cases hg
  · subst h1
    cases hg
    exact h2

set_option maxRecDepth 100000 in
set_option maxHeartbeats 2000000 in
theorem rbits_any (A : Option Addr) (n c : Nat) (xs : List Int) (w : World) (hS : Sl w A n c xs) (hn : n ≤ 1000000) :
    Calls Tryz.prog 54 #[.slice A n c] w fun e w' => ∃ v, e = .returned v ∧ w'.ownsRow w.heap.size 3 1 v (8 * n) ((bitsTo xs (8 * n)).map (Value.int .i64)) ∧ Past w w' := by
  have HS := Lib.hid hS
  obtain ⟨i0, hi, hz0, hz1, hz2⟩ := info_parts info64
  clear hS
  go_enter Tryz.func54, Tryz.ntmps54
  go_wp2
  go_loopg [3, 4] n (fun k s3 s4 wx => ∃ i : Nat, i ≤ n ∧ k = n - i ∧ s4 = .int .i64 (i : Int) ∧ Hid (wx.ownsRow w.heap.size 3 1 s3 (8 * i) ((bitsTo xs (8 * i)).map (Value.int .i64)) ∧ Past w wx))
  case atStart => exact ⟨0, Nat.zero_le _, rfl, rfl, ⟨rfl, .inl ⟨rfl, rfl⟩⟩, Below.refl _ _⟩
  case round =>
    obtain ⟨i, hin, hgk, rfl, HO⟩ := hrel
    have HGK := Lib.hid hgk
    clear hgk
    obtain ⟨wo, rfl⟩ : ∃ wo : World, wo = wr := ⟨_, rfl⟩
    by_cases hlt : i < n
    · go_wp2
      go_loopg [3, 5] 8 (fun k s3 s5 wx => ∃ t : Nat, t ≤ 8 ∧ k = 8 - t ∧ s5 = .int .i64 (7 - (t : Int)) ∧ Hid (wx.ownsRow w.heap.size 3 1 s3 (8 * i + t) ((bitsTo xs (8 * i + t)).map (Value.int .i64)) ∧ Past w wx))
      case atStart => exact ⟨0, by omega, rfl, by first | rfl | go_num, HO⟩
      case round =>
        clear HO
        obtain ⟨t, ht, hgk, rfl, HO⟩ := hrel
        have HGK2 := Lib.hid hgk
        clear hgk
        by_cases hlt2 : t < 8
        · obtain ⟨b, o, rfl, hc⟩ := (HS.out.past HO.out.2).bytes (by omega)
          have hx := hc i hlt
          clear hc
          have hi0 : (0 : Int) ≤ (i : Int) := by omega
          have hin1 : (i : Int) < (n : Int) := by omega
          have hr := HS.out.rng (xs.getD i 0) (by
            have := HS.out.len
            rw [List.getD_eq_getElem?_getD, List.getElem?_eq_getElem (by omega)]
            exact List.getElem_mem _)
          have hbit : bits .and .i64 (xs.getD i 0 / 2 ^ (7 - t)) 1 = bitAt xs (8 * i + t) := by rw [i64_low, bitAt_in xs i t hlt2]
          obtain ⟨hr0, hr1⟩ := hr
          have HB := Lib.hid (bitsTo_succ xs (8 * i + t))
          generalize xs.getD i 0 = y at hx hr0 hr1 hbit
          generalize bitAt xs (8 * i + t) = bv at hbit HB
          go_wp2_with (at_builtin; refine wpList_append_own _ rfl _ _ 72 rfl w.heap.size 3 i0 (.int .i64 0) 1 8 Tryz.underlying72 hi hz0 hz1 hz2 rfl (by decide) _ (8 * i + t) _ rfl (HO.out.1.alloc _) ⟨wr.heap.size, 0, none⟩ 1 1 [.int .i64 bv] rfl rfl ?c1 ?c2 ?c3 ?c4 ?c5 ?_)
          case c1 =>
            intro j u hj
            cases j with
            | zero =>
              simp at hj
              subst hj
              rw [add_none, World.cell?_alloc_new]
              rfl
            | succ j => simp at hj
          case c2 => simp [Value.oneCell']
          case c3 => unfold maxLen; omega
          case c4 => omega
          case c5 => exact Nat.le_trans HO.out.2.size (by simp)
          intro v' w1 hown1 hgrow1 _
          have HO2 : Hid (w1.ownsRow w.heap.size 3 1 v' (8 * i + (t + 1)) ((bitsTo xs (8 * i + (t + 1))).map (Value.int .i64)) ∧ Past w w1) := by
            have e : 8 * i + (t + 1) = 8 * i + t + 1 := by omega
            rw [e, HB.out, List.map_append]
            exact ⟨hown1, (HO.out.2.trans' ((Below.refl _ _).alloc (Nat.le_refl _) _)).grown hgrow1 (Nat.le_trans HO.out.2.size (by simp)) (own_block_ge HO.out.1)⟩
          clear hown1 hgrow1 HO
          go_wp2
          go_roundg (8 - (t + 1))
          case rel => exact ⟨t + 1, by omega, rfl, by first | go_num | (congr 1; omega), HO2⟩
          case measure => have := HGK2.out; omega
        · obtain rfl : t = 8 := by omega
          have HO2 : Hid (wr.ownsRow w.heap.size 3 1 u3 (8 * (i + 1)) ((bitsTo xs (8 * (i + 1))).map (Value.int .i64)) ∧ Past w wr) := by
            have e : 8 * (i + 1) = 8 * i + 8 := by omega
            rw [e]
            exact HO.out
          go_wp2
          go_roundg (n - (i + 1))
          case rel => exact ⟨i + 1, by omega, rfl, by go_num, HO2⟩
          case measure => have := HGK.out; omega
    · obtain rfl : i = n := by omega
      go_wp2
      go_ret
      exact ⟨_, rfl, HO.out⟩

end Go.Proofs.YtnnonidiogoffaaGreatDoor
