/- The reference's First. The reference's Spread and Bytes. -/
import Derived.Test.YteflpbkdnebopaaGreatDoorB5
import Derived.IntWalk
namespace Go.Proofs.YteflpbkdnebopaaGreatDoor
open Go.RowKit
set_option linter.unusedVariables false
set_option maxRecDepth 100000

end Go.Proofs.YteflpbkdnebopaaGreatDoor

namespace Go.Proofs.YteflpbkdnebopaaGreatDoor
open Go.RowKit
set_option linter.unusedVariables false
set_option maxRecDepth 100000

def nx15 (x : Int) : Int := (x * 6364136223846793005 % 18446744073709551616 + 1442695040888963407) % 18446744073709551616
def sx15 (s : Int) : Nat → Int
  | 0 => s
  | i + 1 => nx15 (sx15 s i)
def nu15 (y : Int) : Int := y / 8589934592 % 4294967296 % 3329
/-- The first n numbers. -/
def sp15 (s : Int) (n : Nat) : List Int := (List.range n).map fun i => nu15 (sx15 s (i + 1))
theorem sp15_len (s : Int) (n : Nat) : (sp15 s n).length = n := by simp [sp15]
theorem sp15_succ (s : Int) (n : Nat) : sp15 s (n + 1) = sp15 s n ++ [nu15 (sx15 s (n + 1))] := by simp [sp15, List.range_succ]
theorem sp15_getD (s : Int) (n i : Nat) : 0 ≤ (sp15 s n).getD i 0 ∧ (sp15 s n).getD i 0 < 3329 := by
  unfold sp15
  by_cases h : i < n
  · simp only [List.getD_eq_getElem?_getD, List.getElem?_map, List.getElem?_range h, Option.map_some, Option.getD_some]
    unfold nu15
    omega
  · rw [List.getD_eq_getElem?_getD, List.getElem?_eq_none (by simp; omega)]
    exact ⟨Int.le_refl _, by decide⟩
/-- The bytes behind the packing. -/
def tl15 (s : Int) (a n : Nat) : List Int := (List.range n).map fun j => (s + ((a + j : Nat) : Int)) % 256
theorem tl15_succ (s : Int) (a n : Nat) : tl15 s a (n + 1) = tl15 s a n ++ [(s + ((a + n : Nat) : Int)) % 256] := by simp [tl15, List.range_succ]
theorem tl15_len (s : Int) (a n : Nat) : (tl15 s a n).length = n := by simp [tl15]
/-- What Spread returns: k groups of 3 bytes and r more. -/
def spB (s : Int) (k r : Nat) : List Int := packs 12 (sp15 s (2 * k)) (3 * k) ++ tl15 s (3 * k) r
theorem spB_len (s : Int) (k r : Nat) : (spB s k r).length = 3 * k + r := by simp [spB, packs_len, tl15_len]
theorem spB_rng (s : Int) (k r : Nat) : ∀ x ∈ spB s k r, 0 ≤ x ∧ x < 256 := by
  intro x hx
  rcases List.mem_append.1 hx with h | h
  · exact packs_rng _ _ _ x h
  · simp only [tl15, List.mem_map, List.mem_range] at h
    obtain ⟨j, _, rfl⟩ := h
    omega
theorem spB_low (s : Int) (k i : Nat) (hi : i < 2 * k) : n12 (spB s k 0) i ≤ 3328 := by
  have e : spB s k 0 = packs 12 (sp15 s (2 * k)) (3 * k) := by simp [spB, tl15]
  have h := sp15_getD s (2 * k) i
  rw [e, n12_packs _ _ _ (sp15_len _ _) hi h.1 (by omega)]
  omega
/-- What a call hands back in memory of its own: bytes. -/
def OwnB (xs : List Int) (w : World) (e : Ending) (w' : World) : Prop :=
  ∃ v, e = .returned v ∧ w'.ownsRow w.heap.size 5 1 v xs.length (xs.map (Value.int .u8)) ∧ (∀ x ∈ xs, 0 ≤ x ∧ x < 256) ∧ Past w w'

set_option maxHeartbeats 4000000 in
theorem rspread15_any (s : Int) (k r : Nat) (w : World) (hs : 0 ≤ s ∧ s < 4294967296) (hk : 3 * k ≤ 2000) (hr : r < 3) :
    Calls Tryz.prog 21 #[.int .u32 s, .int .i64 ((3 * k + r : Nat) : Int)] w (OwnB (spB s k r) w) := by
  obtain ⟨s0, s1⟩ := hs
  obtain ⟨i32, hi3, hz30, hz31, hz32⟩ := info_parts info32
  obtain ⟨i8, hi8, hz80, hz81, hz82⟩ := info_parts info8
  obtain ⟨n, hn⟩ : ∃ n, 3 * k + r = n := ⟨_, rfl⟩
  obtain ⟨m, hm⟩ : ∃ m, 2 * k = m := ⟨_, rfl⟩
  have HD : Hid ((n : Int) / 3 = (k : Int) ∧ (n : Int).tdiv 3 = (k : Int) ∧ wrap64 (k : Int) = (k : Int) ∧ (k : Int) * 2 = (m : Int) ∧ wrap64 (m : Int) = (m : Int) ∧ IntKind.i64.wrap ((k : Int) * 2) = (m : Int) ∧ IntKind.i64.wrap (k : Int) = (k : Int)) := Lib.hid
    ⟨by omega, by rw [Int.tdiv_eq_ediv_of_nonneg (by omega)]; omega, IntWalk.wrap64_in _ (by omega), by omega, IntWalk.wrap64_in _ (by omega), by rw [IntKind.wrap_i64]; omega, by rw [IntKind.wrap_i64]; omega⟩
  have hn0 : (0 : Int) ≤ (n : Int) := by omega
  have HN := Lib.hid (And.intro hn (And.intro hm (And.intro hk hr)))
  rw [hn]
  clear hn hm hk hr
  go_enter Tryz.func21, Tryz.ntmps21
  go_wp2_with fail
  go_loopg [5, 6, 7] m (fun q s5 s6 s7 wx => ∃ (i : Nat) (x : Int), i ≤ m ∧ q = m - i ∧ s6 = .int .u64 x ∧ s7 = .int .i64 (i : Int) ∧ 0 ≤ x ∧ x < 18446744073709551616 ∧ Hid (x = sx15 s i) ∧ Hid (wx.ownsRow w.heap.size 22 1 s5 i ((sp15 s i).map (Value.int .u32)) ∧ Past w wx))
  case atStart => exact ⟨0, s, Nat.zero_le _, rfl, rfl, rfl, s0, by omega, Lib.hid rfl, Lib.hid ⟨⟨rfl, .inl ⟨rfl, rfl⟩⟩, Below.refl _ _⟩⟩
  case round =>
    obtain ⟨i, x, hi, hq, rfl, rfl, x0, x1, HX, HQ⟩ := hrel
    have HGQ := Lib.hid hq
    clear hq
    have hi0 : (0 : Int) ≤ (i : Int) := by omega
    by_cases hlt : i < m
    · have hii : (i : Int) < (m : Int) := by omega
      have HLT := Lib.hid hlt
      obtain ⟨p, hp⟩ : ∃ p, x * 6364136223846793005 % 18446744073709551616 = p := ⟨_, rfl⟩
      obtain ⟨y, hy⟩ : ∃ y, (p + 1442695040888963407) % 18446744073709551616 = y := ⟨_, rfl⟩
      have HY : Hid (y = sx15 s (i + 1)) := Lib.hid (by rw [← hy, ← hp, HX.out]; rfl)
      have y0 : 0 ≤ y := by omega
      have y1 : y < 18446744073709551616 := by omega
      have HYB : Hid (0 ≤ y ∧ y < 18446744073709551616) := Lib.hid ⟨y0, y1⟩
      have p0 : 0 ≤ p := by omega
      obtain ⟨v, hv⟩ : ∃ v, y / 8589934592 % 4294967296 = v := ⟨_, rfl⟩
      have v0 : 0 ≤ v := by omega
      have v1 : v < 4294967296 := by omega
      have hwp : IntKind.u64.wrap (x * 6364136223846793005) = p := by rw [IntKind.wrap_u64]; exact hp
      have hwy : IntKind.u64.wrap (p + 1442695040888963407) = y := by rw [IntKind.wrap_u64]; exact hy
      have hwv : IntKind.u32.wrap (y / 8589934592) = v := by rw [IntKind.wrap_u32]; exact hv
      have HSU : Hid (sp15 s (i + 1) = sp15 s i ++ [v % 3329]) := Lib.hid (by rw [sp15_succ, ← HY.out]; unfold nu15; rw [hv])
      have hb1 : i + 1 ≤ maxLen := by have := HN.out; unfold maxLen; omega
      have hb2 : (i + 1) * 4 ≤ 140737488355328 := by have := HN.out; omega
      clear hlt hi hp hy hv HX
      obtain ⟨hd, hd2, hw0, hmI, hw1, hw2, hw3⟩ := HD.out
      go_wp2_with (at_builtin; refine wpList_append_own _ rfl _ _ 67 rfl w.heap.size 22 i32 (.int .u32 0) 1 4 Tryz.underlying67 hi3 hz30 hz31 hz32 rfl (by decide) _ i _ rfl (HQ.out.1.alloc _) ⟨wr.heap.size, 0, none⟩ 1 1 [.int .u32 (v % 3329)] rfl rfl ?d1 ?d2 ?d3 ?d4 ?d5 ?_)
      case d1 => exact one_cell wr _ _
      case d2 => simp [Value.oneCell']
      case d3 => exact hb1
      case d4 => exact hb2
      case d5 => exact Nat.le_trans HQ.out.2.size (by simp)
      intro v' w1 hown1 hgrow1 _
      clear hd hd2 hw0 hmI hw1 hw2 hw3 hwp hwy hwv
      have HQ2 : Hid (w1.ownsRow w.heap.size 22 1 v' (i + 1) ((sp15 s (i + 1)).map (Value.int .u32)) ∧ Past w w1) := Lib.hid (by
        rw [HSU.out, List.map_append]
        exact ⟨hown1, (HQ.out.2.trans' ((Below.refl _ _).alloc (Nat.le_refl _) _)).grown hgrow1 (Nat.le_trans HQ.out.2.size (by simp)) (own_block_ge HQ.out.1)⟩)
      clear hown1 hgrow1 HQ
      go_wp2_with fail
      go_roundg (m - (i + 1))
      case rel => exact ⟨i + 1, y, HLT.out, rfl, rfl, by go_num, HYB.out.1, HYB.out.2, HY, HQ2⟩
      case measure => have := HGQ.out; have := HLT.out; omega
    · obtain rfl : i = m := by omega
      obtain ⟨hn, hm, hk, hr⟩ := HN.out
      obtain ⟨A, c, rfl⟩ := own_slice HQ.out.1
      have hS : SlK .u32 wr A i c (sp15 s i) := SlK.of_own HQ.out.1
      have HP := Lib.hid (rpack_own 12 A i c (sp15 s i) wr hS (fun j => by have := sp15_getD s i j; omega) (by omega))
      rw [← hm, pack12 (sp15 s (2 * k)) k (sp15_len _ _) (fun j _ => by have := sp15_getD s (2 * k) j; omega), hm] at HP
      have HPW := Lib.hid HQ.out.2
      have hnlt : ¬ (i : Int) < (i : Int) := by omega
      clear hS hn hm hk hr HQ hlt
      obtain ⟨hd, hd2, hw0, hmI, hw1, hw2, hw3⟩ := HD.out
      go_wp2_with fail
      clear hd hd2 hw0 hmI hw1 hw2 hw3
      refine HP.out.mono ?_
      rintro e w1 ⟨v0, rfl, hown, hrng, hp1⟩
      rw [packs_len] at hown
      have HQ0 : Hid (w1.ownsRow w.heap.size 5 1 v0 (3 * k + 0) ((spB s k 0).map (Value.int .u8)) ∧ Past w w1) := Lib.hid ⟨by
        have e1 : spB s k 0 = packs 12 (sp15 s i) (3 * k) := by obtain ⟨_, e2, _⟩ := HN.out; simp [spB, tl15, e2]
        rw [e1]; exact owns_lower hown HPW.out.size, HPW.out.trans' hp1⟩
      clear hown hrng hp1 HP
      go_wp2_with fail
      go_loopg [8] r (fun q s8 wx => ∃ t : Nat, t ≤ r ∧ q = r - t ∧ Hid (wx.ownsRow w.heap.size 5 1 s8 (3 * k + t) ((spB s k t).map (Value.int .u8)) ∧ Past w wx))
      case atStart => exact ⟨0, Nat.zero_le _, rfl, HQ0⟩
      case round =>
        clear HQ0
        obtain ⟨t, ht, hq2, HQ⟩ := hrel
        have HGQ2 := Lib.hid hq2
        clear hq2
        have hN := HN.out
        obtain ⟨L, hL⟩ : ∃ L, 3 * k + t = L := ⟨_, rfl⟩
        rw [hL] at HQ
        obtain ⟨A2, c2, rfl⟩ := own_slice HQ.out.1
        have HL := Lib.hid hL
        by_cases hlt : t < r
        · have hll : (L : Int) < (n : Int) := by omega
          have hL0 : (0 : Int) ≤ (L : Int) := by omega
          have hLb1 : L + 1 ≤ maxLen := by unfold maxLen; omega
          have hLb2 : (L + 1) * 1 ≤ 140737488355328 := by omega
          obtain ⟨a, ha⟩ : ∃ a, s % 256 = a := ⟨_, rfl⟩
          have hwa : IntKind.u8.wrap s = a := by rw [IntKind.wrap_u8]; exact ha
          obtain ⟨b, hb⟩ : ∃ b, (L : Int) % 256 = b := ⟨_, rfl⟩
          have hwb : IntKind.u8.wrap (L : Int) = b := by rw [IntKind.wrap_u8]; exact hb
          obtain ⟨z, hz⟩ : ∃ z, (a + b) % 256 = z := ⟨_, rfl⟩
          have hwz : IntKind.u8.wrap (a + b) = z := by rw [IntKind.wrap_u8]; exact hz
          have HZ : Hid (spB s k (t + 1) = spB s k t ++ [z]) := Lib.hid (by
            unfold spB
            rw [tl15_succ, ← List.append_assoc, hL]
            have e : (s + (L : Int)) % 256 = z := by omega
            rw [e])
          have HLT := Lib.hid hlt
          clear hlt ht hN hL ha hb hz
          go_wp2_with (at_builtin; refine wpList_append_own _ rfl _ _ 25 rfl w.heap.size 5 i8 (.int .u8 0) 1 1 Tryz.underlying25 hi8 hz80 hz81 hz82 rfl (by decide) _ L _ rfl (HQ.out.1.alloc _) ⟨wr.heap.size, 0, none⟩ 1 1 [.int .u8 z] rfl rfl ?e1 ?e2 ?e3 ?e4 ?e5 ?_)
          case e1 => exact one_cell wr _ _
          case e2 => simp [Value.oneCell']
          case e3 => exact hLb1
          case e4 => exact hLb2
          case e5 => exact Nat.le_trans HQ.out.2.size (by simp)
          intro v' w2 hown1 hgrow1 _
          clear hwa hwb hwz
          have HQ2 : Hid (w2.ownsRow w.heap.size 5 1 v' (3 * k + (t + 1)) ((spB s k (t + 1)).map (Value.int .u8)) ∧ Past w w2) := Lib.hid (by
            rw [HZ.out, List.map_append, ← Nat.add_assoc, HL.out]
            exact ⟨hown1, (HQ.out.2.trans' ((Below.refl _ _).alloc (Nat.le_refl _) _)).grown hgrow1 (Nat.le_trans HQ.out.2.size (by simp)) (own_block_ge HQ.out.1)⟩)
          clear hown1 hgrow1 HQ
          go_wp2_with fail
          go_roundg (r - (t + 1))
          case rel => exact ⟨t + 1, HLT.out, rfl, HQ2⟩
          case measure => have := HGQ2.out; have := HLT.out; omega
        · obtain rfl : t = r := by omega
          have hll : ¬ (L : Int) < (n : Int) := by omega
          have HO : Hid (wr.ownsRow w.heap.size 5 1 (.slice A2 L c2) (spB s k t).length ((spB s k t).map (Value.int .u8))) := Lib.hid (by rw [spB_len, hL]; exact HQ.out.1)
          clear hN hL ht hlt
          go_wp2_with fail
          go_ret
          exact ⟨_, rfl, HO.out, spB_rng s k t, HQ.out.2⟩
end Go.Proofs.YteflpbkdnebopaaGreatDoor
