/- The reference's Spread for longer bytes, and Key. -/
import Derived.Test.YteflpbkdnebopaaGreatDoorR18B
namespace Go.Proofs.YteflpbkdnebopaaGreatDoor
open Go.RowKit
set_option linter.unusedVariables false
set_option maxRecDepth 100000

set_option maxHeartbeats 4000000 in
theorem rspread18_any (s : Int) (k r : Nat) (w : World) (hs : 0 ≤ s ∧ s < 4294967296) (hk : 3 * k ≤ 4000) (hr : r < 3) :
    Calls Tryz.prog 21 #[.int .u32 s, .int .i64 ((3 * k + r : Nat) : Int)] w (OwnB (spB s k r) w) := by
  obtain ⟨s0, s1⟩ := hs
  obtain ⟨i32, hi3, hz30, hz31, hz32⟩ := info_parts info32
  obtain ⟨i8, hi8, hz80, hz81, hz82⟩ := info_parts info8
  obtain ⟨n, hn⟩ : ∃ n, 3 * k + r = n := ⟨_, rfl⟩
  obtain ⟨m, hm⟩ : ∃ m, 2 * k = m := ⟨_, rfl⟩
  have HD : Hid ((n : Int) / 3 = (k : Int) ∧ (n : Int).tdiv 3 = (k : Int) ∧ wrap64 (k : Int) = (k : Int) ∧ (k : Int) * 2 = (m : Int) ∧ wrap64 (m : Int) = (m : Int) ∧ IntKind.i64.wrap ((k : Int) * 2) = (m : Int) ∧ IntKind.i64.wrap (k : Int) = (k : Int)) := Lib.hid
    ⟨by omega, by rw [Int.tdiv_eq_ediv_of_nonneg (by omega)]; omega, IntWalk.wrap64_in _ (by omega), by omega, IntWalk.wrap64_in _ (by omega), by rw [IntKind.wrap_i64]; omega, by rw [IntKind.wrap_i64]; omega⟩
  have hn0 : (0 : Int) ≤ (n : Int) := by omega
  have HN := Lib.hid (And.intro hn (And.intro hm (And.intro hk hr)))
  rw [hn]
  clear hn hm hk hr
  go_enter Tryz.func21, Tryz.ntmps21
  go_wp2_with fail
  go_loopg [5, 6, 7] m (fun q s5 s6 s7 wx => ∃ (i : Nat) (x : Int), i ≤ m ∧ q = m - i ∧ s6 = .int .u64 x ∧ s7 = .int .i64 (i : Int) ∧ 0 ≤ x ∧ x < 18446744073709551616 ∧ Hid (x = sx15 s i) ∧ Hid (wx.ownsRow w.heap.size 22 1 s5 i ((sp15 s i).map (Value.int .u32)) ∧ Past w wx))
  case atStart => exact ⟨0, s, Nat.zero_le _, rfl, rfl, rfl, s0, by omega, Lib.hid rfl, Lib.hid ⟨⟨rfl, .inl ⟨rfl, rfl⟩⟩, Below.refl _ _⟩⟩
  case round =>
    obtain ⟨i, x, hi, hq, rfl, rfl, x0, x1, HX, HQ⟩ := hrel
    have HGQ := Lib.hid hq
    clear hq
    have hi0 : (0 : Int) ≤ (i : Int) := by omega
    by_cases hlt : i < m
    · have hii : (i : Int) < (m : Int) := by omega
      have HLT := Lib.hid hlt
      obtain ⟨p, hp⟩ : ∃ p, x * 6364136223846793005 % 18446744073709551616 = p := ⟨_, rfl⟩
      obtain ⟨y, hy⟩ : ∃ y, (p + 1442695040888963407) % 18446744073709551616 = y := ⟨_, rfl⟩
      have HY : Hid (y = sx15 s (i + 1)) := Lib.hid (by rw [← hy, ← hp, HX.out]; rfl)
      have y0 : 0 ≤ y := by omega
      have y1 : y < 18446744073709551616 := by omega
      have HYB : Hid (0 ≤ y ∧ y < 18446744073709551616) := Lib.hid ⟨y0, y1⟩
      have p0 : 0 ≤ p := by omega
      obtain ⟨v, hv⟩ : ∃ v, y / 8589934592 % 4294967296 = v := ⟨_, rfl⟩
      have v0 : 0 ≤ v := by omega
      have v1 : v < 4294967296 := by omega
      have hwp : IntKind.u64.wrap (x * 6364136223846793005) = p := by rw [IntKind.wrap_u64]; exact hp
      have hwy : IntKind.u64.wrap (p + 1442695040888963407) = y := by rw [IntKind.wrap_u64]; exact hy
      have hwv : IntKind.u32.wrap (y / 8589934592) = v := by rw [IntKind.wrap_u32]; exact hv
      have HSU : Hid (sp15 s (i + 1) = sp15 s i ++ [v % 3329]) := Lib.hid (by rw [sp15_succ, ← HY.out]; unfold nu15; rw [hv])
      have hb1 : i + 1 ≤ maxLen := by have := HN.out; unfold maxLen; omega
      have hb2 : (i + 1) * 4 ≤ 140737488355328 := by have := HN.out; omega
      clear hlt hi hp hy hv HX
      obtain ⟨hd, hd2, hw0, hmI, hw1, hw2, hw3⟩ := HD.out
      go_wp2_with (at_builtin; refine wpList_append_own _ rfl _ _ 67 rfl w.heap.size 22 i32 (.int .u32 0) 1 4 Tryz.underlying67 hi3 hz30 hz31 hz32 rfl (by decide) _ i _ rfl (HQ.out.1.alloc _) ⟨wr.heap.size, 0, none⟩ 1 1 [.int .u32 (v % 3329)] rfl rfl ?d1 ?d2 ?d3 ?d4 ?d5 ?_)
      case d1 => exact one_cell wr _ _
      case d2 => simp [Value.oneCell']
      case d3 => exact hb1
      case d4 => exact hb2
      case d5 => exact Nat.le_trans HQ.out.2.size (by simp)
      intro v' w1 hown1 hgrow1 _
      clear hd hd2 hw0 hmI hw1 hw2 hw3 hwp hwy hwv
      have HQ2 : Hid (w1.ownsRow w.heap.size 22 1 v' (i + 1) ((sp15 s (i + 1)).map (Value.int .u32)) ∧ Past w w1) := Lib.hid (by
        rw [HSU.out, List.map_append]
        exact ⟨hown1, (HQ.out.2.trans' ((Below.refl _ _).alloc (Nat.le_refl _) _)).grown hgrow1 (Nat.le_trans HQ.out.2.size (by simp)) (own_block_ge HQ.out.1)⟩)
      clear hown1 hgrow1 HQ
      go_wp2_with fail
      go_roundg (m - (i + 1))
      case rel => exact ⟨i + 1, y, HLT.out, rfl, rfl, by go_num, HYB.out.1, HYB.out.2, HY, HQ2⟩
      case measure => have := HGQ.out; have := HLT.out; omega
    · obtain rfl : i = m := by omega
      obtain ⟨hn, hm, hk, hr⟩ := HN.out
      obtain ⟨A, c, rfl⟩ := own_slice HQ.out.1
      have hS : SlK .u32 wr A i c (sp15 s i) := SlK.of_own HQ.out.1
      have HP := Lib.hid (rpack_own 12 A i c (sp15 s i) wr hS (fun j => by have := sp15_getD s i j; omega) (by omega))
      rw [← hm, pack12 (sp15 s (2 * k)) k (sp15_len _ _) (fun j _ => by have := sp15_getD s (2 * k) j; omega), hm] at HP
      have HPW := Lib.hid HQ.out.2
      have hnlt : ¬ (i : Int) < (i : Int) := by omega
      clear hS hn hm hk hr HQ hlt
      obtain ⟨hd, hd2, hw0, hmI, hw1, hw2, hw3⟩ := HD.out
      go_wp2_with fail
      clear hd hd2 hw0 hmI hw1 hw2 hw3
      refine HP.out.mono ?_
      rintro e w1 ⟨v0, rfl, hown, hrng, hp1⟩
      rw [packs_len] at hown
      have HQ0 : Hid (w1.ownsRow w.heap.size 5 1 v0 (3 * k + 0) ((spB s k 0).map (Value.int .u8)) ∧ Past w w1) := Lib.hid ⟨by
        have e1 : spB s k 0 = packs 12 (sp15 s i) (3 * k) := by obtain ⟨_, e2, _⟩ := HN.out; simp [spB, tl15, e2]
        rw [e1]; exact owns_lower hown HPW.out.size, HPW.out.trans' hp1⟩
      clear hown hrng hp1 HP
      go_wp2_with fail
      go_loopg [8] r (fun q s8 wx => ∃ t : Nat, t ≤ r ∧ q = r - t ∧ Hid (wx.ownsRow w.heap.size 5 1 s8 (3 * k + t) ((spB s k t).map (Value.int .u8)) ∧ Past w wx))
      case atStart => exact ⟨0, Nat.zero_le _, rfl, HQ0⟩
      case round =>
        clear HQ0
        obtain ⟨t, ht, hq2, HQ⟩ := hrel
        have HGQ2 := Lib.hid hq2
        clear hq2
        have hN := HN.out
        obtain ⟨L, hL⟩ : ∃ L, 3 * k + t = L := ⟨_, rfl⟩
        rw [hL] at HQ
        obtain ⟨A2, c2, rfl⟩ := own_slice HQ.out.1
        have HL := Lib.hid hL
        by_cases hlt : t < r
        · have hll : (L : Int) < (n : Int) := by omega
          have hL0 : (0 : Int) ≤ (L : Int) := by omega
          have hLb1 : L + 1 ≤ maxLen := by unfold maxLen; omega
          have hLb2 : (L + 1) * 1 ≤ 140737488355328 := by omega
          obtain ⟨a, ha⟩ : ∃ a, s % 256 = a := ⟨_, rfl⟩
          have hwa : IntKind.u8.wrap s = a := by rw [IntKind.wrap_u8]; exact ha
          obtain ⟨b, hb⟩ : ∃ b, (L : Int) % 256 = b := ⟨_, rfl⟩
          have hwb : IntKind.u8.wrap (L : Int) = b := by rw [IntKind.wrap_u8]; exact hb
          obtain ⟨z, hz⟩ : ∃ z, (a + b) % 256 = z := ⟨_, rfl⟩
          have hwz : IntKind.u8.wrap (a + b) = z := by rw [IntKind.wrap_u8]; exact hz
          have HZ : Hid (spB s k (t + 1) = spB s k t ++ [z]) := Lib.hid (by
            unfold spB
            rw [tl15_succ, ← List.append_assoc, hL]
            have e : (s + (L : Int)) % 256 = z := by omega
            rw [e])
          have HLT := Lib.hid hlt
          clear hlt ht hN hL ha hb hz
          go_wp2_with (at_builtin; refine wpList_append_own _ rfl _ _ 25 rfl w.heap.size 5 i8 (.int .u8 0) 1 1 Tryz.underlying25 hi8 hz80 hz81 hz82 rfl (by decide) _ L _ rfl (HQ.out.1.alloc _) ⟨wr.heap.size, 0, none⟩ 1 1 [.int .u8 z] rfl rfl ?e1 ?e2 ?e3 ?e4 ?e5 ?_)
          case e1 => exact one_cell wr _ _
          case e2 => simp [Value.oneCell']
          case e3 => exact hLb1
          case e4 => exact hLb2
          case e5 => exact Nat.le_trans HQ.out.2.size (by simp)
          intro v' w2 hown1 hgrow1 _
          clear hwa hwb hwz
          have HQ2 : Hid (w2.ownsRow w.heap.size 5 1 v' (3 * k + (t + 1)) ((spB s k (t + 1)).map (Value.int .u8)) ∧ Past w w2) := Lib.hid (by
            rw [HZ.out, List.map_append, ← Nat.add_assoc, HL.out]
            exact ⟨hown1, (HQ.out.2.trans' ((Below.refl _ _).alloc (Nat.le_refl _) _)).grown hgrow1 (Nat.le_trans HQ.out.2.size (by simp)) (own_block_ge HQ.out.1)⟩)
          clear hown1 hgrow1 HQ
          go_wp2_with fail
          go_roundg (r - (t + 1))
          case rel => exact ⟨t + 1, HLT.out, rfl, HQ2⟩
          case measure => have := HGQ2.out; have := HLT.out; omega
        · obtain rfl : t = r := by omega
          have hll : ¬ (L : Int) < (n : Int) := by omega
          have HO : Hid (wr.ownsRow w.heap.size 5 1 (.slice A2 L c2) (spB s k t).length ((spB s k t).map (Value.int .u8))) := Lib.hid (by rw [spB_len, hL]; exact HQ.out.1)
          clear hN hL ht hlt
          go_wp2_with fail
          go_ret
          exact ⟨_, rfl, HO.out, spB_rng s k t, HQ.out.2⟩

/-- The numbers of a small polynomial, and its bytes. -/
def nuK (z y : Int) : Int := y / 8589934592 % 4294967296 % z
def nsK (z s : Int) (i n : Nat) : List Int := (List.range n).map fun m => nuK z (sx15 s (256 * i + m + 1))
theorem nsK_len (z s : Int) (i n : Nat) : (nsK z s i n).length = n := by simp [nsK]
theorem nsK_succ (z s : Int) (i n : Nat) : nsK z s i (n + 1) = nsK z s i n ++ [nuK z (sx15 s (256 * i + n + 1))] := by simp [nsK, List.range_succ]
theorem nsK_rng {z : Int} (hz : 0 < z) (hz2 : z ≤ 9) (s : Int) (i n m : Nat) : 0 ≤ (nsK z s i n).getD m 0 ∧ (nsK z s i n).getD m 0 < z := by
  unfold nsK
  by_cases h : m < n
  · simp only [List.getD_eq_getElem?_getD, List.getElem?_map, List.getElem?_range h, Option.map_some, Option.getD_some]
    unfold nuK
    exact ⟨Int.emod_nonneg _ (by omega), Int.emod_lt_of_pos _ hz⟩
  · rw [List.getD_eq_getElem?_getD, List.getElem?_eq_none (by simp; omega)]
    exact ⟨Int.le_refl _, hz⟩
def pkK (D : Nat) (z s : Int) (i : Nat) : List Int := packs D (nsK z s i 256) (32 * D)
theorem pkK_len (D : Nat) (z s : Int) (i : Nat) : (pkK D z s i).length = 32 * D := packs_len _ _ _
def bdK (D : Nat) (z s : Int) : Nat → List Int
  | 0 => []
  | i + 1 => bdK D z s i ++ pkK D z s i
theorem bdK_len (D : Nat) (z s : Int) (n : Nat) : (bdK D z s n).length = n * (32 * D) := by
  induction n with
  | zero => simp [bdK]
  | succ n ih =>
    rw [bdK, List.length_append, ih, pkK_len]
    exact (Nat.succ_mul _ _).symm
theorem bdK_rng (D : Nat) (z s : Int) (n : Nat) : ∀ x ∈ bdK D z s n, 0 ≤ x ∧ x < 256 := by
  induction n with
  | zero => intro x hx; cases hx
  | succ n ih =>
    intro x hx
    rcases List.mem_append.1 hx with h | h
    · exact ih x h
    · exact packs_rng _ _ _ x h
/-- The head of a key, with i polynomials behind it. -/
def hdK (D : Nat) (z s : Int) (i : Nat) : List Int := spB s 42 0 ++ [1, 2] ++ bdK D z s i
theorem hdK_len (D : Nat) (z s : Int) (i : Nat) : (hdK D z s i).length = 128 + i * (32 * D) := by
  unfold hdK
  rw [List.length_append, List.length_append, spB_len, bdK_len]
  simp
theorem hdK_succ (D : Nat) (z s : Int) (i : Nat) : hdK D z s (i + 1) = hdK D z s i ++ pkK D z s i := by
  unfold hdK
  rw [bdK, ← List.append_assoc]
theorem hdK_rng (D : Nat) (z s : Int) (i : Nat) : ∀ x ∈ hdK D z s i, 0 ≤ x ∧ x < 256 := by
  intro x hx
  unfold hdK at hx
  simp only [List.mem_append, List.mem_cons, List.mem_nil_iff, or_false] at hx
  rcases hx with (h | h | h) | h
  · exact spB_rng _ _ _ x h
  · omega
  · omega
  · exact bdK_rng _ _ _ _ x h
/-- A key that is made from a number. -/
def keyB (a s : Int) : List Int := hdK (wD a) (2 * (eD a : Int) + 1) s (kD a + lD a) ++ spB (w32 (s + 1)) (416 * kD a / 3) (416 * kD a % 3)
theorem keyB_len (a s : Int) : (keyB a s).length = sD a := by
  unfold keyB sD zD
  rw [List.length_append, hdK_len, spB_len, Nat.mul_comm (kD a + lD a)]
  omega
theorem keyB_rng (a s : Int) : ∀ x ∈ keyB a s, 0 ≤ x ∧ x < 256 := by
  intro x hx
  rcases List.mem_append.1 hx with h | h
  · exact hdK_rng _ _ _ _ x h
  · exact spB_rng _ _ _ x h
theorem packK {D : Nat} (d1 : 1 ≤ D) (d2 : D ≤ 32) {z : Int} (hz : 0 < z) (hz2 : z ≤ 9) (hzD : z ≤ 2 ^ D) (s : Int) (i : Nat) : rpack (D : Int) (nsK z s i 256) = some (pkK D z s i) := by
  unfold rpack
  rw [if_neg, nsK_len]
  · congr 1
    show packs (D : Int).toNat _ (nbytes (D : Int).toNat 256) = _
    rw [Int.toNat_natCast]
    unfold pkK nbytes
    congr 1
    omega
  · rintro (h1 | h1 | ⟨m, h1, h2⟩)
    · omega
    · omega
    · have := nsK_rng hz hz2 s i 256 m
      rw [Int.toNat_natCast] at h2
      omega
theorem Row.ne18 {w : World} {g : Nat} {t u : TypeId} {cs ds : Array Value} (r : Row w g t cs) (s : Row w g u ds) (ht : t ≠ u) : False := by
  unfold Row at r s
  rw [r] at s
  injection s with s
  injection s with _ s
  exact ht s
theorem own_apart18 {w : World} {b b' : Nat} {e e' : TypeId} {z z' n n' : Nat} {v v' : Value} {xs xs' : List Value} (h : w.ownsRow b e z v n xs) (h' : w.ownsRow b' e' z' v' n' xs') (he : e ≠ e') {w' : World} (hg : w.grownBy w' v'.ownBlock) : w'.ownsRow b e z v n xs := by
  refine h.kept hg ?_
  rcases h.2 with ⟨h1, _⟩ | ⟨g, cap, cur, h1, _, h3, _⟩
  · exact .inl (by rw [h1]; rfl)
  · refine .inr ?_
    rcases h'.2 with ⟨k1, _⟩ | ⟨g', cap', cur', k1, _, k3, _⟩
    · rw [h1, k1]
      intro e2
      cases e2
    · rw [h1, k1]
      intro e2
      have e3 : g = g' := by simpa [Value.ownBlock] using e2
      subst e3
      have r1 : Row w g e cur := h3
      have r2 : Row w g e' cur' := k3
      exact Row.ne18 r1 r2 he
end Go.Proofs.YteflpbkdnebopaaGreatDoor
