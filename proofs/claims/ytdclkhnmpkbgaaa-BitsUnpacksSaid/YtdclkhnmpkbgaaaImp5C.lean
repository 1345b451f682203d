/- The program's Pack. -/
import Derived.Test.YtdclkhnmpkbgaaaNum5
import Derived.Laws.MakeOwn
namespace Go.Proofs.Ytdclkhnmpkbgaaa
open Go.RowKit

theorem make0 (N : Nat) (hN : N ≤ 1000000) (w : World) : ∃ w', (Instr.makeSlice 24 (.int .i64 0) (.int .i64 (N : Int))).run Try.prog w = .ok (.slice (some ⟨w.heap.size, 0, none⟩) 0 N) w' ∧
    w'.ownsRow w.heap.size 5 1 (.slice (some ⟨w.heap.size, 0, none⟩) 0 N) 0 (([] : List Int).map (Value.int .u8)) ∧ Past w w' := by
  obtain ⟨i0, hi, hz0, hz1, hz2⟩ := info_parts info8
  obtain ⟨w', h1, h2, h3⟩ := run_make_own (P := Try.prog) w w.heap.size 24 5 i0 (.int .u8 0) 1 Try.underlying24 hi hz0 hz1 .i64 .i64 N (by rw [hz2]; omega) (by unfold maxLen; omega) (Nat.le_refl _)
  exact ⟨w', h1, h2, ⟨h3.os, h3.tape, h3.output, h3.size, fun i hi => h3.block i hi (by simp)⟩⟩

theorem rpack_none_of {d : Int} {ls : List Int} {n : Nat} (hl : ls.length = n) (hn : n ≤ 10000) (h0 : ∀ i, 0 ≤ ls.getD i 0) (h : fits d n = false ∨ wideB d ls n = true) : rpack d ls = none := by
  unfold rpack
  rw [if_pos]
  by_cases hd : d < 1
  · exact .inl hd
  by_cases hd2 : 32 < d
  · exact .inr (.inl hd2)
  refine .inr (.inr ?_)
  rcases h with h | h
  · simp [fits] at h
    omega
  · obtain ⟨i, hi, hw⟩ := List.any_eq_true.1 h
    have hw := of_decide_eq_true hw
    refine ⟨i, by rw [hl]; exact List.mem_range.1 hi, fun hlt => ?_⟩
    have h1 : (ls.getD i 0).toNat < 2 ^ d.toNat := by
      have := h0 i
      have e : ((2 ^ d.toNat : Nat) : Int) = 2 ^ d.toNat := Int.natCast_pow 2 d.toNat
      omega
    have := (leastN_le d.toNat _).2 h1
    omega
theorem rpack_some_of {D : Nat} {ls : List Int} {n : Nat} (hl : ls.length = n) (hf : fits (D : Int) n = true) (h : ∀ i, i < n → ls.getD i 0 < 2 ^ D) : rpack (D : Int) ls = some (packs D ls (nbytes D n)) := by
  have := fits_true hf
  unfold rpack
  rw [hl, Int.toNat_natCast, if_neg]
  rintro (h1 | h1 | ⟨i, h1, h2⟩)
  · omega
  · omega
  · exact h2 (h i h1)
theorem narrow {D : Nat} {ls : List Int} {n : Nat} (h0 : ∀ i, 0 ≤ ls.getD i 0) (h : wideB (D : Int) ls n = false) (i : Nat) (hi : i < n) : ls.getD i 0 < 2 ^ D := by
  have h1 := wideB_false h i hi
  have h2 := (leastN_le D (ls.getD i 0).toNat).1 (by omega)
  have e : ((2 ^ D : Nat) : Int) = 2 ^ D := Int.natCast_pow 2 D
  have := h0 i
  omega

/-- What the two loops keep: the bytes that are written, and the bits that are held. -/
def PG (D : Nat) (ls : List Int) (q : Nat) (v : Value) (w wx : World) : Prop :=
  wx.ownsRow w.heap.size 5 1 v q ((packs D ls q).map (Value.int .u8)) ∧ Past w wx

theorem PG.push {D : Nat} {ls : List Int} {q : Nat} {v v' : Value} {w wr w' : World} {o : Obj} {cc : Int} (h : PG D ls q v w wr) (hc : packs D ls (q + 1) = packs D ls q ++ [cc])
    (h1 : w'.ownsRow w.heap.size 5 1 v' (q + 1) ((packs D ls q).map (Value.int .u8) ++ [Value.int .u8 cc])) (h2 : (wr.alloc o).grownBy w' v.ownBlock) : PG D ls (q + 1) v' w w' := by
  refine ⟨?_, (h.2.trans' ((Below.refl _ _).alloc (Nat.le_refl _) _)).grown h2 (Nat.le_trans h.2.size (by simp)) (own_block_ge h.1)⟩
  rw [hc, List.map_append]
  exact h1
theorem PG.done {D : Nat} {ls : List Int} {q : Nat} {v : Value} {w0 w wx : World} (h : PG D ls q v w wx) (hp : Past w0 w) : ROpt (some (packs D ls q)) w0 (.returned (.tuple #[v, .bool true])) wx := by
  obtain ⟨A, c, rfl⟩ := own_slice h.1
  exact ⟨A, q, c, rfl, Sl.of_own h.1 (packs_rng D ls q), hp.trans' h.2⟩
/-- The last byte, if bits are left. -/
theorem last_byte {D : Nat} {ls : List Int} {q r : Nat} (hD : 0 < D) (hr : r ≤ 7) (h : 8 * q + r = D * ls.length) : IntKind.u8.wrap (loN (pbit D ls) (8 * q) r) = loN (pbit D ls) (8 * q) 8 := by
  have e : (8 : Nat) = r + (8 - r) := by omega
  have hz : loN (pbit D ls) (8 * q + r) (8 - r) = 0 := loN_zero _ _ fun t _ => pbit_far D ls _ hD (by omega)
  have hs := loN_split (pbit D ls) r (8 - r) (8 * q)
  rw [hz, ← e, Int.mul_zero, Int.add_zero] at hs
  rw [hs, IntKind.wrap_u8]
  have hb := loN_rng (pbit_rng D ls) r (8 * q)
  have h7 := pow_le r 7 hr
  have e7 : (2 : Int) ^ 7 = 128 := by decide
  omega

set_option maxHeartbeats 4000000 in
theorem ppack_any (d : Int) (A : Option Addr) (n c : Nat) (ls : List Int) (w : World) (hS : SlK .u32 w A n c ls) (hr : ∀ i, 0 ≤ ls.getD i 0 ∧ ls.getD i 0 < 4294967296) (hn : n ≤ 10000) :
    Calls Try.prog 9 #[.int .i64 d, .slice A n c] w (ROpt (rpack d ls) w) := by
  have hmf : ∀ (fn : Fn) (first cap : Array Value) (w : World), (Instr.makeFunc fn first cap).run Try.prog w = .ok (.func fn first cap) w := fun _ _ _ _ => rfl
  have HN := Lib.hid (fun h => rpack_none_of (d := d) hS.len hn (fun i => (hr i).1) h)
  have HP := fun w => Lib.hid (packable_any d n w)
  obtain ⟨w0, hw0⟩ : ∃ w0, w0 = w.alloc (.cells #[.int .i64 d] 3) := ⟨_, rfl⟩
  have hrow : Row w0 w.heap.size 3 #[.int .i64 d] := by rw [hw0]; exact Row.new _ _ _
  have hbox : w0.cell? ⟨w.heap.size, 0, none⟩ = some (.int .i64 d) := by rw [hrow.cell]; rfl
  have hpast : Past w w0 := by rw [hw0]; exact (Below.refl _ _).alloc (Nat.le_refl _) _
  have HC := Lib.hid (pcontains_any d w.heap.size A n c ls w0 (hS.past hpast) hr hbox hn)
  have HW0 := Lib.hid (And.intro hrow hpast)
  clear hrow hpast
  subst hw0
  cases hf : fits d n with
  | false =>
    have HNo : Hid (rpack d ls = none) := HN.out (.inl hf)
    simp only [hf] at HP
    clear hf hS hr HN HC
    go_enter Try.func9, Try.ntmps9
    go_wp2_with fail
    refine (HP _).out.mono ?_
    rintro e w' ⟨rfl, rfl⟩
    go_wp2_with fail
    go_ret2
    rw [HNo.out]
    exact ⟨rfl, HW0.out.2⟩
  | true =>
    have HF := Lib.hid (fits_true hf)
    cases hw : wideB d ls n with
    | true =>
      have HNo : Hid (rpack d ls = none) := HN.out (.inr hw)
      rw [hw] at HC
      simp only [hf] at HP
      clear hf hS hr HN hw
      go_enter Try.func9, Try.ntmps9
      go_wp2_with fail
      refine (HP _).out.mono ?_
      rintro e w' ⟨rfl, rfl⟩
      go_wp2_with fail
      refine HC.out.mono ?_
      rintro e w' ⟨rfl, m, rfl⟩
      go_wp2_with fail
      go_ret2
      rw [HNo.out]
      exact ⟨rfl, HW0.out.2.drewN m⟩
    | false =>
      have := fits_true hf
      obtain ⟨D, rfl⟩ : ∃ D : Nat, d = (D : Int) := ⟨d.toNat, by omega⟩
      have hlow := narrow (fun i => (hr i).1) hw
      have HSome := Lib.hid (rpack_some_of hS.len hf hlow)
      have HLOW := Lib.hid hlow
      have hnb : nbytes D n ≤ 50000 := by
        unfold nbytes
        have := Nat.mul_le_mul (show D ≤ 32 by omega) hn
        omega
      have hsz := sizeI_nat (D := D) (by omega) (by omega) n (by omega)
      have HSZ := fun w => Lib.hid (psize_any D n w)
      simp only [hsz] at HSZ
      have hD1 : 1 ≤ D := by omega
      have hD2 : D ≤ 32 := by omega
      have HS := Lib.hid (hS.past HW0.out.2)
      have HLN := Lib.hid hS.len
      have HR := Lib.hid hr
      rw [hw] at HC
      simp only [hf] at HP
      clear hlow hf hw hS hr HN hsz this HF
      go_enter Try.func9, Try.ntmps9
      go_wp2_with fail
      refine (HP _).out.mono ?_
      rintro e w' ⟨rfl, rfl⟩
      go_wp2_with fail
      refine HC.out.mono ?_
      rintro e w1 ⟨rfl, m, hw1⟩
      have hbox1 : w1.cell? ⟨w.heap.size, 0, none⟩ = some (.int .i64 (D : Int)) := by rw [hw1]; exact hbox
      have HS1 : Hid (SlK .u32 w1 A n c ls) := by rw [hw1]; exact HS.out.drewN m
      have HW1 : Hid (Past w w1 ∧ w.heap.size < w1.heap.size) := by
        rw [hw1]
        exact ⟨HW0.out.2.drewN m, HW0.out.1.lt⟩
      clear hw1 HS HC HP hbox HW0
      have hmk := make0 (nbytes D n) (by omega) w1
      obtain ⟨w2, hmk, hown2, hpast2⟩ := hmk
      have HO2 : Hid (PG D ls 0 (.slice (some ⟨w1.heap.size, 0, none⟩) 0 (nbytes D n)) w1 w2) := ⟨hown2, hpast2⟩
      have HNB : Hid (nbytes D n = (D * n + 7) / 8) := rfl
      clear hown2 hpast2
      go_wp2_with fail
      refine (HSZ _).out.mono ?_
      rintro e w' ⟨rfl, rfl⟩
      generalize nbytes D n = N at *
      go_wp2_with fail
      go_loopg [7, 8, 9, 11, 30] n (fun k s7 s8 s9 _ s30 wx => ∃ i q r : Nat, i ≤ n ∧ k = n - i ∧ r ≤ 7 ∧ s8 = .int .u64 (loN (pbit D ls) (8 * q) r) ∧ s9 = .int .i64 (r : Int) ∧ s30 = .int .i64 (i : Int) ∧ Hid (8 * q + r = D * i) ∧ Hid (PG D ls q s7 w1 wx))
      case atStart => exact ⟨0, 0, 0, Nat.zero_le _, rfl, by omega, rfl, rfl, rfl, rfl, HO2⟩
      case round =>
        clear HO2
        obtain ⟨i, q, r, hin, hgk, hr7, rfl, rfl, rfl, HQ, HO⟩ := hrel
        have HGK := Lib.hid hgk
        clear hgk hmk
        have hb1 : wr.cell? ⟨w.heap.size, 0, none⟩ = some (.int .i64 (D : Int)) := by
          have h := Below.cell (p := ⟨w.heap.size, 0, none⟩) HO.out.2 HW1.out.2
          rw [h]
          exact hbox1
        by_cases hlt : i < n
        · obtain ⟨b, o, rfl, hc⟩ := (HS1.out.past HO.out.2).cells (by omega)
          have hx := hc i hlt
          clear hc
          have hi0 : (0 : Int) ≤ (i : Int) := by omega
          have hin1 : (i : Int) < (n : Int) := by omega
          have hx0 := (HR.out i).1
          have hx1 := (HR.out i).2
          have HJ := Lib.hid (join_num HQ.out hx0 (HLOW.out i hlt))
          have hb := loN_rng (pbit_rng D ls) r (8 * q)
          obtain ⟨hs1, hs2, hs3⟩ := shl_small (r := r) (s := 32) hx0 (by omega) (by omega)
          have ho := or_join (r := r) (s := 32) hb.1 hb.2 hx0 (by omega) (by omega)
          rw [HJ.out] at ho
          have hor : Hid (bits .or .u64 (loN (pbit D ls) (8 * q) r) (IntKind.u64.wrap (ls.getD i 0 * 2 ^ r)) = loN (pbit D ls) (8 * q) (r + D)) := by
            show _ = _
            rw [hs1, ho]
          obtain ⟨T, hT⟩ : ∃ T, (r + D) / 8 = T := ⟨_, rfl⟩
          obtain ⟨r', hr'⟩ : ∃ r', (r + D) % 8 = r' := ⟨_, rfl⟩
          have hTi : ((r : Int) + (D : Int)) / 8 = (T : Int) := by omega
          have hri : ((r : Int) + (D : Int)) % 8 = (r' : Int) := by omega
          have hT5 : T ≤ 4 := by omega
          have HTR : Hid (r + D = 8 * T + r') := by show _ = _; omega
          have hr7' : r' ≤ 7 := by omega
          have hq2 : q + T ≤ 50000 := by
            have h1 := HQ.out
            have h2 := Nat.mul_le_mul (show D ≤ 32 by omega) (show i + 1 ≤ 10000 by omega)
            rw [Nat.mul_succ] at h2
            omega
          have hbm : loN (pbit D ls) (8 * q) r ≤ 128 := by
            have h := pow_le r 7 hr7
            have e : (2 : Int) ^ 7 = 128 := by decide
            omega
          have hb0 := hb.1
          clear hb HJ hT hr' hs1 hs2 hs3 ho
          have HO2 : Hid (PG D ls (q + 0) u7 w1 wr) := HO.out
          clear HO
          generalize loN (pbit D ls) (8 * q) r = B at *
          generalize ls.getD i 0 = X at *
          go_wp2_with fail
          rw [hor.out, hTi]
          go_loopg [7, 8, 45] T (fun k s7 s8 s45 wx => ∃ t : Nat, t ≤ T ∧ k = T - t ∧ s8 = .int .u64 (loN (pbit D ls) (8 * (q + t)) (r + D - 8 * t)) ∧ s45 = .int .i64 (t : Int) ∧ Hid (PG D ls (q + t) s7 w1 wx))
          case atStart => exact ⟨0, Nat.zero_le _, rfl, rfl, rfl, HO2⟩
          case round =>
            clear HO2 hb1
            obtain ⟨t, ht, hgk, rfl, rfl, HO⟩ := hrel
            have HGK2 := Lib.hid hgk
            clear hgk
            have hb1 : wr.cell? ⟨w.heap.size, 0, none⟩ = some (.int .i64 (D : Int)) := by
              have h := Below.cell (p := ⟨w.heap.size, 0, none⟩) HO.out.2 HW1.out.2
              rw [h]
              exact hbox1
            by_cases hlt2 : t < T
            · have HTR1 := HTR.out
              have hlow := low_bits (pbit D ls) (pbit_rng D ls) (8 * (q + t)) 8 (r + D - 8 * t) (by omega)
              have hlow1 : Hid (loN (pbit D ls) (8 * (q + t)) (r + D - 8 * t) / 256 = loN (pbit D ls) (8 * (q + (t + 1))) (r + D - 8 * (t + 1))) := by
                show _ = _
                rw [show 8 * (q + (t + 1)) = 8 * (q + t) + 8 by omega, show r + D - 8 * (t + 1) = r + D - 8 * t - 8 by omega]
                exact hlow.2
              have hcv : IntKind.u8.wrap (loN (pbit D ls) (8 * (q + t)) (r + D - 8 * t)) = loN (pbit D ls) (8 * (q + t)) 8 := by
                rw [IntKind.wrap_u8]
                exact hlow.1
              have HPS := Lib.hid (packs_succ D ls (q + t))
              rw [lo8_loN] at HPS
              have hb0 := loN_rng (pbit_rng D ls) (r + D - 8 * t) (8 * (q + t))
              have hb63 : loN (pbit D ls) (8 * (q + t)) (r + D - 8 * t) ≤ 9223372036854775807 := by
                have h := pow_le (r + D - 8 * t) 63 (by omega)
                have e : (2 : Int) ^ 63 = 9223372036854775808 := by decide
                omega
              have hb00 := hb0.1
              clear hlow hb0 HTR1
              generalize loN (pbit D ls) (8 * (q + t)) (r + D - 8 * t) = Bt at *
              generalize loN (pbit D ls) (8 * (q + t)) 8 = cc at *
              obtain ⟨i8, hi8, hz80, hz81, hz82⟩ := info_parts info8
              go_wp2_with (at_builtin; refine wpList_append_own _ rfl _ _ 24 rfl w1.heap.size 5 i8 (.int .u8 0) 1 1 Try.underlying24 hi8 hz80 hz81 hz82 rfl (by decide) _ (q + t) _ rfl (HO.out.1.alloc _) ⟨wr.heap.size, 0, none⟩ 1 1 [.int .u8 cc] rfl rfl ?c1 ?c2 ?c3 ?c4 ?c5 ?_)
              case c1 => exact one_cell wr _ _
              case c2 => simp [Value.oneCell']
              case c3 => unfold maxLen; omega
              case c4 => omega
              case c5 => exact Nat.le_trans HO.out.2.size (by simp)
              intro v' w3 hown1 hgrow1 _
              have HO3 : Hid (PG D ls (q + (t + 1)) v' w1 w3) := HO.out.push HPS.out hown1 hgrow1
              clear hown1 hgrow1 HO hb1
              go_wp2_with fail
              go_roundg (T - (t + 1))
              case rel => exact ⟨t + 1, by omega, rfl, by rw [← hlow1.out], by go_num, HO3⟩
              case measure => have := HGK2.out; omega
            · obtain rfl : t = T := by omega
              have HTR1 := HTR.out
              have e1 : r + D - 8 * t = r' := by omega
              have HQ2 : Hid (8 * (q + t) + r' = D * (i + 1)) := by
                have := HQ.out
                show _ = _
                rw [Nat.mul_succ]
                omega
              rw [e1]
              clear HTR1 e1
              go_wp2_with fail
              go_roundg (n - (i + 1))
              case rel => exact ⟨i + 1, q + t, r', by omega, rfl, hr7', rfl, by first | rfl | rw [hri], by go_num, HQ2, HO⟩
              case measure => have := HGK.out; omega
        · obtain rfl : i = n := by omega
          have hq2 : q ≤ 50000 := by
            have h1 := HQ.out
            have h2 := Nat.mul_le_mul (show D ≤ 32 by omega) hn
            omega
          by_cases hr0 : r = 0
          · subst hr0
            have HE : Hid (N = q) := by
              have h1 := HQ.out
              have h2 := HNB.out
              show _ = _
              omega
            go_wp2_with fail
            go_ret2
            rw [HSome.out, HE.out]
            exact HO.out.done HW1.out.1
          · have hr1 : (0 : Int) < (r : Int) := by omega
            have HE : Hid (N = q + 1) := by
              have h1 := HQ.out
              have h2 := HNB.out
              show _ = _
              omega
            have hcv := last_byte (ls := ls) (q := q) (r := r) (D := D) (by omega) hr7 (by rw [HLN.out]; exact HQ.out)
            have HPS := Lib.hid (packs_succ D ls q)
            rw [lo8_loN] at HPS
            have hbm : loN (pbit D ls) (8 * q) r ≤ 128 := by
              have hb := loN_rng (pbit_rng D ls) r (8 * q)
              have h := pow_le r 7 hr7
              have e : (2 : Int) ^ 7 = 128 := by decide
              omega
            have hb0 := (loN_rng (pbit_rng D ls) r (8 * q)).1
            generalize loN (pbit D ls) (8 * q) 8 = cc at *
            generalize loN (pbit D ls) (8 * q) r = B at *
            obtain ⟨i8, hi8, hz80, hz81, hz82⟩ := info_parts info8
            go_wp2_with (at_builtin; refine wpList_append_own _ rfl _ _ 24 rfl w1.heap.size 5 i8 (.int .u8 0) 1 1 Try.underlying24 hi8 hz80 hz81 hz82 rfl (by decide) _ q _ rfl (HO.out.1.alloc _) ⟨wr.heap.size, 0, none⟩ 1 1 [.int .u8 cc] rfl rfl ?d1 ?d2 ?d3 ?d4 ?d5 ?_)
            case d1 => exact one_cell wr _ _
            case d2 => simp [Value.oneCell']
            case d3 => unfold maxLen; omega
            case d4 => omega
            case d5 => exact Nat.le_trans HO.out.2.size (by simp)
            intro v' w3 hown1 hgrow1 _
            have HO3 : Hid (PG D ls (q + 1) v' w1 w3) := HO.out.push HPS.out hown1 hgrow1
            clear hown1 hgrow1 HO
            go_wp2_with fail
            go_ret2
            rw [HSome.out, HE.out]
            exact HO3.out.done HW1.out.1

end Go.Proofs.Ytdclkhnmpkbgaaa
