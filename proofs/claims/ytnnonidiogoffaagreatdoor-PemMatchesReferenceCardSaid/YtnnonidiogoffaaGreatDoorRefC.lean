/- Contract of the reference of base 64: the encoding. -/
import Derived.Test.YtnnonidiogoffaaGreatDoorRefB
import Derived.Lib.Bytes
import Derived.Laws.BytesString
import Derived.Laws.IdiomStrings
namespace Go.Proofs.YtnnonidiogoffaaGreatDoor
open Go.RowKit

/-- A string of bytes. -/
def txt (xs : List Int) : ByteArray := ⟨(Lib.bytesOf xs).toArray⟩
theorem conv_sl {P : Program} {w : World} {src dst e : TypeId} {A : Option Addr} {n c : Nat} {xs : List Int} (hs : P.underlying src = some (.slice e)) (he : P.underlying e = some (.int .u8)) (hd : P.underlying dst = some .string) (h : Sl w A n c xs) :
    (convert src dst (.slice A n c)).run P w = .ok (.string (txt xs)) w := by
  have hl : (Lib.bytesOf xs).length = n := by simp [Lib.bytesOf, h.len]
  cases A with
  | none =>
    obtain rfl := h.nil0 rfl
    have hn : n = 0 := by have := h.cap; omega
    subst hn
    obtain rfl : xs = [] := List.eq_nil_of_length_eq_zero h.len
    rw [run_convert_bytes_string w src dst e none 0 0 hs he hd]
    rfl
  | some ad =>
    have hc := run_convert_bytes_back (P := P) w src dst e ad c (Lib.bytesOf xs) hs he hd (fun j hj => by
      have hjn : j < n := by omega
      obtain ⟨b, o, e, hcell⟩ := h.bytes (by omega)
      injection e with e
      subst e
      rw [add_none, hcell j hjn]
      have hjx : j < xs.length := by have := h.len; omega
      have hr := h.rng xs[j] (List.getElem_mem hjx)
      simp only [Lib.bytesOf, List.getElem_map, List.getD_eq_getElem?_getD, List.getElem?_eq_getElem hjx, Option.getD_some]
      congr 2
      rw [UInt8.toNat_ofNat']
      omega)
    rwa [hl] at hc

theorem bitAt_rng (xs : List Int) (p : Nat) : 0 ≤ bitAt xs p ∧ bitAt xs p ≤ 1 := by unfold bitAt; omega
/-- The value of k bits from p on, those behind the m-th being zero. -/
def six (xs : List Int) (m p : Nat) : Nat → Int
  | 0 => 0
  | k + 1 => 2 * six xs m p k + if p + k < m then bitAt xs (p + k) else 0
theorem six_rng (xs : List Int) (m p k : Nat) : 0 ≤ six xs m p k ∧ six xs m p k < 2 ^ k := by
  induction k with
  | zero => simp [six]
  | succ k ih =>
    have hb := bitAt_rng xs (p + k)
    have e : (2 : Int) ^ (k + 1) = 2 ^ k * 2 := Int.pow_succ 2 k
    rw [six, e]
    split <;> omega
/-- The first q digits of the encoding. -/
def rdigs (al : Int) (xs : List Int) (m q : Nat) : List Int := (List.range q).map fun j => dig al (six xs m (6 * j) 6)
theorem rdigs_succ (al : Int) (xs : List Int) (m q : Nat) : rdigs al xs m (q + 1) = rdigs al xs m q ++ [dig al (six xs m (6 * q) 6)] := by simp [rdigs, List.range_succ]
theorem rdigs_len (al : Int) (xs : List Int) (m q : Nat) : (rdigs al xs m q).length = q := by simp [rdigs]
theorem rdigs_rng (al : Int) (xs : List Int) (m q : Nat) : ∀ x ∈ rdigs al xs m q, 0 ≤ x ∧ x < 256 := by
  intro x hx
  obtain ⟨j, _, rfl⟩ := List.mem_map.1 hx
  have := dig_rng al (six xs m (6 * j) 6)
  omega
/-- How many equals signs follow q digits. -/
def npad (al : Int) (q : Nat) : Nat := if al = 1 then (4 - q % 4) % 4 else 0
def nsix (n : Nat) : Nat := (8 * n + 5) / 6
/-- The reference's encoding. -/
def renc (al : Int) (xs : List Int) (n : Nat) : List Int :=
  if isAl al = false then [] else rdigs al xs (8 * n) (nsix n) ++ List.replicate (npad al (nsix n)) 61

theorem six_63 (xs : List Int) (m p t : Nat) (ht : t ≤ 6) : six xs m p t ≤ 63 := by
  have h := (six_rng xs m p t).2
  have : t = 0 ∨ t = 1 ∨ t = 2 ∨ t = 3 ∨ t = 4 ∨ t = 5 ∨ t = 6 := by omega
  rcases this with rfl | rfl | rfl | rfl | rfl | rfl | rfl <;> omega
theorem bitsTo_getD (xs : List Int) (m p : Nat) (h : p < m) : (bitsTo xs m).getD p 0 = bitAt xs p := by simp [bitsTo, List.getD, h]
/-- The cells of what a call owns. -/
theorem own_cell {w : World} {B : Nat} {e : TypeId} {A : Option Addr} {n c : Nat} {k : IntKind} {xs : List Int} (hl : xs.length = n) (h : w.ownsRow B e 1 (.slice A n c) n (xs.map (Value.int k))) (hn : 0 < n) :
    ∃ g, A = some ⟨g, 0, none⟩ ∧ n ≤ c ∧ c ≤ maxLen ∧ ∀ i, i < n → w.cell? ⟨g, i, none⟩ = some (.int k (xs.getD i 0)) := by
  rcases h.2 with ⟨e1, e2⟩ | ⟨g, cap, cur, e1, e2, e3, e4, e5, e6, e7⟩
  · injection e1 with a1 a2 a3
    omega
  · injection e1 with a1 a2 a3
    subst a1 a3
    refine ⟨g, rfl, e4, e5, fun i hi => ?_⟩
    have hc := h.cells (g := g) rfl i (.int k (xs.getD i 0)) (by simp [List.getD, List.getElem?_eq_getElem (show i < xs.length by omega)])
    rw [add_none, Nat.zero_add] at hc
    exact hc

theorem info8 : (Tryz.prog.info? 5).map (fun i => (i.zero, i.size, i.bytes)) = some (some (.int .u8 0), 1, 1) := by kernel_rfl
theorem one_cell (w : World) (e : TypeId) (u : Value) : ∀ j v, [u][j]? = some v → (w.alloc (.cells #[u] e)).cell? ((⟨w.heap.size, 0, none⟩ : Addr).add j) = some v := by
  intro j v hj
  cases j with
  | zero =>
    simp at hj
    subst hj
    rw [add_none, World.cell?_alloc_new]
    rfl
  | succ j => simp at hj

theorem npad1 (q : Nat) : npad 1 q = (4 - q % 4) % 4 := by simp [npad]

set_option maxRecDepth 100000 in
set_option maxHeartbeats 4000000 in
theorem rencode_any (al : Int) (A : Option Addr) (n c : Nat) (xs : List Int) (w : World) (hS : Sl w A n c xs) (hn : n ≤ 100000) :
    Calls Tryz.prog 31 #[.int .i64 al, .slice A n c] w fun e w' => e = .returned (.string (txt (renc al xs n))) ∧ Past w w' := by
  have HS := Lib.hid hS
  have HBI := Lib.hid (rbits_any A n c xs w hS (by omega))
  clear hS
  cases hal : isAl al with
  | false =>
    have he : renc al xs n = [] := by unfold renc; rw [if_pos hal]
    rw [he]
    obtain ⟨h1, h2⟩ := al_no hal
    have n1 : (al != 1) = true := by simpa using h1
    have n2 : (al != 2) = true := by simpa using h2
    clear hal he h1 h2
    go_enter Tryz.func31, Tryz.ntmps31
    go_wp2_with fail
    refine HBI.out.mono ?_
    rintro e w1 ⟨v, rfl, ho, hp⟩
    have HP := Lib.hid hp
    clear ho hp
    go_wp2_with fail
    go_ret
    exact ⟨rfl, HP.out⟩
  | true =>
    have he : renc al xs n = rdigs al xs (8 * n) (nsix n) ++ List.replicate (npad al (nsix n)) 61 := by unfold renc; rw [if_neg (by rw [hal]; decide)]
    have HE := Lib.hid he
    clear he
    obtain ⟨i8, hi8, hz80, hz81, hz82⟩ := info_parts info8
    rcases al_cases hal with rfl | rfl
    · clear hal
      go_enter Tryz.func31, Tryz.ntmps31
      go_wp2_with fail
      refine HBI.out.mono ?_
      rintro e w1 ⟨v, rfl, ho, hp⟩
      obtain ⟨BA, bc, rfl⟩ := own_slice ho
      have HO := Lib.hid ho
      have HP := Lib.hid hp
      clear ho hp
      go_wp2_with fail
      go_loopg [6, 7] (nsix n) (fun k s6 s7 wx => ∃ q : Nat, q ≤ nsix n ∧ k = nsix n - q ∧ s7 = .int .i64 (6 * (q : Int)) ∧ Hid (wx.ownsRow w1.heap.size 5 1 s6 q ((rdigs 1 xs (8 * n) q).map (Value.int .u8)) ∧ Past w1 wx))
      case atStart => exact ⟨0, Nat.zero_le _, rfl, rfl, ⟨rfl, .inl ⟨rfl, rfl⟩⟩, Below.refl _ _⟩
      case round =>
        obtain ⟨q, hq, hgk, rfl, HQ⟩ := hrel
        have HGK := Lib.hid hgk
        clear hgk
        obtain ⟨wo, rfl⟩ : ∃ wo : World, wo = wr := ⟨_, rfl⟩
        by_cases hlt : q < nsix n
        · have hq6 : 6 * q < 8 * n := by unfold nsix at hlt; omega
          have hq6b : decide (6 * (q : Int) < 8 * (n : Int)) = true := by simp; omega
          go_wp2_with fail
          go_loopg [8, 9] 6 (fun k s8 s9 wx => ∃ t : Nat, t ≤ 6 ∧ k = 6 - t ∧ s8 = .int .i64 (six xs (8 * n) (6 * q) t) ∧ s9 = .int .i64 (6 * (q : Int) + (t : Int)) ∧ Hid (wx = wo))
          case atStart => exact ⟨0, by omega, rfl, rfl, by first | rfl | go_num, rfl⟩
          case round =>
            obtain ⟨t, ht, hgk, rfl, rfl, hw⟩ := hrel
            have HGK2 := Lib.hid hgk
            obtain rfl := hw.out
            clear hgk
            have hsr := six_rng xs (8 * n) (6 * q) t
            have hs63 : six xs (8 * n) (6 * q) t ≤ 63 := six_63 xs (8 * n) (6 * q) t ht
            by_cases hlt2 : t < 6
            · have hnx : six xs (8 * n) (6 * q) (t + 1) = 2 * six xs (8 * n) (6 * q) t + if 6 * q + t < 8 * n then bitAt xs (6 * q + t) else 0 := rfl
              have hs0 := hsr.1
              clear hsr
              by_cases hin : 6 * q + t < 8 * n
              · obtain ⟨g, rfl, hbc, hbm, hcell⟩ := own_cell (by rw [bitsTo_len]) HO.out (by omega)
                have hc1 := hcell (6 * q + t) hin
                rw [bitsTo_getD xs _ _ hin] at hc1
                have hc2 := (HQ.out.2.cell (cell_lt hc1)).trans hc1
                have hbr := bitAt_rng xs (6 * q + t)
                rw [if_pos hin] at hnx
                have HNX := Lib.hid hnx
                clear hcell hc1 hnx
                generalize six xs (8 * n) (6 * q) t = sv at *
                generalize bitAt xs (6 * q + t) = bv at *
                obtain ⟨hb0, hb1⟩ := hbr
                go_wp2_with fail
                go_roundg (6 - (t + 1))
                case rel => exact ⟨t + 1, by omega, rfl, by first | (rw [HNX.out]; done) | (rw [HNX.out]; go_num) | (rw [HNX.out]; congr 1; omega), by first | go_num | (congr 1; omega), rfl⟩
                case measure => have := HGK2.out; omega
              · rw [if_neg hin] at hnx
                have HNX := Lib.hid hnx
                clear hnx
                generalize six xs (8 * n) (6 * q) t = sv at *
                go_wp2_with fail
                go_roundg (6 - (t + 1))
                case rel => exact ⟨t + 1, by omega, rfl, by first | (rw [HNX.out]; done) | (rw [HNX.out]; go_num) | (rw [HNX.out]; congr 1; omega), by first | go_num | (congr 1; omega), rfl⟩
                case measure => have := HGK2.out; omega
            · obtain rfl : t = 6 := by omega
              have HSX := Lib.hid (rdigs_succ 1 xs (8 * n) q)
              have HDR := Lib.hid (rdigit_any 1 (six xs (8 * n) (6 * q) 6))
              clear hs63 hsr
              generalize six xs (8 * n) (6 * q) 6 = sv at *
              generalize dig 1 sv = dv at HDR HSX
              go_wp2_with fail
              refine (HDR.out _).mono ?_
              rintro e w' ⟨rfl, rfl⟩
              go_wp2_with (at_builtin; refine wpList_append_own _ rfl _ _ 22 rfl w1.heap.size 5 i8 (.int .u8 0) 1 1 Tryz.underlying22 hi8 hz80 hz81 hz82 rfl (by decide) _ q _ rfl (HQ.out.1.alloc _) ⟨wr.heap.size, 0, none⟩ 1 1 [.int .u8 dv] rfl rfl ?c1 ?c2 ?c3 ?c4 ?c5 ?_)
              case c1 => exact one_cell wr _ _
              case c2 => simp [Value.oneCell']
              case c3 => unfold nsix at hq; unfold maxLen; omega
              case c4 => unfold nsix at hq; omega
              case c5 => exact Nat.le_trans HQ.out.2.size (by simp)
              intro v' w2 hown1 hgrow1 _
              have HQ2 : Hid (w2.ownsRow w1.heap.size 5 1 v' (q + 1) ((rdigs 1 xs (8 * n) (q + 1)).map (Value.int .u8)) ∧ Past w1 w2) := by
                rw [HSX.out, List.map_append]
                exact ⟨hown1, (HQ.out.2.trans' ((Below.refl _ _).alloc (Nat.le_refl _) _)).grown hgrow1 (Nat.le_trans HQ.out.2.size (by simp)) (own_block_ge HQ.out.1)⟩
              clear hown1 hgrow1 HQ
              go_wp2_with fail
              go_roundg (nsix n - (q + 1))
              case rel => exact ⟨q + 1, by omega, rfl, by first | go_num | (congr 1; omega), HQ2⟩
              case measure => have := HGK.out; omega
        · obtain rfl : q = nsix n := by omega
          have hq6 : 8 * n ≤ 6 * nsix n := by unfold nsix; omega
          have HLN := Lib.hid (rdigs_len 1 xs (8 * n) (nsix n))
          have HRN := Lib.hid (rdigs_rng 1 xs (8 * n) (nsix n))
          have hnq : nsix n ≤ 200000 := by unfold nsix; omega
          clear hq
          generalize rdigs 1 xs (8 * n) (nsix n) = ds at *
          generalize nsix n = Q at *
          go_wp2_with fail
          go_loopg [6] (npad 1 Q) (fun k s6 wx => ∃ t : Nat, t ≤ npad 1 Q ∧ k = npad 1 Q - t ∧ Hid (wx.ownsRow w1.heap.size 5 1 s6 (Q + t) ((ds ++ List.replicate t 61).map (Value.int .u8)) ∧ Past w1 wx))
          case atStart => exact ⟨0, Nat.zero_le _, rfl, Lib.hid (by simpa using HQ.out)⟩
          case round =>
            clear HQ
            obtain ⟨t, ht, hgk, HQ⟩ := hrel
            have HGK2 := Lib.hid hgk
            clear hgk
            obtain ⟨OA, oc, rfl⟩ := own_slice HQ.out.1
            by_cases hlt2 : t < npad 1 Q
            · have hq4 : (((Q : Int) + (t : Int)) % 4 != 0) = true := by have := npad1 Q; simp; omega
              go_wp2_with (at_builtin; refine wpList_append_own _ rfl _ _ 22 rfl w1.heap.size 5 i8 (.int .u8 0) 1 1 Tryz.underlying22 hi8 hz80 hz81 hz82 rfl (by decide) _ (Q + t) _ rfl (HQ.out.1.alloc _) ⟨wr.heap.size, 0, none⟩ 1 1 [.int .u8 61] rfl rfl ?c1 ?c2 ?c3 ?c4 ?c5 ?_)
              case c1 => exact one_cell wr _ _
              case c2 => simp [Value.oneCell']
              case c3 => have := npad1 Q; unfold maxLen; omega
              case c4 => have := npad1 Q; omega
              case c5 => exact Nat.le_trans HQ.out.2.size (by simp)
              intro v' w2 hown1 hgrow1 _
              have HQ2 : Hid (w2.ownsRow w1.heap.size 5 1 v' (Q + (t + 1)) ((ds ++ List.replicate (t + 1) 61).map (Value.int .u8)) ∧ Past w1 w2) := by
                have e : (ds ++ List.replicate (t + 1) 61).map (Value.int .u8) = ds.map (Value.int .u8) ++ (List.replicate t (Value.int .u8 61) ++ [Value.int .u8 61]) := by
                  rw [List.replicate_succ']
                  simp
                rw [e]
                exact ⟨hown1, (HQ.out.2.trans' ((Below.refl _ _).alloc (Nat.le_refl _) _)).grown hgrow1 (Nat.le_trans HQ.out.2.size (by simp)) (own_block_ge HQ.out.1)⟩
              clear hown1 hgrow1 HQ
              go_wp2_with fail
              go_roundg (npad 1 Q - (t + 1))
              case rel => exact ⟨t + 1, by omega, rfl, HQ2⟩
              case measure => have := HGK2.out; omega
            · obtain rfl : t = npad 1 Q := by omega
              have hq4 : (((Q : Int) + (npad 1 Q : Int)) % 4 != 0) = false := by have := npad1 Q; simp; omega
              have hcv := conv_sl Tryz.underlying22 Tryz.underlying5 Tryz.underlying9 (Sl.of_own HQ.out.1 (by
                intro x hx
                rcases List.mem_append.1 hx with h | h
                · exact HRN.out x h
                · rw [List.eq_of_mem_replicate h]; omega))
              rw [← HE.out] at hcv
              go_wp2_with fail
              go_ret
              exact ⟨rfl, HP.out.trans' HQ.out.2⟩
    · clear hal
      go_enter Tryz.func31, Tryz.ntmps31
      go_wp2_with fail
      refine HBI.out.mono ?_
      rintro e w1 ⟨v, rfl, ho, hp⟩
      obtain ⟨BA, bc, rfl⟩ := own_slice ho
      have HO := Lib.hid ho
      have HP := Lib.hid hp
      clear ho hp
      go_wp2_with fail
      go_loopg [6, 7] (nsix n) (fun k s6 s7 wx => ∃ q : Nat, q ≤ nsix n ∧ k = nsix n - q ∧ s7 = .int .i64 (6 * (q : Int)) ∧ Hid (wx.ownsRow w1.heap.size 5 1 s6 q ((rdigs 2 xs (8 * n) q).map (Value.int .u8)) ∧ Past w1 wx))
      case atStart => exact ⟨0, Nat.zero_le _, rfl, rfl, ⟨rfl, .inl ⟨rfl, rfl⟩⟩, Below.refl _ _⟩
      case round =>
        obtain ⟨q, hq, hgk, rfl, HQ⟩ := hrel
        have HGK := Lib.hid hgk
        clear hgk
        obtain ⟨wo, rfl⟩ : ∃ wo : World, wo = wr := ⟨_, rfl⟩
        by_cases hlt : q < nsix n
        · have hq6 : 6 * q < 8 * n := by unfold nsix at hlt; omega
          have hq6b : decide (6 * (q : Int) < 8 * (n : Int)) = true := by simp; omega
          go_wp2_with fail
          go_loopg [8, 9] 6 (fun k s8 s9 wx => ∃ t : Nat, t ≤ 6 ∧ k = 6 - t ∧ s8 = .int .i64 (six xs (8 * n) (6 * q) t) ∧ s9 = .int .i64 (6 * (q : Int) + (t : Int)) ∧ Hid (wx = wo))
          case atStart => exact ⟨0, by omega, rfl, rfl, by first | rfl | go_num, rfl⟩
          case round =>
            obtain ⟨t, ht, hgk, rfl, rfl, hw⟩ := hrel
            have HGK2 := Lib.hid hgk
            obtain rfl := hw.out
            clear hgk
            have hsr := six_rng xs (8 * n) (6 * q) t
            have hs63 : six xs (8 * n) (6 * q) t ≤ 63 := six_63 xs (8 * n) (6 * q) t ht
            by_cases hlt2 : t < 6
            · have hnx : six xs (8 * n) (6 * q) (t + 1) = 2 * six xs (8 * n) (6 * q) t + if 6 * q + t < 8 * n then bitAt xs (6 * q + t) else 0 := rfl
              have hs0 := hsr.1
              clear hsr
              by_cases hin : 6 * q + t < 8 * n
              · obtain ⟨g, rfl, hbc, hbm, hcell⟩ := own_cell (by rw [bitsTo_len]) HO.out (by omega)
                have hc1 := hcell (6 * q + t) hin
                rw [bitsTo_getD xs _ _ hin] at hc1
                have hc2 := (HQ.out.2.cell (cell_lt hc1)).trans hc1
                have hbr := bitAt_rng xs (6 * q + t)
                rw [if_pos hin] at hnx
                have HNX := Lib.hid hnx
                clear hcell hc1 hnx
                generalize six xs (8 * n) (6 * q) t = sv at *
                generalize bitAt xs (6 * q + t) = bv at *
                obtain ⟨hb0, hb1⟩ := hbr
                go_wp2_with fail
                go_roundg (6 - (t + 1))
                case rel => exact ⟨t + 1, by omega, rfl, by first | (rw [HNX.out]; done) | (rw [HNX.out]; go_num) | (rw [HNX.out]; congr 1; omega), by first | go_num | (congr 1; omega), rfl⟩
                case measure => have := HGK2.out; omega
              · rw [if_neg hin] at hnx
                have HNX := Lib.hid hnx
                clear hnx
                generalize six xs (8 * n) (6 * q) t = sv at *
                go_wp2_with fail
                go_roundg (6 - (t + 1))
                case rel => exact ⟨t + 1, by omega, rfl, by first | (rw [HNX.out]; done) | (rw [HNX.out]; go_num) | (rw [HNX.out]; congr 1; omega), by first | go_num | (congr 1; omega), rfl⟩
                case measure => have := HGK2.out; omega
            · obtain rfl : t = 6 := by omega
              have HSX := Lib.hid (rdigs_succ 2 xs (8 * n) q)
              have HDR := Lib.hid (rdigit_any 2 (six xs (8 * n) (6 * q) 6))
              clear hs63 hsr
              generalize six xs (8 * n) (6 * q) 6 = sv at *
              generalize dig 2 sv = dv at HDR HSX
              go_wp2_with fail
              refine (HDR.out _).mono ?_
              rintro e w' ⟨rfl, rfl⟩
              go_wp2_with (at_builtin; refine wpList_append_own _ rfl _ _ 22 rfl w1.heap.size 5 i8 (.int .u8 0) 1 1 Tryz.underlying22 hi8 hz80 hz81 hz82 rfl (by decide) _ q _ rfl (HQ.out.1.alloc _) ⟨wr.heap.size, 0, none⟩ 1 1 [.int .u8 dv] rfl rfl ?c1 ?c2 ?c3 ?c4 ?c5 ?_)
              case c1 => exact one_cell wr _ _
              case c2 => simp [Value.oneCell']
              case c3 => unfold nsix at hq; unfold maxLen; omega
              case c4 => unfold nsix at hq; omega
              case c5 => exact Nat.le_trans HQ.out.2.size (by simp)
              intro v' w2 hown1 hgrow1 _
              have HQ2 : Hid (w2.ownsRow w1.heap.size 5 1 v' (q + 1) ((rdigs 2 xs (8 * n) (q + 1)).map (Value.int .u8)) ∧ Past w1 w2) := by
                rw [HSX.out, List.map_append]
                exact ⟨hown1, (HQ.out.2.trans' ((Below.refl _ _).alloc (Nat.le_refl _) _)).grown hgrow1 (Nat.le_trans HQ.out.2.size (by simp)) (own_block_ge HQ.out.1)⟩
              clear hown1 hgrow1 HQ
              go_wp2_with fail
              go_roundg (nsix n - (q + 1))
              case rel => exact ⟨q + 1, by omega, rfl, by first | go_num | (congr 1; omega), HQ2⟩
              case measure => have := HGK.out; omega
        · obtain rfl : q = nsix n := by omega
          have hq6 : 8 * n ≤ 6 * nsix n := by unfold nsix; omega
          have HLN := Lib.hid (rdigs_len 2 xs (8 * n) (nsix n))
          have HRN := Lib.hid (rdigs_rng 2 xs (8 * n) (nsix n))
          have hnq : nsix n ≤ 200000 := by unfold nsix; omega
          clear hq
          generalize rdigs 2 xs (8 * n) (nsix n) = ds at *
          generalize nsix n = Q at *
          go_wp2_with fail
          obtain ⟨OA, oc, rfl⟩ := own_slice HQ.out.1
          have hcv := conv_sl Tryz.underlying22 Tryz.underlying5 Tryz.underlying9 (Sl.of_own HQ.out.1 HRN.out)
          have hen : renc 2 xs n = ds := by rw [HE.out]; simp [npad]
          rw [← hen] at hcv
          clear hen
          refine wp_loop_rounds 1 ?_
          rw [rounds_succ]
          go_wp2_with fail
          go_ret
          exact ⟨rfl, HP.out.trans' HQ.out.2⟩


end Go.Proofs.YtnnonidiogoffaaGreatDoor
