/- Contract of the reference of base 64: the decoding. -/
import Derived.Test.YtnnonidiogoffaaGreatDoorRefC
import Derived.Deep.DeepCutAuto
import Derived.Deep.CutBlock
namespace Go.Proofs.YtnnonidiogoffaaGreatDoor
open Go.RowKit

/-- The bytes of a string as numbers. -/
def ints (s : ByteArray) : List Int := s.data.toList.map fun b => (b.toNat : Int)
theorem ints_len (s : ByteArray) : (ints s).length = s.size := by
  rw [ints, List.length_map, Array.length_toList]
  rfl
theorem ints_at (s : ByteArray) (i : Nat) (h : i < s.size) : (ints s).getD i 0 = ((s[i]).toNat : Int) := by
  have h' : i < s.data.size := h
  simp only [ints, List.getD_eq_getElem?_getD, List.getElem?_map, Array.getElem?_toList]
  rw [Array.getElem?_eq_getElem h']
  rfl
theorem ints_rng (s : ByteArray) (i : Nat) : 0 ≤ (ints s).getD i 0 ∧ (ints s).getD i 0 < 256 := by
  by_cases h : i < s.size
  · rw [ints_at s i h]
    have := (s[i]).toNat_lt
    omega
  · rw [List.getD_eq_getElem?_getD, List.getElem?_eq_none (by rw [ints_len]; omega)]
    simp

/-- How many of the first k bytes are left where equals signs are taken off the end. -/
def strip (l : List Int) : Nat → Nat
  | 0 => 0
  | k + 1 => if l.getD k 0 = 61 then strip l k else k + 1
theorem strip_le (l : List Int) (k : Nat) : strip l k ≤ k := by
  induction k with
  | zero => exact Nat.le_refl _
  | succ k ih =>
    unfold strip
    split <;> omega
def slen (al : Int) (l : List Int) : Nat := if al = 1 then strip l l.length else l.length
theorem slen_le (al : Int) (l : List Int) : slen al l ≤ l.length := by
  unfold slen
  split
  · exact strip_le _ _
  · exact Nat.le_refl _
/-- Bit p of the values of digits. -/
def dbit (al : Int) (l : List Int) (p : Nat) : Int := rval al (l.getD (p / 6) 0) / 2 ^ (5 - p % 6) % 2
def dbits (al : Int) (l : List Int) (p : Nat) : List Int := (List.range p).map (dbit al l)
theorem dbits_len (al : Int) (l : List Int) (p : Nat) : (dbits al l p).length = p := by simp [dbits]
theorem dbits_succ (al : Int) (l : List Int) (p : Nat) : dbits al l (p + 1) = dbits al l p ++ [dbit al l p] := by simp [dbits, List.range_succ]
theorem dbit_in (al : Int) (l : List Int) (i t : Nat) (ht : t < 6) : dbit al l (6 * i + t) = rval al (l.getD i 0) / 2 ^ (5 - t) % 2 := by
  unfold dbit
  rw [show (6 * i + t) / 6 = i by omega, show (6 * i + t) % 6 = t by omega]
theorem dbit_rng (al : Int) (l : List Int) (p : Nat) : 0 ≤ dbit al l p ∧ dbit al l p ≤ 1 := by unfold dbit; omega
theorem dbits_getD (al : Int) (l : List Int) (m p : Nat) (h : p < m) : (dbits al l m).getD p 0 = dbit al l p := by simp [dbits, List.getD, h]
/-- The value of k bits from p on. -/
def octet (al : Int) (l : List Int) (p : Nat) : Nat → Int
  | 0 => 0
  | k + 1 => 2 * octet al l p k + dbit al l (p + k)
theorem octet_rng (al : Int) (l : List Int) (p k : Nat) : 0 ≤ octet al l p k ∧ octet al l p k < 2 ^ k := by
  induction k with
  | zero => simp [octet]
  | succ k ih =>
    have hb := dbit_rng al l (p + k)
    have e : (2 : Int) ^ (k + 1) = 2 ^ k * 2 := Int.pow_succ 2 k
    rw [octet, e]
    omega
theorem octet_255 (al : Int) (l : List Int) (p t : Nat) (ht : t ≤ 8) : octet al l p t ≤ 255 := by
  have h := (octet_rng al l p t).2
  have : t = 0 ∨ t = 1 ∨ t = 2 ∨ t = 3 ∨ t = 4 ∨ t = 5 ∨ t = 6 ∨ t = 7 ∨ t = 8 := by omega
  rcases this with rfl | rfl | rfl | rfl | rfl | rfl | rfl | rfl | rfl <;> omega
/-- The first q bytes of what is decoded. -/
def routs (al : Int) (l : List Int) (q : Nat) : List Int := (List.range q).map fun j => octet al l (8 * j) 8
theorem routs_succ (al : Int) (l : List Int) (q : Nat) : routs al l (q + 1) = routs al l q ++ [octet al l (8 * q) 8] := by simp [routs, List.range_succ]
theorem routs_len (al : Int) (l : List Int) (q : Nat) : (routs al l q).length = q := by simp [routs]
theorem routs_rng (al : Int) (l : List Int) (q : Nat) : ∀ x ∈ routs al l q, 0 ≤ x ∧ x < 256 := by
  intro x hx
  obtain ⟨j, _, rfl⟩ := List.mem_map.1 hx
  have h1 := octet_rng al l (8 * j) 8
  have h2 := octet_255 al l (8 * j) 8 (Nat.le_refl _)
  omega
def nout (m : Nat) : Nat := 6 * m / 8
/-- What the reference decodes. -/
def rdec (al : Int) (s : ByteArray) : Option (List Int) :=
  if (∃ i, i < slen al (ints s) ∧ rval al ((ints s).getD i 0) < 0) ∨ isAl al = false ∨ txt (renc al (routs al (ints s) (nout (slen al (ints s)))) (nout (slen al (ints s)))) ≠ s then none
  else some (routs al (ints s) (nout (slen al (ints s))))

theorem rval_rng (al d : Int) : -1 ≤ rval al d ∧ rval al d ≤ 63 := by
  unfold rval
  split
  · rename_i v h
    have := List.mem_of_find?_eq_some h
    have : v < 64 := by simpa using this
    omega
  · omega

/-- What Decode returns. -/
def RDec (o : Option (List Int)) (w : World) (e : Ending) (w' : World) : Prop :=
  match o with
  | none => e = .returned (.tuple #[.slice none 0 0, .bool false]) ∧ Past w w'
  | some xs => ∃ A n c, e = .returned (.tuple #[.slice A n c, .bool true]) ∧ Sl w' A n c xs ∧ Past w w'

theorem idx_str (s : ByteArray) (k : Nat) (hk : k < s.size) (w : World) : (Instr.index 9 (.string s) (.int .i64 (k : Int))).run Tryz.prog w = .ok (.int .u8 ((ints s).getD k 0)) w := by
  rw [run_index_string w 9 s .i64 (k : Int) Tryz.underlying9, dif_pos ⟨by omega, by omega⟩, ints_at s k hk]
  simp only [Int.toNat_natCast]
theorem toList_inj {a b : ByteArray} (h : a.toList = b.toList) : a = b := by
  rw [Lib.toList_data, Lib.toList_data] at h
  have : a.data = b.data := Array.toList_inj.1 h
  cases a
  cases b
  simpa using this
theorem strip_no (l : List Int) (k : Nat) (h : l.getD k 0 ≠ 61) : strip l (k + 1) = k + 1 := by rw [strip, if_neg h]
theorem strip_yes (l : List Int) (k : Nat) (h : l.getD k 0 = 61) : strip l (k + 1) = strip l k := by rw [strip, if_pos h]

set_option maxRecDepth 100000 in
set_option maxHeartbeats 4000000 in
theorem rdecode_any (al : Int) (s : ByteArray) (w : World) (hs : s.size ≤ 100000) :
    Calls Tryz.prog 25 #[.int .i64 al, .string s] w (RDec (rdec al s) w) := by
  generalize hm : slen al (ints s) = m
  have HM := Lib.hid hm
  have hml : m ≤ s.size := by rw [← hm, ← ints_len]; exact slen_le _ _
  clear hm
  go_enter Tryz.func25, Tryz.ntmps25
  go_upto_block 0 with (fail)
  go_cut [6] (fun s6 wc => s6 = .int .i64 (m : Int) ∧ Hid (wc = w))
  case first =>
    by_cases hal : al = 1
    · subst hal
      have hm1 : strip (ints s) s.size = m := by rw [← HM.out, slen, if_pos rfl, ints_len]
      have HM1 := Lib.hid hm1
      clear hm1 HM
      go_wp2_with fail
      go_loop [6] (fun s6 => ∃ t : Nat, t ≤ s.size ∧ s6 = .int .i64 (t : Int) ∧ Hid (strip (ints s) t = m)) (fun s6 => (intOf s6).toNat)
      case atStart => exact ⟨s.size, Nat.le_refl _, rfl, HM1⟩
      case round =>
        obtain ⟨t, ht, rfl, HT⟩ := hrel
        cases t with
        | zero =>
          have hm0 : m = 0 := HT.out.symm
          subst hm0
          go_wp2_with fail
          go_meet
          case rel => exact ⟨rfl, rfl⟩
        | succ k =>
          have hix := idx_str s k (by omega)
          by_cases hx : (ints s).getD k 0 = 61
          · have HK : Hid (strip (ints s) k = m) := by rw [← HT.out, strip_yes _ _ hx]; rfl
            rw [hx] at hix
            clear hx HT
            go_wp2_with fail
            go_round
            case rel => exact ⟨k, by omega, by first | rfl | go_num, HK⟩
            case measure => simp [intOf] <;> omega
          · have hxb : ((ints s).getD k 0 == 61) = false := by simpa using hx
            have hmk : m = k + 1 := by rw [← HT.out, strip_no _ _ hx]
            clear hx HT
            generalize (ints s).getD k 0 = x at *
            subst hmk
            go_wp2_with fail
            go_meet
            case rel => exact ⟨by first | rfl | go_num, rfl⟩
    · have hal1 : (al == 1) = false := by simpa using hal
      have hm1 : s.size = m := by rw [← HM.out, slen, if_neg hal, ints_len]
      clear hal HM
      subst hm1
      go_wp2_with fail
      refine wp_loop_rounds 1 ?_
      rw [rounds_succ]
      go_wp2_with fail
      go_meet
      case rel => exact ⟨rfl, rfl⟩
  case rest =>
    obtain ⟨rfl, hw⟩ := hcut
    obtain rfl := hw.out
    clear hw
    obtain ⟨i0, hi, hz0, hz1, hz2⟩ := info_parts info64
    obtain ⟨i8, hi8, hz80, hz81, hz82⟩ := info_parts info8
    go_wp2_with fail
    go_loopg [7, 8] m (fun k s7 s8 wx => ∃ i : Nat, i ≤ m ∧ k = m - i ∧ s8 = .int .i64 (i : Int) ∧ Hid (∀ t : Nat, t < i → 0 ≤ rval al ((ints s).getD t 0)) ∧ Hid (wx.ownsRow wc.heap.size 3 1 s7 (6 * i) ((dbits al (ints s) (6 * i)).map (Value.int .i64)) ∧ Past wc wx))
    case atStart => exact ⟨0, Nat.zero_le _, rfl, rfl, fun t ht => absurd ht (Nat.not_lt_zero _), ⟨rfl, .inl ⟨rfl, rfl⟩⟩, Below.refl _ _⟩
    case round =>
      obtain ⟨i, him, hgk, rfl, HV, HO⟩ := hrel
      have HGK := Lib.hid hgk
      clear hgk
      obtain ⟨wo, rfl⟩ : ∃ wo : World, wo = wr := ⟨_, rfl⟩
      by_cases hlt : i < m
      · have hix := idx_str s i (by omega)
        have hrg := ints_rng s i
        have HRV := Lib.hid (rvalue_any al ((ints s).getD i 0) · hrg.1 hrg.2)
        have hrr := rval_rng al ((ints s).getD i 0)
        by_cases hneg : rval al ((ints s).getD i 0) < 0
        · have HD : Hid (rdec al s = none) := by
            show rdec al s = none
            unfold rdec
            rw [if_pos (.inl ⟨i, by rw [HM.out]; exact hlt, hneg⟩)]
          generalize rval al ((ints s).getD i 0) = rv at *
          generalize (ints s).getD i 0 = x at *
          go_wp2_with fail
          refine (HRV.out _).mono ?_
          rintro e w' ⟨rfl, rfl⟩
          go_wp2_with fail
          go_ret2
          rw [HD.out]
          exact ⟨rfl, HO.out.2⟩
        · have HV2 : Hid (∀ t : Nat, t < i + 1 → 0 ≤ rval al ((ints s).getD t 0)) := fun t ht => by
            rcases Nat.lt_succ_iff_lt_or_eq.1 ht with h | rfl
            · exact HV.out t h
            · omega
          have HBT := Lib.hid (fun t ht => dbit_in al (ints s) i t ht)
          clear HV
          generalize rval al ((ints s).getD i 0) = rv at *
          generalize (ints s).getD i 0 = x at *
          go_wp2_with fail
          refine (HRV.out _).mono ?_
          rintro e w' ⟨rfl, rfl⟩
          go_wp2_with fail
          go_loopg [7, 10] 6 (fun k s7 s10 wx => ∃ t : Nat, t ≤ 6 ∧ k = 6 - t ∧ s10 = .int .i64 (5 - (t : Int)) ∧ Hid (wx.ownsRow wc.heap.size 3 1 s7 (6 * i + t) ((dbits al (ints s) (6 * i + t)).map (Value.int .i64)) ∧ Past wc wx))
          case atStart => exact ⟨0, by omega, rfl, by first | rfl | go_num, HO⟩
          case round =>
            clear HO
            obtain ⟨t, ht, hgk, rfl, HO⟩ := hrel
            have HGK2 := Lib.hid hgk
            clear hgk
            by_cases hlt2 : t < 6
            · have hbit : bits .and .i64 (rv / 2 ^ (5 - t)) 1 = dbit al (ints s) (6 * i + t) := by rw [i64_low, HBT.out t hlt2]
              have HB := Lib.hid (dbits_succ al (ints s) (6 * i + t))
              obtain ⟨hrr0, hrr1⟩ := hrr
              generalize dbit al (ints s) (6 * i + t) = bv at hbit HB
              have hrv0 : 0 ≤ rv := by omega
              go_wp2_with (at_builtin; refine wpList_append_own _ rfl _ _ 72 rfl wc.heap.size 3 i0 (.int .i64 0) 1 8 Tryz.underlying72 hi hz0 hz1 hz2 rfl (by decide) _ (6 * i + t) _ rfl (HO.out.1.alloc _) ⟨wr.heap.size, 0, none⟩ 1 1 [.int .i64 bv] rfl rfl ?c1 ?c2 ?c3 ?c4 ?c5 ?_)
              case c1 => exact one_cell wr _ _
              case c2 => simp [Value.oneCell']
              case c3 => unfold maxLen; omega
              case c4 => omega
              case c5 => exact Nat.le_trans HO.out.2.size (by simp)
              intro v' w1 hown1 hgrow1 _
              have HO2 : Hid (w1.ownsRow wc.heap.size 3 1 v' (6 * i + (t + 1)) ((dbits al (ints s) (6 * i + (t + 1))).map (Value.int .i64)) ∧ Past wc w1) := by
                have e : 6 * i + (t + 1) = 6 * i + t + 1 := by omega
                rw [e, HB.out, List.map_append]
                exact ⟨hown1, (HO.out.2.trans' ((Below.refl _ _).alloc (Nat.le_refl _) _)).grown hgrow1 (Nat.le_trans HO.out.2.size (by simp)) (own_block_ge HO.out.1)⟩
              clear hown1 hgrow1 HO
              go_wp2_with fail
              go_roundg (6 - (t + 1))
              case rel => exact ⟨t + 1, by omega, rfl, by first | go_num | (congr 1; omega), HO2⟩
              case measure => have := HGK2.out; omega
            · obtain rfl : t = 6 := by omega
              go_wp2_with fail
              go_roundg (m - (i + 1))
              case rel => exact ⟨i + 1, by omega, rfl, by go_num, HV2, HO⟩
              case measure => have := HGK.out; omega
      · obtain rfl : i = m := by omega
        obtain ⟨DA, dc, rfl⟩ := own_slice HO.out.1
        obtain ⟨wb, rfl⟩ : ∃ wb : World, wb = wo := ⟨_, rfl⟩
        have hno : nout i ≤ 75000 := by unfold nout; omega
        clear hlt
        go_wp2_with fail
        go_loopg [11, 12] (nout i) (fun k s11 s12 wx => ∃ q : Nat, q ≤ nout i ∧ k = nout i - q ∧ s12 = .int .i64 (8 * (q : Int)) ∧ Hid (wx.ownsRow wb.heap.size 5 1 s11 q ((routs al (ints s) q).map (Value.int .u8)) ∧ Past wb wx))
        case atStart => exact ⟨0, Nat.zero_le _, rfl, rfl, ⟨rfl, .inl ⟨rfl, rfl⟩⟩, Below.refl _ _⟩
        case round =>
          obtain ⟨q, hq, hgk, rfl, HQ⟩ := hrel
          have HGK3 := Lib.hid hgk
          clear hgk
          obtain ⟨wo, rfl⟩ : ∃ wo : World, wo = wr := ⟨_, rfl⟩
          by_cases hlt : q < nout i
          · have hq8 : 8 * q + 8 ≤ 6 * i := by unfold nout at hlt; omega
            have hq8b : decide (8 * (q : Int) + 8 ≤ 6 * (i : Int)) = true := by simp; omega
            obtain ⟨g, rfl, hbc, hbm, hcell⟩ := own_cell (by rw [dbits_len]) HO.out.1 (by omega)
            have HCELL := Lib.hid hcell
            clear hcell
            go_wp2_with fail
            go_loopg [13, 14] 8 (fun k s13 s14 wx => ∃ t : Nat, t ≤ 8 ∧ k = 8 - t ∧ s13 = .int .i64 (octet al (ints s) (8 * q) t) ∧ s14 = .int .i64 (8 * (q : Int) + (t : Int)) ∧ Hid (wx = wo))
            case atStart => exact ⟨0, by omega, rfl, rfl, by first | rfl | go_num, rfl⟩
            case round =>
              obtain ⟨t, ht, hgk, rfl, rfl, hw⟩ := hrel
              have HGK4 := Lib.hid hgk
              obtain rfl := hw.out
              clear hgk
              have ho0 := (octet_rng al (ints s) (8 * q) t).1
              have ho1 := octet_255 al (ints s) (8 * q) t ht
              by_cases hlt2 : t < 8
              · have hnx : octet al (ints s) (8 * q) (t + 1) = 2 * octet al (ints s) (8 * q) t + dbit al (ints s) (8 * q + t) := rfl
                have hc1 := HCELL.out (8 * q + t) (by omega)
                rw [dbits_getD al (ints s) _ _ (by omega)] at hc1
                have hc2 := (HQ.out.2.cell (cell_lt hc1)).trans hc1
                obtain ⟨hb0, hb1⟩ := dbit_rng al (ints s) (8 * q + t)
                have HNX := Lib.hid hnx
                clear hc1 hnx
                generalize octet al (ints s) (8 * q) t = sv at *
                generalize dbit al (ints s) (8 * q + t) = bv at *
                go_wp2_with fail
                go_roundg (8 - (t + 1))
                case rel => exact ⟨t + 1, by omega, rfl, by first | (rw [HNX.out]; done) | (rw [HNX.out]; go_num) | (rw [HNX.out]; congr 1; omega), by first | go_num | (congr 1; omega), rfl⟩
                case measure => have := HGK4.out; omega
              · obtain rfl : t = 8 := by omega
                have HSX := Lib.hid (routs_succ al (ints s) q)
                generalize octet al (ints s) (8 * q) 8 = sv at *
                go_wp2_with (at_builtin; refine wpList_append_own _ rfl _ _ 22 rfl wb.heap.size 5 i8 (.int .u8 0) 1 1 Tryz.underlying22 hi8 hz80 hz81 hz82 rfl (by decide) _ q _ rfl (HQ.out.1.alloc _) ⟨wr.heap.size, 0, none⟩ 1 1 [.int .u8 sv] rfl rfl ?d1 ?d2 ?d3 ?d4 ?d5 ?_)
                case d2 => simp [Value.oneCell']
                case d3 => unfold maxLen; omega
                case d4 => omega
                case d5 => exact Nat.le_trans HQ.out.2.size (by simp)
                intro v' w2 hown1 hgrow1 _
                have HQ2 : Hid (w2.ownsRow wb.heap.size 5 1 v' (q + 1) ((routs al (ints s) (q + 1)).map (Value.int .u8)) ∧ Past wb w2) := by
                  rw [HSX.out, List.map_append]
                  exact ⟨hown1, (HQ.out.2.trans' ((Below.refl _ _).alloc (Nat.le_refl _) _)).grown hgrow1 (Nat.le_trans HQ.out.2.size (by simp)) (own_block_ge HQ.out.1)⟩
                clear hown1 hgrow1 HQ
                go_wp2_with fail
                go_roundg (nout i - (q + 1))
                case rel => exact ⟨q + 1, by omega, rfl, by first | go_num | (congr 1; omega), HQ2⟩
                case measure => have := HGK3.out; omega
          · obtain rfl : q = nout i := by omega
            have hq8 : 6 * i < 8 * nout i + 8 := by unfold nout; omega
            obtain ⟨OA, oc, rfl⟩ := own_slice HQ.out.1
            have HSL := Lib.hid (Sl.of_own HQ.out.1 (routs_rng al (ints s) (nout i)))
            have HP := Lib.hid (HO.out.2.trans' HQ.out.2)
            have HVN : Hid (¬ ∃ t, t < slen al (ints s) ∧ rval al ((ints s).getD t 0) < 0) := by
              rintro ⟨t, ht, hn⟩
              have := HV.out t (by rw [HM.out] at ht; exact ht)
              omega
            cases hal : isAl al with
            | false =>
              have HD : Hid (rdec al s = none) := by
                show rdec al s = none
                unfold rdec
                rw [if_pos (.inr (.inl hal))]
              obtain ⟨h1, h2⟩ := al_no hal
              have n1 : (al != 1) = true := by simpa using h1
              have n2 : (al != 2) = true := by simpa using h2
              clear hal h1 h2
              generalize nout i = N at *
              go_wp2_with fail
              go_ret2
              rw [HD.out]
              exact ⟨rfl, HP.out⟩
            | true =>
              have HEN := Lib.hid (rencode_any al OA (nout i) oc (routs al (ints s) (nout i)) _ HSL.out (by omega))
              by_cases heq : txt (renc al (routs al (ints s) (nout i)) (nout i)) = s
              · have HD : Hid (rdec al s = some (routs al (ints s) (nout i))) := by
                  show rdec al s = _
                  unfold rdec
                  rw [HM.out, if_neg]
                  rintro (h | h | h)
                  · rw [HM.out] at HVN
                    exact HVN.out h
                  · rw [hal] at h; cases h
                  · exact h heq
                rw [heq] at HEN
                clear heq
                generalize routs al (ints s) (nout i) = os at *
                generalize nout i = N at *
                rcases al_cases hal with rfl | rfl
                all_goals
                  clear hal
                  go_wp2_with fail
                  refine HEN.out.mono ?_
                  rintro e w3 ⟨rfl, hp3⟩
                  have HSL3 := Lib.hid (HSL.out.past hp3)
                  have HP3 := Lib.hid (HP.out.trans' hp3)
                  clear hp3
                  go_wp2_with fail
                  go_ret2
                  rw [HD.out]
                  exact ⟨_, _, _, rfl, HSL3.out, HP3.out⟩
              · have HD : Hid (rdec al s = none) := by
                  show rdec al s = none
                  unfold rdec
                  rw [HM.out, if_pos (.inr (.inr heq))]
                generalize txt (renc al (routs al (ints s) (nout i)) (nout i)) = es at *
                have heq2 : (es.toList == s.toList) = false := by
                  simp only [beq_eq_false_iff_ne]
                  exact fun h => heq (toList_inj h)
                clear heq
                generalize nout i = N at *
                rcases al_cases hal with rfl | rfl
                all_goals
                  clear hal
                  go_wp2_with fail
                  refine HEN.out.mono ?_
                  rintro e w3 ⟨rfl, hp3⟩
                  have HP3 := Lib.hid (HP.out.trans' hp3)
                  clear hp3
                  go_wp2_with fail
                  go_ret2
                  rw [HD.out]
                  exact ⟨rfl, HP3.out⟩

end Go.Proofs.YtnnonidiogoffaaGreatDoor
