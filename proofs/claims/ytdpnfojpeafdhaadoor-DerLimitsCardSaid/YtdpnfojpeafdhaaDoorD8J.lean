/- The program's reader: a byte, and a length. The program's reading of a length. -/
import Derived.Test.YtdpnfojpeafdhaaDoorD8C
import Derived.Test.YtdpnfojpeafdhaaDoorWire4
import Derived.Test.YtdpnfojpeafdhaaDoorErr2
import Derived.Test.YtdpnfojpeafdhaaDoorTxt8
namespace Go.Proofs.YtdpnfojpeafdhaaDoor
open Go.RowKit
set_option linter.unusedVariables false

/-- A reader at block g over the bytes xs, at the offset k. -/
structure Rw (w : World) (g : Nat) (A : Option Addr) (n c : Nat) (xs : List Int) (k : Nat) : Prop where
  rd : Rdr w g A n c k
  sl : Sl w A n c xs
  hk : k ≤ n
  hn : n ≤ 1048576
abbrev rdV (g : Nat) : Value := .agg #[.pointer (some ⟨g, 0, none⟩)]
section
variable {w w' : World} {g : Nat} {A : Option Addr} {n c k : Nat} {xs : List Int}
theorem Rw.past (h : Rw w g A n c xs k) (hp : Past w w') : Rw w' g A n c xs k := ⟨h.rd.past hp, h.sl.past hp, h.hk, h.hn⟩
theorem Rw.move (h : Rw w g A n c xs k) (hg : w.grownBy w' (some g)) {j : Nat} (hr : Rdr w' g A n c j) (hj : j ≤ n) : Rw w' g A n c xs j := ⟨hr, h.sl.only hg (h.rd.nobyte), hj, h.hn⟩
end

theorem beI_one (xs : List Int) (k : Nat) (h : k < xs.length) : beI ((xs.drop k).take 1) = xs.getD k 0 := by
  have e : (xs.drop k).take 1 = [xs.getD k 0] := by
    rw [List.drop_eq_getElem_cons h, List.getD_eq_getElem?_getD, List.getElem?_eq_getElem h]
    rfl
  rw [e]
  simp [beI]

theorem next_end (w : World) (g : Nat) (A : Option Addr) (n c : Nat) (xs : List Int) (k fin : Nat) (h : Rw w g A n c xs k) (hf : fin ≤ k) :
    Calls Tryd.prog 39 #[rdV g, .int .i64 (fin : Int)] w fun e w' => e = .returned (.tuple #[.int .u8 0, (Ch.flt 3 (fin : Int)).val]) ∧ Past w w' := by
  have hR := h.past (past_alloc8 w (.cells #[.pointer (some ⟨g, 0, none⟩)] 60))
  have HA := Lib.hid (wat_any _ g A n c k hR.rd)
  have HN := Lib.hid (fun w => new_any 3 (fin : Int) w)
  have HP := Lib.hid (past_alloc8 w (.cells #[.pointer (some ⟨g, 0, none⟩)] 60))
  have hfi : (fin : Int) ≤ (k : Int) := by omega
  have f0 := (Row.new w 60 #[.pointer (some ⟨g, 0, none⟩)]).cell 0
  clear h hf hR
  simp only [valFlt] at HN ⊢
  go_enter Tryd.func39, Tryd.ntmps39
  go_wp2_with fail
  refine HA.out.mono ?_
  rintro e w1 ⟨rfl, rfl⟩
  go_wp2_with fail
  refine (HN.out _).mono ?_
  rintro e w2 ⟨rfl, hp⟩
  have HQ := Lib.hid (HP.out.trans' hp)
  clear hp HP HA
  go_wp2_with fail
  go_ret2
  exact ⟨rfl, HQ.out⟩

theorem next_got (w : World) (g : Nat) (A : Option Addr) (n c : Nat) (xs : List Int) (k fin : Nat) (h : Rw w g A n c xs k) (hk : k < fin) (hf : fin ≤ n) :
    Calls Tryd.prog 39 #[rdV g, .int .i64 (fin : Int)] w fun e w' => e = .returned (.tuple #[.int .u8 (xs.getD k 0), .nilIface]) ∧ Rdr w' g A n c (k + 1) ∧ w.grownBy w' (some g) := by
  have hR := h.past (past_alloc8 w (.cells #[.pointer (some ⟨g, 0, none⟩)] 60))
  have HA := Lib.hid (wat_any _ g A n c k hR.rd)
  have HWd := Lib.hid (word_ok 1 _ g A n c k xs hR.rd hR.sl hR.hk (by omega) (by decide))
  rw [beI_one xs k (by have := h.sl.len; omega)] at HWd
  have HX : Hid (Rdr w g A n c k) := Lib.hid h.rd
  have hx := getD_rng h.sl k
  have hwr : IntKind.u8.wrap (xs.getD k 0) = xs.getD k 0 := by rw [IntKind.wrap_u8]; omega
  have hfi : ¬ (fin : Int) ≤ (k : Int) := by omega
  have f0 : (w.alloc (.cells #[.pointer (some ⟨g, 0, none⟩)] 60)).cell? ⟨w.heap.size, 0, none⟩ = some (.pointer (some ⟨g, 0, none⟩)) := (Row.new w 60 #[.pointer (some ⟨g, 0, none⟩)]).cell 0
  have HP := Lib.hid (past_alloc8 w (.cells #[.pointer (some ⟨g, 0, none⟩)] 60))
  have HRd := Lib.hid hR.rd
  clear h hk hf hR
  generalize xs.getD k 0 = x at *
  go_enter Tryd.func39, Tryd.ntmps39
  go_wp2_with fail
  generalize w.alloc (.cells #[.pointer (some ⟨g, 0, none⟩)] 60) = w1 at *
  refine HA.out.mono ?_
  rintro e w2 ⟨rfl, rfl⟩
  go_wp2_with fail
  refine HWd.out.mono ?_
  rintro e w2 ⟨rfl, m, hw2⟩
  have HQ : Hid (Rdr w2 g A n c (k + 1) ∧ w.grownBy w2 (some g)) := by
    rw [hw2]
    exact Lib.hid ⟨(HRd.out.drewN m).set1 (k + 1), only_trans (only_of_past HP.out _) (only_setCell (only_drewN (World.grownBy.refl w1 (some g)) m) (.inl rfl) _)⟩
  clear hw2
  go_wp2_with fail
  go_ret2
  exact ⟨rfl, HQ.out.1, HQ.out.2⟩

end Go.Proofs.YtdpnfojpeafdhaaDoor

namespace Go.Proofs.YtdpnfojpeafdhaaDoor
open Go.RowKit
set_option linter.unusedVariables false

theorem or_byte (z y : Nat) (hz : z < 65536) (hy : y < 256) : bits .or .i64 ((z : Int) * 256) (y : Int) = (z : Int) * 256 + (y : Int) :=
  bits_join .i64 63 (by decide) (fun n h0 h1 => by rw [IntKind.wrap_i64]; omega) 8 ((z : Int) * 256) (y : Int) (by omega) (by omega) (by omega) (by omega) (by omega) (by omega)
def LenP (r : Hd) (w : World) (g : Nat) (A : Option Addr) (n c : Nat) (e : Ending) (w' : World) : Prop :=
  match r with
  | .err cd a => e = .returned (.tuple #[.int .i64 0, (Ch.flt (cd : Int) (a : Int)).val]) ∧ w.grownBy w' (some g)
  | .ok nx l => e = .returned (.tuple #[.int .i64 (l : Int), .nilIface]) ∧ Rdr w' g A n c nx ∧ w.grownBy w' (some g)

set_option maxHeartbeats 2000000 in
set_option maxRecDepth 100000 in
theorem length_any (w : World) (g : Nat) (A : Option Addr) (n c : Nat) (xs : List Int) (at0 fin : Nat) (h : Rw w g A n c xs (at0 + 1)) (hf : fin ≤ n) :
    Calls Tryd.prog 41 #[rdV g, .int .i64 (fin : Int)] w (LenP (hdr xs at0 fin) w g A n c) := by
  have hR := h.past (past_alloc8 w (.cells #[.pointer (some ⟨g, 0, none⟩)] 60))
  have HP := Lib.hid (past_alloc8 w (.cells #[.pointer (some ⟨g, 0, none⟩)] 60))
  have HRow := Lib.hid (Row.new w 60 #[.pointer (some ⟨g, 0, none⟩)])
  have HRW := Lib.hid hR
  have hgl := h.rd.lt
  have hxr := getD_rng h.sl
  have hn := h.hn
  have HXR := Lib.hid hxr
  clear h hR hxr
  have f0 : (w.alloc (.cells #[.pointer (some ⟨g, 0, none⟩)] 60)).cell? ⟨w.heap.size, 0, none⟩ = some (.pointer (some ⟨g, 0, none⟩)) := HRow.out.cell 0
  go_enter Tryd.func41, Tryd.ntmps41
  go_wp2_with fail
  generalize w.alloc (.cells #[.pointer (some ⟨g, 0, none⟩)] 60) = w1 at *
  generalize hq : w.heap.size = q at *
  have HG : Hid (g < q) := by show _ < _; omega
  clear hgl hq
  refine (wat_any _ g A n c (at0 + 1) HRW.out.rd).mono ?_
  rintro e w2 ⟨rfl, rfl⟩
  go_wp2_with fail
  by_cases h1 : fin ≤ at0 + 1
  · have HH : Hid (hdr xs at0 fin = .err 3 fin) := Lib.hid (by unfold hdr; rw [if_pos h1])
    refine (next_end _ g A n c xs (at0 + 1) fin HRW.out h1).mono ?_
    rintro e w2 ⟨rfl, hp⟩
    have HQ : Hid (w.grownBy w2 (some g)) := only_of_past (HP.out.trans' hp) _
    clear hp
    simp only [valFlt]
    go_wp2_with fail
    go_ret2
    rw [HH.out]
    exact ⟨rfl, HQ.out⟩
  have h1 : at0 + 1 < fin := by omega
  refine (next_got _ g A n c xs (at0 + 1) fin HRW.out h1 hf).mono ?_
  rintro e w2 ⟨rfl, hrd, hgr⟩
  obtain ⟨L, hL⟩ : ∃ L : Nat, xs.getD (at0 + 1) 0 = (L : Int) := ⟨(xs.getD (at0 + 1) 0).toNat, by have := HXR.out (at0 + 1); omega⟩
  have hLb : L < 256 := by have := HXR.out (at0 + 1); omega
  have hLt : (xs.getD (at0 + 1) 0).toNat = L := by omega
  have H2 : Hid (Rw w2 g A n c xs (at0 + 2) ∧ w.grownBy w2 (some g) ∧ Row w2 q 60 #[.pointer (some ⟨g, 0, none⟩)]) :=
    Lib.hid ⟨HRW.out.move hgr hrd (by omega), only_trans (only_of_past HP.out _) hgr, HRow.out.grown hgr (by have := HG.out; intro e; injection e with e; omega)⟩
  have HLL := Lib.hid hLt
  rw [hL]
  clear hrd hgr HRW HRow HP f0 hL hLt
  have f0 : w2.cell? ⟨q, 0, none⟩ = some (.pointer (some ⟨g, 0, none⟩)) := H2.out.2.2.cell 0
  by_cases h2 : L < 128
  · have h2i : (L : Int) < 128 := by omega
    have HH : Hid (hdr xs at0 fin = .ok (at0 + 2) L) := Lib.hid (by unfold hdr; rw [if_neg (by omega), HLL.out, if_neg (by omega), if_neg (by omega)])
    go_wp2_with fail
    go_ret2
    rw [HH.out]
    exact ⟨rfl, H2.out.1.rd, H2.out.2.1⟩
  have h2i : ¬ (L : Int) < 128 := by omega
  by_cases h3 : L = 128 ∨ 131 < L
  · have HH : Hid (hdr xs at0 fin = .err 6 (at0 + 1)) := Lib.hid (by unfold hdr; rw [if_neg (by omega), HLL.out, if_pos h3])
    have HN := Lib.hid (fun w => new_any 6 ((at0 : Int) + 1) w)
    simp only [valFlt] at HN
    have hcast : ((at0 + 1 : Nat) : Int) = (at0 : Int) + 1 := by omega
    have HCS := Lib.hid hcast
    clear hcast
    rcases h3 with rfl | h3
    · go_wp2_with fail
      refine (HN.out _).mono ?_
      rintro e w3 ⟨rfl, hp⟩
      have HQ : Hid (w.grownBy w3 (some g)) := only_trans H2.out.2.1 (only_of_past hp _)
      clear hp
      go_wp2_with fail
      go_ret2
      rw [HH.out]
      exact ⟨by simp only [valFlt]; rw [HCS.out]; rfl, HQ.out⟩
    · have h3i : 3 < (L : Int) - 128 := by omega
      go_wp2_with fail
      refine (HN.out _).mono ?_
      rintro e w3 ⟨rfl, hp⟩
      have HQ : Hid (w.grownBy w3 (some g)) := only_trans H2.out.2.1 (only_of_past hp _)
      clear hp
      go_wp2_with fail
      go_ret2
      rw [HH.out]
      exact ⟨by simp only [valFlt]; rw [HCS.out]; rfl, HQ.out⟩
  obtain ⟨k, rfl⟩ : ∃ k, L = 128 + k := ⟨L - 128, by omega⟩
  have hk1 : 1 ≤ k := by omega
  have hk3 : k ≤ 3 := by omega
  have hk1i : ¬ (k : Int) < 1 := by omega
  have hk3i : ¬ 3 < (k : Int) := by omega
  have HHF : Hid (hdr xs at0 fin = if fin < at0 + 2 + k then .err 3 fin else if beN xs (at0 + 2) k < 128 ∨ (numB (beN xs (at0 + 2) k)).length ≠ k then .err 6 (at0 + 1) else .ok (at0 + 2 + k) (beN xs (at0 + 2) k)) :=
    Lib.hid (by unfold hdr; rw [if_neg (by omega), HLL.out, if_neg (by omega), if_pos (by omega), show 128 + k - 128 = k by omega])
  have HBE := Lib.hid (beN_lt xs (at0 + 2) HXR.out)
  clear HLL h2 h3
  have e1 : ((128 + k : Nat) : Int) = 128 + (k : Int) := by omega
  have e2 : 128 + (k : Int) - 128 = (k : Int) := by omega
  have h2i : ¬ 128 + (k : Int) < 128 := by omega
  rw [e1]
  go_wp2_with fail
  go_loopg [10, 11, 12, 43] k (fun p s10 _ _ s43 wx => ∃ i : Nat, i ≤ k ∧ p = k - i ∧ s10 = .int .i64 (beN xs (at0 + 2) i : Int) ∧ s43 = .int .i64 (i : Int) ∧ at0 + 2 + i ≤ fin ∧ Hid (Rw wx g A n c xs (at0 + 2 + i) ∧ w.grownBy wx (some g) ∧ Row wx q 60 #[.pointer (some ⟨g, 0, none⟩)]))
  case atStart => exact ⟨0, Nat.zero_le _, rfl, rfl, rfl, by omega, H2⟩
  case round =>
    clear H2 f0
    obtain ⟨i, hi, hgk, rfl, rfl, hif, HQ⟩ := hrel
    have HGK := Lib.hid hgk
    clear hgk
    have f0 : wr.cell? ⟨q, 0, none⟩ = some (.pointer (some ⟨g, 0, none⟩)) := HQ.out.2.2.cell 0
    by_cases hlt : i < k
    · have hi0 : (0 : Int) ≤ (i : Int) := by omega
      have him : (i : Int) < (k : Int) := by omega
      go_wp2_with fail
      by_cases hen : fin ≤ at0 + 2 + i
      · have HH : Hid (hdr xs at0 fin = .err 3 fin) := Lib.hid (by rw [HHF.out, if_pos (by omega)])
        refine (next_end _ g A n c xs (at0 + 2 + i) fin HQ.out.1 hen).mono ?_
        rintro e w3 ⟨rfl, hp⟩
        have HE : Hid (w.grownBy w3 (some g)) := only_trans HQ.out.2.1 (only_of_past hp _)
        clear hp
        simp only [valFlt]
        go_wp2_with fail
        go_ret2
        rw [HH.out]
        exact ⟨rfl, HE.out⟩
      · refine (next_got _ g A n c xs (at0 + 2 + i) fin HQ.out.1 (by omega) hf).mono ?_
        rintro e w3 ⟨rfl, hrd, hgr⟩
        have H3 : Hid (Rw w3 g A n c xs (at0 + 2 + (i + 1)) ∧ w.grownBy w3 (some g) ∧ Row w3 q 60 #[.pointer (some ⟨g, 0, none⟩)]) :=
          Lib.hid ⟨HQ.out.1.move hgr hrd (by omega), only_trans HQ.out.2.1 hgr, HQ.out.2.2.grown hgr (by have := HG.out; intro e; injection e with e; omega)⟩
        clear hrd hgr HQ f0
        have hrg := HXR.out (at0 + 2 + i)
        have hbe := HBE.out i
        have hb3 : beN xs (at0 + 2) i < 65536 := by
          have h2 : (256 : Nat) ^ i ≤ 256 ^ 2 := Nat.pow_le_pow_right (by omega) (by omega)
          omega
        have HSS : Hid (beN xs (at0 + 2) (i + 1) = beN xs (at0 + 2) i * 256 + (xs.getD (at0 + 2 + i) 0).toNat) := Lib.hid rfl
        obtain ⟨y, hy⟩ : ∃ y : Nat, xs.getD (at0 + 2 + i) 0 = (y : Int) := ⟨(xs.getD (at0 + 2 + i) 0).toNat, by omega⟩
        rw [hy] at hrg HSS ⊢
        clear hy hbe
        have hor := or_byte (beN xs (at0 + 2) i) y hb3 (by omega)
        generalize beN xs (at0 + 2) i = z at *
        go_wp2_with fail
        go_roundg (k - (i + 1))
        case rel => exact ⟨i + 1, by omega, rfl, by rw [HSS.out, Int.toNat_natCast]; go_num, by go_num, by omega, H3⟩
        case measure => have := HGK.out; omega
    · obtain rfl : i = k := by omega
      have hbk : beN xs (at0 + 2) i < 16777216 := by
        have h1 := HBE.out i
        have h2 : (256 : Nat) ^ i ≤ 256 ^ 3 := Nat.pow_le_pow_right (by omega) (by omega)
        omega
      have HFU := Lib.hid (fun w => further_any (beN xs (at0 + 2) i) (by omega) w)
      have HN := Lib.hid (fun w => new_any 6 ((at0 : Int) + 1) w)
      simp only [valFlt] at HN
      have hcast : ((at0 + 1 : Nat) : Int) = (at0 : Int) + 1 := by omega
      have HCS := Lib.hid hcast
      clear hcast
      by_cases hbad : beN xs (at0 + 2) i < 128 ∨ (numB (beN xs (at0 + 2) i)).length ≠ i
      · have HH : Hid (hdr xs at0 fin = .err 6 (at0 + 1)) := Lib.hid (by rw [HHF.out, if_neg (by omega), if_pos hbad])
        have hfn : furN (beN xs (at0 + 2) i) ≠ i := by
          unfold furN
          rcases hbad with h | h
          · rw [if_pos h]
            omega
          · split
            · omega
            · exact h
        have hne : ((furN (beN xs (at0 + 2) i) : Int) != (i : Int)) = true := by simp; omega
        clear hbad hfn
        generalize furN (beN xs (at0 + 2) i) = ff at *
        generalize beN xs (at0 + 2) i = z at *
        go_wp2_with fail
        refine (HFU.out _).mono ?_
        rintro e w3 ⟨rfl, rfl⟩
        go_wp2_with fail
        refine (HN.out _).mono ?_
        rintro e w4 ⟨rfl, hp⟩
        have HE : Hid (w.grownBy w4 (some g)) := only_trans HQ.out.2.1 (only_of_past hp _)
        clear hp
        go_wp2_with fail
        go_ret2
        rw [HH.out]
        exact ⟨by simp only [valFlt]; rw [HCS.out]; rfl, HE.out⟩
      · have HH : Hid (hdr xs at0 fin = .ok (at0 + 2 + i) (beN xs (at0 + 2) i)) := Lib.hid (by rw [HHF.out, if_neg (by omega), if_neg hbad])
        have hfn : furN (beN xs (at0 + 2) i) = i := by
          unfold furN
          rw [if_neg (by omega)]
          omega
        have hne : ((i : Int) != (i : Int)) = false := by simp
        rw [hfn] at HFU
        clear hbad hfn
        generalize beN xs (at0 + 2) i = z at *
        go_wp2_with fail
        refine (HFU.out _).mono ?_
        rintro e w3 ⟨rfl, rfl⟩
        go_wp2_with fail
        go_ret2
        rw [HH.out]
        exact ⟨rfl, HQ.out.1.rd, HQ.out.2.1⟩

end Go.Proofs.YtdpnfojpeafdhaaDoor
