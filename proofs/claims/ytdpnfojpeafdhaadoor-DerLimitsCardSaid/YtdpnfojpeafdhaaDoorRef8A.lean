/- The reference's Depth, Count and Weight of a tree. -/
import Derived.Test.YtdpnfojpeafdhaaDoorTree
namespace Go.Proofs.YtdpnfojpeafdhaaDoor
open Go.RowKit

theorem past_alloc8 (w : World) (o : Obj) : Past w (w.alloc o) := (Below.refl _ _).alloc (Nat.le_refl _) _

set_option maxHeartbeats 1000000 in
theorem rdepth_any {w0 : World} {v : Value} {t : T} (h : InM w0 v t) : ∀ w, Past w0 w → cnt t ≤ 1000000000 →
    Calls Tryd.prog 31 #[v] w fun e w' => e = .returned (.int .i64 (dep t : Int)) ∧ Past w w' := by
  induction h with
  | mk v0 v1 v2 ht hb hl hm hd h0 hc hk ih =>
    rename_i tag A n c bytes K m d kids
    intro w hw hn
    have hmb : m ≤ 1000000000 := by
      have := len_cntL kids 1
      have : cntL kids 1 ≤ 1000000000 := hn
      omega
    have HN : Hid (cntL kids 1 ≤ 1000000000) := hn
    have HIH := Lib.hid ih
    have HC := Lib.hid hc
    have HL := Lib.hid hl
    have HR : Hid (Past w (w.alloc (.cells #[.int .u8 tag, .slice A n c, .slice K m d] 33)) ∧ Row (w.alloc (.cells #[.int .u8 tag, .slice A n c, .slice K m d] 33)) w.heap.size 33 #[.int .u8 tag, .slice A n c, .slice K m d]) := ⟨past_alloc8 _ _, Row.new _ _ _⟩
    have HW := Lib.hid hw
    have HD : Hid (dep (T.node tag bytes kids) = depL kids 1) := rfl
    clear hn ih hc hl hk hb ht hw
    go_enter Tryd.func31, Tryd.ntmps31
    go_wp2_with fail
    generalize w.alloc (.cells #[.int .u8 tag, .slice A n c, .slice K m d] 33) = w1 at *
    generalize hg : w.heap.size = g at *
    go_loopg [3, 4, 5] m (fun k s3 s4 _ wx => ∃ i : Nat, i ≤ m ∧ k = m - i ∧ s3 = .int .i64 (depL (kids.take i) 1 : Int) ∧ s4 = .int .i64 (i : Int) ∧ Hid (Past w wx ∧ Row wx g 33 #[.int .u8 tag, .slice A n c, .slice K m d]))
    case atStart => exact ⟨0, Nat.zero_le _, rfl, rfl, rfl, HR⟩
    case round =>
      clear HR
      obtain ⟨i, hi, hgk, rfl, rfl, HQ⟩ := hrel
      have HGK := Lib.hid hgk
      clear hgk
      have f2 : wr.cell? ⟨g, 2, none⟩ = some (.slice K m d) := HQ.out.2.cell 2
      by_cases hlt : i < m
      · obtain ⟨b, o, rfl, hcell⟩ := HC.out (by omega)
        obtain ⟨q0, q1, q2⟩ := hcell i hlt
        have hpp := HW.out.trans' HQ.out.1
        have c0 : wr.cell? ⟨b, o + i * 3, none⟩ = some (v0 i) := by rw [Below.cell hpp (cell_lt q0)]; exact q0
        have c1 : wr.cell? ⟨b, o + i * 3 + 1, none⟩ = some (v1 i) := by rw [Below.cell hpp (cell_lt q1)]; exact q1
        have c2 : wr.cell? ⟨b, o + i * 3 + 2, none⟩ = some (v2 i) := by rw [Below.cell hpp (cell_lt q2)]; exact q2
        have hck := cnt_kid kids i (by rw [HL.out]; exact hlt)
        have hkc := HIH.out i hlt wr hpp (by have := HN.out; omega)
        have hdk := dep_le (kids.getD i default)
        have hdl := depL_le (kids.take i) 1 1 (Nat.le_refl _) (Nat.le_refl _)
        have HS : Hid (depL (kids.take (i + 1)) 1 = max (depL (kids.take i) 1) (1 + dep (kids.getD i default))) := by
          show _ = _
          rw [take_next kids i (by rw [HL.out]; exact hlt), depL_snoc]
        have hb1 : dep (kids.getD i default) ≤ 1000000000 := by have := HN.out; omega
        have hb2 : depL (kids.take i) 1 ≤ 1000000000 := by have := HN.out; omega
        have HK := Lib.hid hkc
        clear hcell q0 q1 q2 hpp hck hkc hdk hdl
        have hi0 : (0 : Int) ≤ (i : Int) := by omega
        have him : (i : Int) < (m : Int) := by omega
        generalize dep (kids.getD i default) = dk at *
        generalize depL (kids.take i) 1 = dl at *
        go_wp2_with fail
        refine HK.out.mono ?_
        rintro e w2 ⟨rfl, hp⟩
        have HQ2 : Hid (Past w w2 ∧ Row w2 g 33 #[.int .u8 tag, .slice A n c, .slice (some ⟨b, o, none⟩) m d]) := ⟨HQ.out.1.trans' hp, HQ.out.2.past hp⟩
        clear hp HQ HK
        by_cases hgt : dl < 1 + dk
        · have hgi : (dl : Int) < 1 + (dk : Int) := by omega
          go_wp2_with fail
          go_roundg (m - (i + 1))
          case rel => exact ⟨i + 1, by omega, rfl, by rw [HS.out, Nat.max_eq_right (by omega)]; congr 1, by go_num, HQ2⟩
          case measure => have := HGK.out; omega
        · have hgi : ¬ (dl : Int) < 1 + (dk : Int) := by omega
          go_wp2_with fail
          go_roundg (m - (i + 1))
          case rel => exact ⟨i + 1, by omega, rfl, by rw [HS.out, Nat.max_eq_left (by omega)], by go_num, HQ2⟩
          case measure => have := HGK.out; omega
      · obtain rfl : i = m := by omega
        have he : Hid (depL (kids.take i) 1 = depL kids 1) := by
          show _ = _
          rw [List.take_of_length_le (by rw [HL.out]; exact Nat.le_refl _)]
        go_wp2_with fail
        go_ret
        rw [HD.out, ← he.out]
        exact ⟨rfl, HQ.out.1⟩

set_option maxHeartbeats 1000000 in
theorem rcount_any {w0 : World} {v : Value} {t : T} (h : InM w0 v t) : ∀ w, Past w0 w → cnt t ≤ 1000000000 →
    Calls Tryd.prog 32 #[v] w fun e w' => e = .returned (.int .i64 (cnt t : Int)) ∧ Past w w' := by
  induction h with
  | mk v0 v1 v2 ht hb hl hm hd h0 hc hk ih =>
    rename_i tag A n c bytes K m d kids
    intro w hw hn
    have hmb : m ≤ 1000000000 := by
      have := len_cntL kids 1
      have : cntL kids 1 ≤ 1000000000 := hn
      omega
    have HN : Hid (cntL kids 1 ≤ 1000000000) := hn
    have HIH := Lib.hid ih
    have HC := Lib.hid hc
    have HL := Lib.hid hl
    have HR : Hid (Past w (w.alloc (.cells #[.int .u8 tag, .slice A n c, .slice K m d] 33)) ∧ Row (w.alloc (.cells #[.int .u8 tag, .slice A n c, .slice K m d] 33)) w.heap.size 33 #[.int .u8 tag, .slice A n c, .slice K m d]) := ⟨past_alloc8 _ _, Row.new _ _ _⟩
    have HW := Lib.hid hw
    have HD : Hid (cnt (T.node tag bytes kids) = cntL kids 1) := rfl
    clear hn ih hc hl hk hb ht hw
    go_enter Tryd.func32, Tryd.ntmps32
    go_wp2_with fail
    generalize w.alloc (.cells #[.int .u8 tag, .slice A n c, .slice K m d] 33) = w1 at *
    generalize hg : w.heap.size = g at *
    go_loopg [3, 4] m (fun k s3 s4 wx => ∃ i : Nat, i ≤ m ∧ k = m - i ∧ s3 = .int .i64 (cntL (kids.take i) 1 : Int) ∧ s4 = .int .i64 (i : Int) ∧ Hid (Past w wx ∧ Row wx g 33 #[.int .u8 tag, .slice A n c, .slice K m d]))
    case atStart => exact ⟨0, Nat.zero_le _, rfl, rfl, rfl, HR⟩
    case round =>
      clear HR
      obtain ⟨i, hi, hgk, rfl, rfl, HQ⟩ := hrel
      have HGK := Lib.hid hgk
      clear hgk
      have f2 : wr.cell? ⟨g, 2, none⟩ = some (.slice K m d) := HQ.out.2.cell 2
      by_cases hlt : i < m
      · obtain ⟨b, o, rfl, hcell⟩ := HC.out (by omega)
        obtain ⟨q0, q1, q2⟩ := hcell i hlt
        have hpp := HW.out.trans' HQ.out.1
        have c0 : wr.cell? ⟨b, o + i * 3, none⟩ = some (v0 i) := by rw [Below.cell hpp (cell_lt q0)]; exact q0
        have c1 : wr.cell? ⟨b, o + i * 3 + 1, none⟩ = some (v1 i) := by rw [Below.cell hpp (cell_lt q1)]; exact q1
        have c2 : wr.cell? ⟨b, o + i * 3 + 2, none⟩ = some (v2 i) := by rw [Below.cell hpp (cell_lt q2)]; exact q2
        have hck := cnt_kid kids i (by rw [HL.out]; exact hlt)
        have hkc := HIH.out i hlt wr hpp (by have := HN.out; omega)
        have HS : Hid (cntL (kids.take (i + 1)) 1 = cntL (kids.take i) 1 + cnt (kids.getD i default)) := by
          show _ = _
          rw [take_next kids i (by rw [HL.out]; exact hlt), cntL_snoc]
        have hb1 : cntL (kids.take i) 1 + cnt (kids.getD i default) ≤ 1000000000 := by have := HN.out; omega
        have HK := Lib.hid hkc
        clear hcell q0 q1 q2 hpp hck hkc
        have hi0 : (0 : Int) ≤ (i : Int) := by omega
        have him : (i : Int) < (m : Int) := by omega
        generalize cnt (kids.getD i default) = dk at *
        generalize cntL (kids.take i) 1 = dl at *
        go_wp2_with fail
        refine HK.out.mono ?_
        rintro e w2 ⟨rfl, hp⟩
        have HQ2 : Hid (Past w w2 ∧ Row w2 g 33 #[.int .u8 tag, .slice A n c, .slice (some ⟨b, o, none⟩) m d]) := ⟨HQ.out.1.trans' hp, HQ.out.2.past hp⟩
        clear hp HQ HK
        go_wp2_with fail
        go_roundg (m - (i + 1))
        case rel => exact ⟨i + 1, by omega, rfl, by rw [HS.out]; congr 1, by go_num, HQ2⟩
        case measure => have := HGK.out; omega
      · obtain rfl : i = m := by omega
        have he : Hid (cntL (kids.take i) 1 = cntL kids 1) := by
          show _ = _
          rw [List.take_of_length_le (by rw [HL.out]; exact Nat.le_refl _)]
        go_wp2_with fail
        go_ret
        rw [HD.out, ← he.out]
        exact ⟨rfl, HQ.out.1⟩

set_option maxHeartbeats 1000000 in
theorem rweight_any {w0 : World} {v : Value} {t : T} (h : InM w0 v t) : ∀ w, Past w0 w → cnt t ≤ 1000000000 → wgt t ≤ 1000000000 →
    Calls Tryd.prog 33 #[v] w fun e w' => e = .returned (.int .i64 (wgt t : Int)) ∧ Past w w' := by
  induction h with
  | mk v0 v1 v2 ht hb hl hm hd h0 hc hk ih =>
    rename_i tag A n c bytes K m d kids
    intro w hw hn hwt
    have hmb : m ≤ 1000000000 := by
      have := len_cntL kids 1
      have : cntL kids 1 ≤ 1000000000 := hn
      omega
    have HN : Hid (cntL kids 1 ≤ 1000000000) := hn
    have hbl := hb.len
    have HWT : Hid (wgtL kids n ≤ 1000000000) := by rw [← hbl]; exact hwt
    have hn9 : n ≤ 1000000000 := by have := wgtL_le kids n; have := HWT.out; omega
    have HIH := Lib.hid ih
    have HC := Lib.hid hc
    have HL := Lib.hid hl
    have HR : Hid (Past w (w.alloc (.cells #[.int .u8 tag, .slice A n c, .slice K m d] 33)) ∧ Row (w.alloc (.cells #[.int .u8 tag, .slice A n c, .slice K m d] 33)) w.heap.size 33 #[.int .u8 tag, .slice A n c, .slice K m d]) := ⟨past_alloc8 _ _, Row.new _ _ _⟩
    have HW := Lib.hid hw
    have HD : Hid (wgt (T.node tag bytes kids) = wgtL kids n) := by rw [← hbl]; rfl
    clear hn ih hc hl hk hb ht hw hwt hbl
    go_enter Tryd.func33, Tryd.ntmps33
    go_wp2_with fail
    generalize w.alloc (.cells #[.int .u8 tag, .slice A n c, .slice K m d] 33) = w1 at *
    generalize hg : w.heap.size = g at *
    go_loopg [3, 4] m (fun k s3 s4 wx => ∃ i : Nat, i ≤ m ∧ k = m - i ∧ s3 = .int .i64 (wgtL (kids.take i) n : Int) ∧ s4 = .int .i64 (i : Int) ∧ Hid (Past w wx ∧ Row wx g 33 #[.int .u8 tag, .slice A n c, .slice K m d]))
    case atStart => exact ⟨0, Nat.zero_le _, rfl, rfl, rfl, HR⟩
    case round =>
      clear HR
      obtain ⟨i, hi, hgk, rfl, rfl, HQ⟩ := hrel
      have HGK := Lib.hid hgk
      clear hgk
      have f2 : wr.cell? ⟨g, 2, none⟩ = some (.slice K m d) := HQ.out.2.cell 2
      by_cases hlt : i < m
      · obtain ⟨b, o, rfl, hcell⟩ := HC.out (by omega)
        obtain ⟨q0, q1, q2⟩ := hcell i hlt
        have hpp := HW.out.trans' HQ.out.1
        have c0 : wr.cell? ⟨b, o + i * 3, none⟩ = some (v0 i) := by rw [Below.cell hpp (cell_lt q0)]; exact q0
        have c1 : wr.cell? ⟨b, o + i * 3 + 1, none⟩ = some (v1 i) := by rw [Below.cell hpp (cell_lt q1)]; exact q1
        have c2 : wr.cell? ⟨b, o + i * 3 + 2, none⟩ = some (v2 i) := by rw [Below.cell hpp (cell_lt q2)]; exact q2
        have hck := cnt_kid kids i (by rw [HL.out]; exact hlt)
        have hkc := HIH.out i hlt wr hpp (by have := HN.out; omega) (by have := wgt_kid kids n i (by rw [HL.out]; exact hlt); have := HWT.out; omega)
        have HS : Hid (wgtL (kids.take (i + 1)) n = wgtL (kids.take i) n + wgt (kids.getD i default)) := by
          show _ = _
          rw [take_next kids i (by rw [HL.out]; exact hlt), wgtL_snoc]
        have hb1 : wgtL (kids.take i) n + wgt (kids.getD i default) ≤ 1000000000 := by have := wgt_kid kids n i (by rw [HL.out]; exact hlt); have := HWT.out; omega
        have HK := Lib.hid hkc
        clear hcell q0 q1 q2 hpp hck hkc
        have hi0 : (0 : Int) ≤ (i : Int) := by omega
        have him : (i : Int) < (m : Int) := by omega
        generalize wgt (kids.getD i default) = dk at *
        generalize wgtL (kids.take i) n = dl at *
        go_wp2_with fail
        refine HK.out.mono ?_
        rintro e w2 ⟨rfl, hp⟩
        have HQ2 : Hid (Past w w2 ∧ Row w2 g 33 #[.int .u8 tag, .slice A n c, .slice (some ⟨b, o, none⟩) m d]) := ⟨HQ.out.1.trans' hp, HQ.out.2.past hp⟩
        clear hp HQ HK
        go_wp2_with fail
        go_roundg (m - (i + 1))
        case rel => exact ⟨i + 1, by omega, rfl, by rw [HS.out]; congr 1, by go_num, HQ2⟩
        case measure => have := HGK.out; omega
      · obtain rfl : i = m := by omega
        have he : Hid (wgtL (kids.take i) n = wgtL kids n) := by
          show _ = _
          rw [List.take_of_length_le (by rw [HL.out]; exact Nat.le_refl _)]
        go_wp2_with fail
        go_ret
        rw [HD.out, ← he.out]
        exact ⟨rfl, HQ.out.1⟩

end Go.Proofs.YtdpnfojpeafdhaaDoor
