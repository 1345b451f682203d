/- The reference's Depth and Count of a tree. -/
import Derived.Test.YtmhgpdfllpgjpaaDoorTree10
namespace Go.Proofs.YtmhgpdfllpgjpaaDoor
open Go.RowKit
set_option linter.unusedVariables false

set_option maxHeartbeats 1000000 in
theorem rdepth_any {w0 : World} {v : Value} {t : T} (h : InM w0 v t) : ∀ w, Past w0 w → cnt t ≤ 1000000000 →
    Calls Tryd.prog 27 #[v] w fun e w' => e = .returned (.int .i64 (dep t : Int)) ∧ Past w w' := by
  induction h with
  | mk v0 v1 v2 v3 ht hu hb hl hm hd h0 hc hk ih =>
    rename_i kd nm A n c bytes K m d kids
    intro w hw hn
    have hn' : cntL kids (1 + bytes.length) ≤ 1000000000 := hn
    have hmb : m ≤ 1000000000 := by
      have := len_cntL kids (1 + bytes.length)
      omega
    have HN := Lib.hid hn'
    have HIH := Lib.hid ih
    have HC := Lib.hid hc
    have HL := Lib.hid hl
    have HR : Hid (Past w (w.alloc (.cells #[.int .i64 kd, .int .u64 nm, .slice A n c, .slice K m d] 34)) ∧ Row (w.alloc (.cells #[.int .i64 kd, .int .u64 nm, .slice A n c, .slice K m d] 34)) w.heap.size 34 #[.int .i64 kd, .int .u64 nm, .slice A n c, .slice K m d]) := ⟨past_alloc8 _ _, Row.new _ _ _⟩
    have HW := Lib.hid hw
    have HD : Hid (dep (T.node kd nm bytes kids) = depL kids 1) := rfl
    clear hn hn' ih hc hl hk hb ht hu hw
    go_enter Tryd.func27, Tryd.ntmps27
    go_wp2_with fail
    generalize w.alloc (.cells #[.int .i64 kd, .int .u64 nm, .slice A n c, .slice K m d] 34) = w1 at *
    generalize hg : w.heap.size = g at *
    go_loopg [3, 4, 5] m (fun k s3 s4 _ wx => ∃ i : Nat, i ≤ m ∧ k = m - i ∧ s3 = .int .i64 (depL (kids.take i) 1 : Int) ∧ s4 = .int .i64 (i : Int) ∧ Hid (Past w wx ∧ Row wx g 34 #[.int .i64 kd, .int .u64 nm, .slice A n c, .slice K m d]))
    case atStart => exact ⟨0, Nat.zero_le _, rfl, rfl, rfl, HR⟩
    case round =>
      clear HR
      obtain ⟨i, hi, hgk, rfl, rfl, HQ⟩ := hrel
      have HGK := Lib.hid hgk
      clear hgk
      have f3 : wr.cell? ⟨g, 3, none⟩ = some (.slice K m d) := HQ.out.2.cell 3
      by_cases hlt : i < m
      · obtain ⟨b, o, rfl, hcell⟩ := HC.out (by omega)
        have hpp := HW.out.trans' HQ.out.1
        obtain ⟨c0, c1, c2, c3⟩ := kid_cells (hcell i hlt) hpp
        have hck := cnt_kid kids (1 + bytes.length) i (by rw [HL.out]; exact hlt)
        have hkc := HIH.out i hlt wr hpp (by have := HN.out; omega)
        have hdk := dep_le (kids.getD i default)
        have hdl := depL_le (kids.take i) 1 (1 + bytes.length) (by omega) (by omega)
        have HS : Hid (depL (kids.take (i + 1)) 1 = max (depL (kids.take i) 1) (1 + dep (kids.getD i default))) := by
          show _ = _
          rw [take_next kids i (by rw [HL.out]; exact hlt), depL_snoc]
        have hb1 : dep (kids.getD i default) ≤ 1000000000 := by have := HN.out; omega
        have hb2 : depL (kids.take i) 1 ≤ 1000000000 := by have := HN.out; omega
        have HK := Lib.hid hkc
        clear hcell hpp hck hkc hdk hdl
        have hi0 : (0 : Int) ≤ (i : Int) := by omega
        have him : (i : Int) < (m : Int) := by omega
        generalize dep (kids.getD i default) = dk at *
        generalize depL (kids.take i) 1 = dl at *
        go_wp2_with fail
        refine HK.out.mono ?_
        rintro e w2 ⟨rfl, hp⟩
        have HQ2 : Hid (Past w w2 ∧ Row w2 g 34 #[.int .i64 kd, .int .u64 nm, .slice A n c, .slice (some ⟨b, o, none⟩) m d]) := ⟨HQ.out.1.trans' hp, HQ.out.2.past hp⟩
        clear hp HQ HK
        by_cases hgt : dl < 1 + dk
        · have hgi : (dl : Int) < 1 + (dk : Int) := by omega
          go_wp2_with fail
          go_roundg (m - (i + 1))
          case rel => exact ⟨i + 1, by omega, rfl, by rw [HS.out, Nat.max_eq_right (by omega)]; congr 1, by go_num, HQ2⟩
          case measure => have := HGK.out; omega
        · have hgi : ¬ (dl : Int) < 1 + (dk : Int) := by omega
          go_wp2_with fail
          go_roundg (m - (i + 1))
          case rel => exact ⟨i + 1, by omega, rfl, by rw [HS.out, Nat.max_eq_left (by omega)], by go_num, HQ2⟩
          case measure => have := HGK.out; omega
      · obtain rfl : i = m := by omega
        have he : Hid (depL (kids.take i) 1 = depL kids 1) := by
          show _ = _
          rw [List.take_of_length_le (by rw [HL.out]; exact Nat.le_refl _)]
        go_wp2_with fail
        go_ret
        rw [HD.out, ← he.out]
        exact ⟨rfl, HQ.out.1⟩

set_option maxHeartbeats 1000000 in
theorem rcount_any {w0 : World} {v : Value} {t : T} (h : InM w0 v t) : ∀ w, Past w0 w → cnt t ≤ 1000000000 →
    Calls Tryd.prog 38 #[v] w fun e w' => e = .returned (.int .i64 (cnt t : Int)) ∧ Past w w' := by
  induction h with
  | mk v0 v1 v2 v3 ht hu hb hl hm hd h0 hc hk ih =>
    rename_i kd nm A n c bytes K m d kids
    intro w hw hn
    have hbl := hb.len
    have hn' : cntL kids (1 + n) ≤ 1000000000 := by rw [← hbl]; exact hn
    have hmb : m ≤ 1000000000 ∧ n ≤ 1000000000 := by
      have := len_cntL kids (1 + n)
      omega
    have HN := Lib.hid hn'
    have HIH := Lib.hid ih
    have HC := Lib.hid hc
    have HL := Lib.hid hl
    have HR : Hid (Past w (w.alloc (.cells #[.int .i64 kd, .int .u64 nm, .slice A n c, .slice K m d] 34)) ∧ Row (w.alloc (.cells #[.int .i64 kd, .int .u64 nm, .slice A n c, .slice K m d] 34)) w.heap.size 34 #[.int .i64 kd, .int .u64 nm, .slice A n c, .slice K m d]) := ⟨past_alloc8 _ _, Row.new _ _ _⟩
    have HW := Lib.hid hw
    have HD : Hid (cnt (T.node kd nm bytes kids) = cntL kids (1 + n)) := by rw [← hbl]; rfl
    clear hn hn' ih hc hl hk hb ht hu hw hbl
    go_enter Tryd.func38, Tryd.ntmps38
    go_wp2_with fail
    generalize w.alloc (.cells #[.int .i64 kd, .int .u64 nm, .slice A n c, .slice K m d] 34) = w1 at *
    generalize hg : w.heap.size = g at *
    go_loopg [3, 4] m (fun k s3 s4 wx => ∃ i : Nat, i ≤ m ∧ k = m - i ∧ s3 = .int .i64 (cntL (kids.take i) (1 + n) : Int) ∧ s4 = .int .i64 (i : Int) ∧ Hid (Past w wx ∧ Row wx g 34 #[.int .i64 kd, .int .u64 nm, .slice A n c, .slice K m d]))
    case atStart => exact ⟨0, Nat.zero_le _, rfl, by show _ = Value.int .i64 ((1 + n : Nat) : Int); congr 1, rfl, HR⟩
    case round =>
      clear HR
      obtain ⟨i, hi, hgk, rfl, rfl, HQ⟩ := hrel
      have HGK := Lib.hid hgk
      clear hgk
      have f3 : wr.cell? ⟨g, 3, none⟩ = some (.slice K m d) := HQ.out.2.cell 3
      by_cases hlt : i < m
      · obtain ⟨b, o, rfl, hcell⟩ := HC.out (by omega)
        have hpp := HW.out.trans' HQ.out.1
        obtain ⟨c0, c1, c2, c3⟩ := kid_cells (hcell i hlt) hpp
        have hck := cnt_kid kids (1 + n) i (by rw [HL.out]; exact hlt)
        have hkc := HIH.out i hlt wr hpp (by have := HN.out; omega)
        have HS : Hid (cntL (kids.take (i + 1)) (1 + n) = cntL (kids.take i) (1 + n) + cnt (kids.getD i default)) := by
          show _ = _
          rw [take_next kids i (by rw [HL.out]; exact hlt), cntL_snoc]
        have hb1 : cntL (kids.take i) (1 + n) + cnt (kids.getD i default) ≤ 1000000000 := by have := HN.out; omega
        have HK := Lib.hid hkc
        clear hcell hpp hck hkc
        have hi0 : (0 : Int) ≤ (i : Int) := by omega
        have him : (i : Int) < (m : Int) := by omega
        generalize cnt (kids.getD i default) = dk at *
        generalize cntL (kids.take i) (1 + n) = dl at *
        go_wp2_with fail
        refine HK.out.mono ?_
        rintro e w2 ⟨rfl, hp⟩
        have HQ2 : Hid (Past w w2 ∧ Row w2 g 34 #[.int .i64 kd, .int .u64 nm, .slice A n c, .slice (some ⟨b, o, none⟩) m d]) := ⟨HQ.out.1.trans' hp, HQ.out.2.past hp⟩
        clear hp HQ HK
        go_wp2_with fail
        go_roundg (m - (i + 1))
        case rel => exact ⟨i + 1, by omega, rfl, by rw [HS.out]; congr 1, by go_num, HQ2⟩
        case measure => have := HGK.out; omega
      · obtain rfl : i = m := by omega
        have he : Hid (cntL (kids.take i) (1 + n) = cntL kids (1 + n)) := by
          show _ = _
          rw [List.take_of_length_le (by rw [HL.out]; exact Nat.le_refl _)]
        go_wp2_with fail
        go_ret
        rw [HD.out, ← he.out]
        exact ⟨rfl, HQ.out.1⟩

end Go.Proofs.YtmhgpdfllpgjpaaDoor
