/- The program's tests of a tag, and of what a node may have. The program's Depth and Count of a tree. -/
import Derived.Test.YtdpnfojpeafdhaaDoorRef8D
namespace Go.Proofs.YtdpnfojpeafdhaaDoor
open Go.RowKit
set_option linter.unusedVariables false

theorem InM.shape {w : World} {x y z : Value} {t : T} (h : InM w (.agg #[x, y, z]) t) : ∃ tag A n c K m d, x = .int .u8 tag ∧ y = .slice A n c ∧ z = .slice K m d := by
  cases h with
  | mk v0 v1 v2 ht hb hl hm hd h0 hc hk => exact ⟨_, _, _, _, _, _, _, rfl, rfl, rfl⟩
theorem and31 (t : Int) (h0 : 0 ≤ t) (h1 : t < 256) : bits .and .u8 t 31 = t % 32 := by
  have h : ∀ x : Fin 256, bits .and .u8 ((x.val : Nat) : Int) 31 = ((x.val : Nat) : Int) % 32 := by decide +kernel
  have := h ⟨t.toNat, by omega⟩
  simpa [Int.toNat_of_nonneg h0] using this
theorem and32 (t : Int) (h0 : 0 ≤ t) (h1 : t < 256) : (bits .and .u8 t 32 != 0) = !simB t := by
  have h : ∀ x : Fin 256, (bits .and .u8 ((x.val : Nat) : Int) 32 != 0) = !simB ((x.val : Nat) : Int) := by decide +kernel
  have := h ⟨t.toNat, by omega⟩
  simpa [Int.toNat_of_nonneg h0] using this
theorem tagB_eq (t : Int) (h0 : 0 ≤ t) (h1 : t < 256) : tagB t = ((t != 0) && (t % 32 != 31)) := by
  have h : ∀ x : Fin 256, tagB ((x.val : Nat) : Int) = ((((x.val : Nat) : Int) != 0) && (((x.val : Nat) : Int) % 32 != 31)) := by decide +kernel
  have := h ⟨t.toNat, by omega⟩
  simpa [Int.toNat_of_nonneg h0] using this

theorem isTag_any (t : Int) (w : World) (h0 : 0 ≤ t) (h1 : t < 256) : Calls Tryd.prog 40 #[.int .u8 t] w fun e w' => e = .returned (.bool (tagB t)) ∧ w = w' := by
  have h31 := and31 t h0 h1
  have HT := Lib.hid (tagB_eq t h0 h1)
  cases c1 : (t != 0) with
  | true =>
    have HR : Hid (tagB t = (t % 32 != 31)) := by
      show _ = _
      rw [HT.out, c1, Bool.true_and]
    go_enter Tryd.func40, Tryd.ntmps40
    go_wp2_with fail
    go_ret
    rw [HR.out]
    exact ⟨rfl, rfl⟩
  | false =>
    have HR : Hid (tagB t = false) := by
      show _ = _
      rw [HT.out, c1, Bool.false_and]
    go_enter Tryd.func40, Tryd.ntmps40
    go_wp2_with fail
    go_ret
    rw [HR.out]
    exact ⟨rfl, rfl⟩

theorem isComposed_any (t : Int) (w : World) (h0 : 0 ≤ t) (h1 : t < 256) : Calls Tryd.prog 42 #[.int .u8 t] w fun e w' => e = .returned (.bool (!simB t)) ∧ w = w' := by
  have h32 := and32 t h0 h1
  go_enter Tryd.func42, Tryd.ntmps42
  go_wp2_with fail
  go_ret
  exact ⟨rfl, rfl⟩

/-- Whether a node has what its tag permits. -/
def hasB (tag : Int) (n m : Nat) : Bool := if simB tag then m == 0 else n == 0
theorem hasIts_any (tag : Int) (A K : Option Addr) (n c m d : Nat) (w : World) (h0 : 0 ≤ tag) (h1 : tag < 256) :
    Calls Tryd.prog 52 #[.agg #[.int .u8 tag, .slice A n c, .slice K m d]] w fun e w' => e = .returned (.bool (hasB tag n m)) ∧ Past w w' := by
  have HC := Lib.hid (fun w => isComposed_any tag w h0 h1)
  have HR : Hid (Past w (w.alloc (.cells #[.int .u8 tag, .slice A n c, .slice K m d] 26)) ∧ Row (w.alloc (.cells #[.int .u8 tag, .slice A n c, .slice K m d] 26)) w.heap.size 26 #[.int .u8 tag, .slice A n c, .slice K m d]) := ⟨past_alloc8 _ _, Row.new _ _ _⟩
  have en : ((n : Int) == 0) = (n == 0) := by rw [Bool.eq_iff_iff]; simp
  have em : ((m : Int) == 0) = (m == 0) := by rw [Bool.eq_iff_iff]; simp
  cases hs : simB tag with
  | true =>
    have HH : Hid (hasB tag n m = (m == 0)) := by show _ = _; unfold hasB; rw [if_pos hs]
    rw [hs] at HC
    go_enter Tryd.func52, Tryd.ntmps52
    go_wp2_with fail
    generalize w.alloc (.cells #[.int .u8 tag, .slice A n c, .slice K m d] 26) = w1 at *
    have f1 : w1.cell? ⟨w.heap.size, 1, none⟩ = some (.slice A n c) := HR.out.2.cell 1
    have f2 : w1.cell? ⟨w.heap.size, 2, none⟩ = some (.slice K m d) := HR.out.2.cell 2
    refine (HC.out _).mono ?_
    rintro e w2 ⟨rfl, rfl⟩
    go_wp2_with fail
    go_ret
    rw [HH.out]
    exact ⟨rfl, HR.out.1⟩
  | false =>
    have HH : Hid (hasB tag n m = (n == 0)) := by show _ = _; unfold hasB; rw [if_neg (by rw [hs]; decide)]
    rw [hs] at HC
    go_enter Tryd.func52, Tryd.ntmps52
    go_wp2_with fail
    generalize w.alloc (.cells #[.int .u8 tag, .slice A n c, .slice K m d] 26) = w1 at *
    have f1 : w1.cell? ⟨w.heap.size, 1, none⟩ = some (.slice A n c) := HR.out.2.cell 1
    have f2 : w1.cell? ⟨w.heap.size, 2, none⟩ = some (.slice K m d) := HR.out.2.cell 2
    refine (HC.out _).mono ?_
    rintro e w2 ⟨rfl, rfl⟩
    go_wp2_with fail
    go_ret
    rw [HH.out]
    exact ⟨rfl, HR.out.1⟩

end Go.Proofs.YtdpnfojpeafdhaaDoor

namespace Go.Proofs.YtdpnfojpeafdhaaDoor
open Go.RowKit

theorem depL_one : ∀ (ks : List T) (a : Nat), a ≤ depL ks a
  | [], a => by simp [depL]
  | k :: ks, a => by
    have := depL_one ks (max a (1 + dep k))
    simp only [depL]
    omega

set_option maxHeartbeats 1000000 in
theorem depth_any {w0 : World} {v : Value} {t : T} (h : InM w0 v t) : ∀ w, Past w0 w → cnt t ≤ 1000000000 →
    Calls Tryd.prog 21 #[v] w fun e w' => e = .returned (.int .i64 (dep t : Int)) ∧ Past w w' := by
  induction h with
  | mk v0 v1 v2 ht hb hl hm hd h0 hc hk ih =>
    rename_i tag A n c bytes K m d kids
    intro w hw hn
    have hmb : m ≤ 1000000000 := by
      have := len_cntL kids 1
      have : cntL kids 1 ≤ 1000000000 := hn
      omega
    have HN : Hid (cntL kids 1 ≤ 1000000000) := hn
    have HIH := Lib.hid ih
    have HKS := Lib.hid (fun i hi => (hk i hi).shape)
    have HC := Lib.hid hc
    have HL := Lib.hid hl
    have HR : Hid (Past w (w.alloc (.cells #[.int .u8 tag, .slice A n c, .slice K m d] 26)) ∧ Row (w.alloc (.cells #[.int .u8 tag, .slice A n c, .slice K m d] 26)) w.heap.size 26 #[.int .u8 tag, .slice A n c, .slice K m d]) := ⟨past_alloc8 _ _, Row.new _ _ _⟩
    have HW := Lib.hid hw
    have HD : Hid (dep (T.node tag bytes kids) = depL kids 1) := rfl
    clear hn ih hc hl hk hb ht hw
    go_enter Tryd.func21, Tryd.ntmps21
    go_wp2_with fail
    generalize w.alloc (.cells #[.int .u8 tag, .slice A n c, .slice K m d] 26) = w1 at *
    generalize hg : w.heap.size = g at *
    go_loopg [3, 5, 9] m (fun k s3 _ s4 wx => ∃ i : Nat, i ≤ m ∧ k = m - i ∧ s3 = .int .i64 ((depL (kids.take i) 1 - 1 : Nat) : Int) ∧ s4 = .int .i64 (i : Int) ∧ Hid (Past w wx ∧ Row wx g 26 #[.int .u8 tag, .slice A n c, .slice K m d]))
    case atStart => exact ⟨0, Nat.zero_le _, rfl, rfl, rfl, HR⟩
    case round =>
      clear HR
      obtain ⟨i, hi, hgk, rfl, rfl, HQ⟩ := hrel
      have HGK := Lib.hid hgk
      clear hgk
      have f2 : wr.cell? ⟨g, 2, none⟩ = some (.slice K m d) := HQ.out.2.cell 2
      by_cases hlt : i < m
      · obtain ⟨b, o, rfl, hcell⟩ := HC.out (by omega)
        obtain ⟨q0, q1, q2⟩ := hcell i hlt
        have hpp := HW.out.trans' HQ.out.1
        have c0 : wr.cell? ⟨b, o + i * 3, none⟩ = some (v0 i) := by rw [Below.cell hpp (cell_lt q0)]; exact q0
        have c1 : wr.cell? ⟨b, o + i * 3 + 1, none⟩ = some (v1 i) := by rw [Below.cell hpp (cell_lt q1)]; exact q1
        have c2 : wr.cell? ⟨b, o + i * 3 + 2, none⟩ = some (v2 i) := by rw [Below.cell hpp (cell_lt q2)]; exact q2
        have hck := cnt_kid kids i (by rw [HL.out]; exact hlt)
        have hkc := fun wz (hz : Past wr wz) => HIH.out i hlt wz (hpp.trans' hz) (by have := HN.out; omega)
        have hdk := dep_le (kids.getD i default)
        have hdl := depL_le (kids.take i) 1 1 (Nat.le_refl _) (Nat.le_refl _)
        have HS : Hid (depL (kids.take (i + 1)) 1 - 1 = max (depL (kids.take i) 1 - 1) (dep (kids.getD i default))) := by
          show _ = _
          rw [take_next kids i (by rw [HL.out]; exact hlt), depL_snoc]
          omega
        have hb1 : dep (kids.getD i default) ≤ 1000000000 := by have := HN.out; omega
        have hb2 : depL (kids.take i) 1 - 1 ≤ 1000000000 := by have := HN.out; omega
        obtain ⟨tg, kA, kn, kc, kK, km, kd, e0, e1, e2⟩ := HKS.out i hlt
        rw [e0, e1, e2] at hkc
        rw [e0] at c0
        rw [e1] at c1
        rw [e2] at c2
        clear e0 e1 e2
        have HK := Lib.hid hkc
        clear hcell q0 q1 q2 hpp hck hkc hdk hdl
        have hi0 : (0 : Int) ≤ (i : Int) := by omega
        have him : (i : Int) < (m : Int) := by omega
        generalize dep (kids.getD i default) = dk at *
        generalize depL (kids.take i) 1 - 1 = dl at *
        go_wp2_with fail
        refine (HK.out _ (past_alloc8 wr _)).mono ?_
        rintro e w2 ⟨rfl, hp'⟩
        have hp := (past_alloc8 wr _).trans' hp'
        clear hp'
        have HQ2 : Hid (Past w w2 ∧ Row w2 g 26 #[.int .u8 tag, .slice A n c, .slice (some ⟨b, o, none⟩) m d]) := ⟨HQ.out.1.trans' hp, HQ.out.2.past hp⟩
        clear hp HQ HK
        go_wp2_with fail
        all_goals
          go_roundg (m - (i + 1))
          case rel => exact ⟨i + 1, by omega, rfl, by rw [HS.out]; congr 1; omega, by go_num, HQ2⟩
          case measure => have := HGK.out; omega
      · obtain rfl : i = m := by omega
        have he : Hid (depL (kids.take i) 1 = depL kids 1) := by
          show _ = _
          rw [List.take_of_length_le (by rw [HL.out]; exact Nat.le_refl _)]
        have hd1 := depL_one (kids.take i) 1
        have hdb : depL (kids.take i) 1 ≤ 1000000001 := by
          have := depL_le (kids.take i) 1 1 (Nat.le_refl _) (Nat.le_refl _)
          rw [List.take_of_length_le (by rw [HL.out]; exact Nat.le_refl _)] at this ⊢
          have := HN.out
          omega
        obtain ⟨dl, hdl⟩ : ∃ dl, depL (kids.take i) 1 = dl + 1 := ⟨depL (kids.take i) 1 - 1, by omega⟩
        rw [hdl] at he hd1 hdb ⊢
        rw [Nat.add_sub_cancel]
        clear hdl
        go_wp2_with fail
        go_ret
        rw [HD.out, ← he.out]
        exact ⟨by rw [show ((dl + 1 : Nat) : Int) = 1 + (dl : Int) by omega]; rfl, HQ.out.1⟩

set_option maxHeartbeats 1000000 in
theorem count_any {w0 : World} {v : Value} {t : T} (h : InM w0 v t) : ∀ w, Past w0 w → cnt t ≤ 1000000000 →
    Calls Tryd.prog 22 #[v] w fun e w' => e = .returned (.int .i64 (cnt t : Int)) ∧ Past w w' := by
  induction h with
  | mk v0 v1 v2 ht hb hl hm hd h0 hc hk ih =>
    rename_i tag A n c bytes K m d kids
    intro w hw hn
    have hmb : m ≤ 1000000000 := by
      have := len_cntL kids 1
      have : cntL kids 1 ≤ 1000000000 := hn
      omega
    have HN : Hid (cntL kids 1 ≤ 1000000000) := hn
    have HIH := Lib.hid ih
    have HKS := Lib.hid (fun i hi => (hk i hi).shape)
    have HC := Lib.hid hc
    have HL := Lib.hid hl
    have HR : Hid (Past w (w.alloc (.cells #[.int .u8 tag, .slice A n c, .slice K m d] 26)) ∧ Row (w.alloc (.cells #[.int .u8 tag, .slice A n c, .slice K m d] 26)) w.heap.size 26 #[.int .u8 tag, .slice A n c, .slice K m d]) := ⟨past_alloc8 _ _, Row.new _ _ _⟩
    have HW := Lib.hid hw
    have HD : Hid (cnt (T.node tag bytes kids) = cntL kids 1) := rfl
    clear hn ih hc hl hk hb ht hw
    go_enter Tryd.func22, Tryd.ntmps22
    go_wp2_with fail
    generalize w.alloc (.cells #[.int .u8 tag, .slice A n c, .slice K m d] 26) = w1 at *
    generalize hg : w.heap.size = g at *
    go_loopg [3, 5, 9] m (fun k s3 _ s4 wx => ∃ i : Nat, i ≤ m ∧ k = m - i ∧ s3 = .int .i64 (cntL (kids.take i) 1 : Int) ∧ s4 = .int .i64 (i : Int) ∧ Hid (Past w wx ∧ Row wx g 26 #[.int .u8 tag, .slice A n c, .slice K m d]))
    case atStart => exact ⟨0, Nat.zero_le _, rfl, rfl, rfl, HR⟩
    case round =>
      clear HR
      obtain ⟨i, hi, hgk, rfl, rfl, HQ⟩ := hrel
      have HGK := Lib.hid hgk
      clear hgk
      have f2 : wr.cell? ⟨g, 2, none⟩ = some (.slice K m d) := HQ.out.2.cell 2
      by_cases hlt : i < m
      · obtain ⟨b, o, rfl, hcell⟩ := HC.out (by omega)
        obtain ⟨q0, q1, q2⟩ := hcell i hlt
        have hpp := HW.out.trans' HQ.out.1
        have c0 : wr.cell? ⟨b, o + i * 3, none⟩ = some (v0 i) := by rw [Below.cell hpp (cell_lt q0)]; exact q0
        have c1 : wr.cell? ⟨b, o + i * 3 + 1, none⟩ = some (v1 i) := by rw [Below.cell hpp (cell_lt q1)]; exact q1
        have c2 : wr.cell? ⟨b, o + i * 3 + 2, none⟩ = some (v2 i) := by rw [Below.cell hpp (cell_lt q2)]; exact q2
        have hck := cnt_kid kids i (by rw [HL.out]; exact hlt)
        have hkc := fun wz (hz : Past wr wz) => HIH.out i hlt wz (hpp.trans' hz) (by have := HN.out; omega)
        have HS : Hid (cntL (kids.take (i + 1)) 1 = cntL (kids.take i) 1 + cnt (kids.getD i default)) := by
          show _ = _
          rw [take_next kids i (by rw [HL.out]; exact hlt), cntL_snoc]
        have hb1 : cntL (kids.take i) 1 + cnt (kids.getD i default) ≤ 1000000000 := by have := HN.out; omega
        obtain ⟨tg, kA, kn, kc, kK, km, kd, e0, e1, e2⟩ := HKS.out i hlt
        rw [e0, e1, e2] at hkc
        rw [e0] at c0
        rw [e1] at c1
        rw [e2] at c2
        clear e0 e1 e2
        have HK := Lib.hid hkc
        clear hcell q0 q1 q2 hpp hck hkc
        have hi0 : (0 : Int) ≤ (i : Int) := by omega
        have him : (i : Int) < (m : Int) := by omega
        generalize cnt (kids.getD i default) = dk at *
        generalize cntL (kids.take i) 1 = dl at *
        go_wp2_with fail
        refine (HK.out _ (past_alloc8 wr _)).mono ?_
        rintro e w2 ⟨rfl, hp'⟩
        have hp := (past_alloc8 wr _).trans' hp'
        clear hp'
        have HQ2 : Hid (Past w w2 ∧ Row w2 g 26 #[.int .u8 tag, .slice A n c, .slice (some ⟨b, o, none⟩) m d]) := ⟨HQ.out.1.trans' hp, HQ.out.2.past hp⟩
        clear hp HQ HK
        go_wp2_with fail
        go_roundg (m - (i + 1))
        case rel => exact ⟨i + 1, by omega, rfl, by rw [HS.out]; congr 1, by go_num, HQ2⟩
        case measure => have := HGK.out; omega
      · obtain rfl : i = m := by omega
        have he : Hid (cntL (kids.take i) 1 = cntL kids 1) := by
          show _ = _
          rw [List.take_of_length_le (by rw [HL.out]; exact Nat.le_refl _)]
        go_wp2_with fail
        go_ret
        rw [HD.out, ← he.out]
        exact ⟨rfl, HQ.out.1⟩

end Go.Proofs.YtdpnfojpeafdhaaDoor
