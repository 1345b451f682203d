/- The reference's encoding of a tree. -/
import Derived.Test.YtdpnfojpeafdhaaDoorRef8C
namespace Go.Proofs.YtdpnfojpeafdhaaDoor
open Go.RowKit

/-- The bytes of a length, and the head of a node. -/
def lenB (l : Nat) : List Int := if l < 128 then [(l : Int)] else ((128 + (numB l).length : Nat) : Int) :: numB l
def headB (tag : Int) (c : List Int) : List Int := tag :: lenB c.length ++ c
mutual
def txt : T → List Int
  | .node tag bs ks => headB tag (txtL ks bs)
def txtL : List T → List Int → List Int
  | [], a => a
  | k :: ks, a => txtL ks (a ++ txt k)
end
theorem txtL_snoc (t : T) : ∀ (ks : List T) (a : List Int), txtL (ks ++ [t]) a = txtL ks a ++ txt t
  | [], a => by simp [txtL]
  | k :: ks, a => by simp only [List.cons_append, txtL]; exact txtL_snoc t ks _
theorem txtL_app : ∀ (ks ls : List T) (a : List Int), txtL (ks ++ ls) a = txtL ls (txtL ks a)
  | [], ls, a => by simp [txtL]
  | k :: ks, ls, a => by simp only [List.cons_append, txtL]; exact txtL_app ks ls _
theorem txtL_le : ∀ (ks : List T) (a : List Int), a.length ≤ (txtL ks a).length
  | [], a => by simp [txtL]
  | k :: ks, a => by
    have := txtL_le ks (a ++ txt k)
    rw [List.length_append] at this
    simp only [txtL]
    omega
theorem txt_kid (ks : List T) (a : List Int) (i : Nat) (h : i < ks.length) : (txtL (ks.take i) a).length + (txt (ks.getD i default)).length ≤ (txtL ks a).length := by
  rw [← List.length_append, ← txtL_snoc, ← take_next ks i h]
  have := txtL_app (ks.take (i + 1)) (ks.drop (i + 1)) a
  rw [List.take_append_drop] at this
  rw [this]
  exact txtL_le _ _
theorem headB_le (tag : Int) (c : List Int) : c.length ≤ (headB tag c).length := by
  unfold headB
  simp only [List.length_append, List.length_cons]
  omega
theorem numB_le (k n : Nat) (h : n < 256 ^ k) : (numB n).length ≤ k := by
  induction k generalizing n with
  | zero =>
    obtain rfl : n = 0 := by simpa using h
    rw [numB_zero]
    exact Nat.le_refl _
  | succ k ih =>
    by_cases h0 : n = 0
    · rw [h0, numB_zero]
      exact Nat.zero_le _
    · rw [numB_pos h0, List.length_append]
      have e : 256 ^ (k + 1) = 256 * 256 ^ k := by rw [Nat.pow_succ, Nat.mul_comm]
      have := ih (n / 256) (by omega)
      simp only [List.length_cons, List.length_nil]
      omega
theorem own_past {w w' : World} {base : Nat} {e : TypeId} {size : Nat} {v : Value} {n : Nat} {xs : List Value} (h : w.ownsRow base e size v n xs) (hp : Past w w') : w'.ownsRow base e size v n xs :=
  h.kept (only_of_past hp none) (by cases v.ownBlock <;> simp)
/-- Bytes of the call's own, with more bytes behind them. -/
theorem past_push {w wr w2 : World} {v : Value} {base n : Nat} {e : TypeId} {xs : List Value} (hp : Past w wr) (hb : w.heap.size ≤ base) (ho : wr.ownsRow base e 1 v n xs) (hg : wr.grownBy w2 v.ownBlock) : Past w w2 :=
  hp.grown hg hp.size (fun g hg => Nat.le_trans hb (own_block_ge ho g hg))

set_option maxHeartbeats 2000000 in
set_option maxRecDepth 100000 in
theorem rtext_any {w0 : World} {v : Value} {t : T} (h : InM w0 v t) : ∀ w, Past w0 w → cnt t ≤ 1000000000 → (txt t).length ≤ 10000000 →
    Calls Tryd.prog 20 #[v] w fun e w' => ∃ A c, e = .returned (.slice A (txt t).length c) ∧ Sl w' A (txt t).length c (txt t) ∧ Past w w' := by
  induction h with
  | mk v0 v1 v2 ht hb hl hm hd h0 hc hk ih =>
    rename_i tag A n c bytes K m d kids
    intro w hw hn htx
    have hmb : m ≤ 1000000000 := by
      have := len_cntL kids 1
      have : cntL kids 1 ≤ 1000000000 := hn
      omega
    have HN : Hid (cntL kids 1 ≤ 1000000000) := hn
    have hcl : (txtL kids bytes).length ≤ 10000000 := Nat.le_trans (headB_le tag _) htx
    have HCL : Hid ((txtL kids bytes).length ≤ 10000000) := hcl
    have hbl := hb.len
    have hn7 : n ≤ 10000000 := by have := txtL_le kids bytes; omega
    have HIH := Lib.hid ih
    have HC := Lib.hid hc
    have HL := Lib.hid hl
    have HW := Lib.hid hw
    have HD : Hid (txt (T.node tag bytes kids) = headB tag (txtL kids bytes)) := rfl
    have HTG := Lib.hid ht
    obtain ⟨w1, hw1⟩ : ∃ w1, w1 = w.alloc (.cells #[.int .u8 tag, .slice A n c, .slice K m d] 33) := ⟨_, rfl⟩
    have HR : Hid (Past w w1 ∧ Row w1 w.heap.size 33 #[.int .u8 tag, .slice A n c, .slice K m d] ∧ w.heap.size < w1.heap.size) := by
      rw [hw1]
      exact ⟨past_alloc8 _ _, Row.new _ _ _, by simp⟩
    have HB := Lib.hid (hb.past (hw.trans' HR.out.1))
    have f1 : w1.cell? ⟨w.heap.size, 1, none⟩ = some (.slice A n c) := HR.out.2.1.cell 1
    subst hw1
    clear hn ih hc hl hk hb ht hw hcl htx hbl
    go_enter Tryd.func20, Tryd.ntmps20
    go_wp2_with (at_builtin; refine wpList_append_sl rfl _ _ 22 5 rfl Tryd.underlying22 info8 (w.heap.size + 1) _ 0 [] rfl (own_empty _ _ (by simp) (Nat.le_refl _)) A n c bytes rfl (HB.out.past (past_alloc8 _ _)) (by omega) (by simp) ?_; intro v' w2 hown hgrow)
    have H2 : Hid (w2.ownsRow (w.heap.size + 1) 5 1 v' bytes.length (bytes.map (Value.int .u8)) ∧ Past w w2 ∧ Row w2 w.heap.size 33 #[.int .u8 tag, .slice A n c, .slice K m d]) := by
      have hp := past_push (past_alloc8 (w.alloc (.cells #[.int .u8 tag, .slice A n c, .slice K m d] 33)) (.cells #[] 5)) (by simp) (own_empty _ _ (by simp) (Nat.le_refl _)) hgrow
      have hl := HB.out.len
      rw [Nat.zero_add] at hown
      rw [hl]
      exact ⟨hown, HR.out.1.trans' hp, HR.out.2.1.past hp⟩
    have HBR := Lib.hid HB.out.rng
    have hgB := HR.out.2.2
    clear hown hgrow HR HB f1
    clear hgB
    generalize hg : w.heap.size = g at *
    go_wp2_with fail
    go_loopg [3, 4] m (fun k s3 s4 wx => ∃ i : Nat, i ≤ m ∧ k = m - i ∧ s4 = .int .i64 (i : Int) ∧ Hid (wx.ownsRow (g + 1) 5 1 s3 (txtL (kids.take i) bytes).length ((txtL (kids.take i) bytes).map (Value.int .u8)) ∧ Past w wx ∧ Row wx g 33 #[.int .u8 tag, .slice A n c, .slice K m d]) ∧ Hid (∀ x ∈ txtL (kids.take i) bytes, 0 ≤ x ∧ x < 256))
    case atStart => exact ⟨0, Nat.zero_le _, rfl, rfl, H2, HBR⟩
    case round =>
      clear H2
      obtain ⟨i, hi, hgk, rfl, HQ, HRG⟩ := hrel
      have HGK := Lib.hid hgk
      clear hgk
      have f2 : wr.cell? ⟨g, 2, none⟩ = some (.slice K m d) := HQ.out.2.2.cell 2
      by_cases hlt : i < m
      · obtain ⟨b, o, rfl, hcell⟩ := HC.out (by omega)
        obtain ⟨q0, q1, q2⟩ := hcell i hlt
        have hpp := HW.out.trans' HQ.out.2.1
        have c0 : wr.cell? ⟨b, o + i * 3, none⟩ = some (v0 i) := by rw [Below.cell hpp (cell_lt q0)]; exact q0
        have c1 : wr.cell? ⟨b, o + i * 3 + 1, none⟩ = some (v1 i) := by rw [Below.cell hpp (cell_lt q1)]; exact q1
        have c2 : wr.cell? ⟨b, o + i * 3 + 2, none⟩ = some (v2 i) := by rw [Below.cell hpp (cell_lt q2)]; exact q2
        have hck := cnt_kid kids i (by rw [HL.out]; exact hlt)
        have htk := txt_kid kids bytes i (by rw [HL.out]; exact hlt)
        have hkc := HIH.out i hlt wr hpp (by have := HN.out; omega) (by have := HCL.out; omega)
        have HS : Hid (txtL (kids.take (i + 1)) bytes = txtL (kids.take i) bytes ++ txt (kids.getD i default)) := by
          show _ = _
          rw [take_next kids i (by rw [HL.out]; exact hlt), txtL_snoc]
        have hsum : (txtL (kids.take i) bytes).length + (txt (kids.getD i default)).length ≤ 140737488355328 := by have := HCL.out; omega
        have HK := Lib.hid hkc
        clear hcell q0 q1 q2 hpp hck hkc htk
        have hi0 : (0 : Int) ≤ (i : Int) := by omega
        have him : (i : Int) < (m : Int) := by omega
        generalize txt (kids.getD i default) = ys at *
        generalize txtL (kids.take i) bytes = xs at *
        go_wp2_with fail
        refine HK.out.mono ?_
        rintro e w3 ⟨A3, c3, rfl, hsl, hp⟩
        have HQ3 : Hid (w3.ownsRow (g + 1) 5 1 u3 xs.length (xs.map (Value.int .u8)) ∧ Past w w3 ∧ Row w3 g 33 #[.int .u8 tag, .slice A n c, .slice (some ⟨b, o, none⟩) m d]) := ⟨own_past HQ.out.1 hp, HQ.out.2.1.trans' hp, HQ.out.2.2.past hp⟩
        have HSL := Lib.hid hsl
        have hbase : g + 1 ≤ w3.heap.size := HQ3.out.2.2.lt
        clear hp HQ HK hsl
        go_wp2_with (at_builtin; refine wpList_append_sl rfl _ _ 22 5 rfl Tryd.underlying22 info8 (g + 1) _ xs.length xs rfl HQ3.out.1 A3 ys.length c3 ys rfl HSL.out hsum hbase ?_; intro v5 w4 hown hgrow)
        have HQ4 : Hid (w4.ownsRow (g + 1) 5 1 v5 (xs ++ ys).length ((xs ++ ys).map (Value.int .u8)) ∧ Past w w4 ∧ Row w4 g 33 #[.int .u8 tag, .slice A n c, .slice (some ⟨b, o, none⟩) m d]) := by
          refine ⟨by rw [List.length_append]; exact hown, past_push HQ3.out.2.1 (by omega) HQ3.out.1 hgrow, ?_⟩
          refine Row.grown HQ3.out.2.2 hgrow (fun e => ?_)
          have := own_block_ge HQ3.out.1 g e.symm
          omega
        have HRG4 : Hid (∀ x ∈ xs ++ ys, 0 ≤ x ∧ x < 256) := fun x hx => by
          rcases List.mem_append.1 hx with hx | hx
          · exact HRG.out x hx
          · exact HSL.out.rng x hx
        clear hown hgrow HQ3 HSL HRG
        go_wp2_with fail
        go_roundg (m - (i + 1))
        case rel => exact ⟨i + 1, by omega, rfl, by go_num, by rw [HS.out]; exact HQ4, by rw [HS.out]; exact HRG4⟩
        case measure => have := HGK.out; omega
      · obtain rfl : i = m := by omega
        have he : txtL (kids.take i) bytes = txtL kids bytes := by rw [List.take_of_length_le (by rw [HL.out]; exact Nat.le_refl _)]
        rw [he] at HQ HRG
        clear he
        generalize txtL kids bytes = xs at *
        have f0 : wr.cell? ⟨g, 0, none⟩ = some (.int .u8 tag) := HQ.out.2.2.cell 0
        obtain ⟨A3, c3, rfl⟩ := own_slice HQ.out.1
        have HSL := Lib.hid (Sl.of_own HQ.out.1 HRG.out)
        have HP := Lib.hid HQ.out.2.1
        have hxl := HCL.out
        clear HQ HRG HIH HC
        by_cases h128 : xs.length < 128
        · have h128i : (xs.length : Int) < 128 := by omega
          have hH : Hid (headB tag xs = ([tag] ++ [(xs.length : Int)]) ++ xs) := by
            show _ = _
            unfold headB lenB
            rw [if_pos h128]
            rfl
          have hrT : ∀ x ∈ [(xs.length : Int)], 0 ≤ x ∧ x < 256 := by simp; omega
          have hgs : w.heap.size ≤ wr.heap.size := HP.out.size
          go_wp2_with (at_builtin; first
            | (refine wpList_append_sl rfl _ _ 22 5 rfl Tryd.underlying22 info8 wr.heap.size _ 1 [tag] rfl ((own_one wr 5 tag rfl (Nat.le_refl _)).alloc _) _ 1 1 [(xs.length : Int)] rfl (Sl.of_own (own_one _ 5 (xs.length : Int) (by simp) (Nat.le_refl _)) hrT) (by omega) (by simp only [World.size_alloc]; omega) ?_; intro v5 w3 hown hgrow; have hp3 := past_push ((past_alloc8 wr (.cells #[.int .u8 tag] 5)).trans' (past_alloc8 _ (.cells #[.int .u8 (xs.length : Int)] 5))) (Nat.le_refl _) ((own_one wr 5 tag rfl (Nat.le_refl _)).alloc _) hgrow; clear hgrow)
            | (refine wpList_append_sl rfl _ _ 22 5 rfl Tryd.underlying22 info8 wr.heap.size _ (1 + 1) ([tag] ++ [(xs.length : Int)]) rfl hown A3 xs.length c3 xs rfl (HSL.out.past hp3) (by omega) hp3.size ?_; intro v6 w4 hown2 hgrow2; have hp4 := past_push hp3 (Nat.le_refl _) hown hgrow2; clear hgrow2))
          go_ret
          obtain ⟨A7, c7, rfl⟩ := own_slice hown2
          have hlen : (headB tag xs).length = 1 + 1 + xs.length := by rw [hH.out]; simp; omega
          rw [HD.out, hlen, hH.out]
          refine ⟨A7, c7, rfl, Sl.of_own hown2 ?_, HP.out.trans' hp4⟩
          intro u hu
          rcases List.mem_append.1 hu with hu | hu
          · rcases List.mem_append.1 hu with hu | hu
            · obtain rfl : u = tag := by simpa using hu
              exact HTG.out
            · exact hrT u hu
          · exact HSL.out.rng u hu
        · have h128i : ¬ (xs.length : Int) < 128 := by omega
          have hH : Hid (headB tag xs = (([tag] ++ [128 + ((numB xs.length).length : Int)]) ++ numB xs.length) ++ xs) := by
            show _ = _
            unfold headB lenB
            rw [if_neg h128]
            simp
          have HNB := Lib.hid (fun w => rnumber_any xs.length (by omega) w)
          have hnl := numB_le 4 xs.length (by omega)
          have hnr := numB_rng xs.length
          have hgs : w.heap.size ≤ wr.heap.size := HP.out.size
          generalize numB xs.length = ns at *
          have hrT : ∀ x ∈ [128 + (ns.length : Int)], 0 ≤ x ∧ x < 256 := by simp; omega
          have HNR := Lib.hid hnr
          clear hnr
          go_wp2_with fail
          refine (HNB.out _).mono ?_
          rintro e w5 ⟨A6, c6, rfl, hown6, hp5⟩
          have hsz : (wr.alloc (.cells #[.int .u8 tag] 5)).heap.size = wr.heap.size + 1 := World.size_alloc _ _
          rw [hsz] at hown6
          have hb6 := own_block_ge hown6
          have hne : (Value.slice A6 ns.length c6).ownBlock = none ∨ (Value.slice A6 ns.length c6).ownBlock ≠ some wr.heap.size := by
            cases hq : (Value.slice A6 ns.length c6).ownBlock with
            | none => exact .inl rfl
            | some q =>
              have := hb6 q hq
              refine .inr fun e => ?_
              injection e with e
              omega
          have hown0 := own_past (own_one wr 5 tag rfl (Nat.le_refl _)) hp5
          have hpw5 := (past_alloc8 wr (.cells #[.int .u8 tag] 5)).trans' hp5
          have hs5 : wr.heap.size ≤ w5.heap.size := hpw5.size
          have H5 := Lib.hid (And.intro hown0 (And.intro hpw5 (And.intro hown6 hne)))
          clear hown0 hpw5 hp5 hown6 hne hb6 hsz HNB
          go_wp2_with (at_builtin; first
            | (refine wpList_append_sl rfl _ _ 22 5 rfl Tryd.underlying22 info8 wr.heap.size (.slice (some ⟨wr.heap.size, 0, none⟩) 1 1) 1 [tag] rfl (H5.out.1.alloc _) _ 1 1 [128 + (ns.length : Int)] rfl (Sl.of_own (own_one _ 5 (128 + (ns.length : Int)) rfl (Nat.le_refl _)) hrT) (by omega) (by simp only [World.size_alloc]; omega) ?_; intro v5 w6 hown hgrow; have hp6 := past_push (H5.out.2.1.trans' (past_alloc8 w5 (.cells #[.int .u8 (128 + (ns.length : Int))] 5))) (Nat.le_refl _) (H5.out.1.alloc _) hgrow; have hns6 := (H5.out.2.2.1.alloc (.cells #[.int .u8 (128 + (ns.length : Int))] 5)).kept hgrow H5.out.2.2.2; have H6 := Lib.hid (And.intro hown (And.intro hp6 hns6)); clear hown hgrow hp6 hns6)
            | (refine wpList_append_sl rfl _ _ 22 5 rfl Tryd.underlying22 info8 wr.heap.size _ (1 + 1) ([tag] ++ [128 + (ns.length : Int)]) rfl H6.out.1 A6 ns.length c6 ns rfl (Sl.of_own H6.out.2.2 HNR.out) (by omega) H6.out.2.1.size ?_; intro v6 w7 hown hgrow; have H7 := Lib.hid (And.intro hown (past_push H6.out.2.1 (Nat.le_refl _) H6.out.1 hgrow)); clear hown hgrow)
            | (refine wpList_append_sl rfl _ _ 22 5 rfl Tryd.underlying22 info8 wr.heap.size _ (1 + 1 + ns.length) (([tag] ++ [128 + (ns.length : Int)]) ++ ns) rfl H7.out.1 A3 xs.length c3 xs rfl (HSL.out.past H7.out.2) (by omega) H7.out.2.size ?_; intro v7 w8 hown hgrow; have H8 := Lib.hid (And.intro hown (past_push H7.out.2 (Nat.le_refl _) H7.out.1 hgrow)); clear hown hgrow))
          go_ret
          have hown8 := H8.out.1
          obtain ⟨A9, c9, rfl⟩ := own_slice hown8
          have hlen : (headB tag xs).length = 1 + 1 + ns.length + xs.length := by rw [hH.out]; simp; omega
          rw [HD.out, hlen, hH.out]
          refine ⟨A9, c9, rfl, Sl.of_own hown8 ?_, HP.out.trans' H8.out.2⟩
          intro u hu
          rcases List.mem_append.1 hu with hu | hu
          · rcases List.mem_append.1 hu with hu | hu
            · rcases List.mem_append.1 hu with hu | hu
              · obtain rfl : u = tag := by simpa using hu
                exact HTG.out
              · exact hrT u hu
            · exact HNR.out u hu
          · exact HSL.out.rng u hu

end Go.Proofs.YtdpnfojpeafdhaaDoor
