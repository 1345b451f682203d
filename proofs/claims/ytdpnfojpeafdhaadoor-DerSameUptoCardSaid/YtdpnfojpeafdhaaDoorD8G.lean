/- The encoding of a valid node; Valid and Encode. -/
import Derived.Test.YtdpnfojpeafdhaaDoorD8F
namespace Go.Proofs.YtdpnfojpeafdhaaDoor
open Go.RowKit
set_option linter.unusedVariables false

set_option maxHeartbeats 4000000 in
set_option maxRecDepth 100000 in
theorem encoding_any {w0 : World} {v : Value} {t : T} (h : InM w0 v t) : ∀ w, Past w0 w → cnt t ≤ 1000000000 → shp t = true → (txt t).length ≤ 10000000 →
    Calls Tryd.prog 30 #[v] w (JoinP w (txt t) (txt t).length) := by
  induction h with
  | mk v0 v1 v2 ht hb hl hm hd h0 hc hk ih =>
    rename_i tag A n c bytes K m d kids
    intro w hw hn hsh htx
    have hmb : m ≤ 1000000000 := by
      have := len_cntL kids 1
      have : cntL kids 1 ≤ 1000000000 := hn
      omega
    have htl := txt_length tag bytes kids
    have hbl := hb.len
    have hnl : n ≤ 10000000 := by have := txtL_le kids bytes; omega
    by_cases hsim : simB tag = true
    · have hk0 := leaf_of hsh hsim
      subst hk0
      exact enc_leaf w ht (hb.past hw) hnl hsim
    · have hsim : simB tag = false := by simpa using hsim
      obtain ⟨hb0, hks⟩ := comp_of hsh hsim
      subst hb0
      have hkl : (txtL kids []).length ≤ 10000000 := by omega
      have HKL := Lib.hid hkl
      have HN : Hid (cntL kids 1 ≤ 1000000000) := hn
      have HIH := Lib.hid ih
      have HSH := Lib.hid hks
      have HKS := Lib.hid (fun i hi => (hk i hi).shape)
      have HC := Lib.hid hc
      have HL := Lib.hid hl
      have HTX : Hid (txt (.node tag [] kids) = headB tag (txtL kids [])) := rfl
      have HIC := Lib.hid (fun w => isComposed_any tag w ht.1 ht.2)
      rw [hsim] at HIC
      have HTG := Lib.hid ht
      have HR : Hid (Past w (w.alloc (.cells #[.int .u8 tag, .slice A n c, .slice K m d] 26)) ∧ Row (w.alloc (.cells #[.int .u8 tag, .slice A n c, .slice K m d] 26)) w.heap.size 26 #[.int .u8 tag, .slice A n c, .slice K m d]) := ⟨past_alloc8 _ _, Row.new _ _ _⟩
      have HW := Lib.hid hw
      obtain ⟨X, hX⟩ : ∃ X : Nat → List Int, X = fun j => txt (kids.getD j default) := ⟨_, rfl⟩
      have HXX := Lib.hid hX
      have HCAT : Hid (∀ i, i ≤ m → cat X i = txtL (kids.take i) []) := Lib.hid fun i hi => by rw [hX, txtL_cat kids i (by omega)]
      obtain ⟨i0, hi0, hz0, hz1, hz2⟩ := info_parts info24
      clear hn ih hc hl hk hb ht hw htl hbl hsh htx hks hkl hX
      rw [HTX.out]
      go_enter Tryd.func30, Tryd.ntmps30
      go_wp2_with fail
      generalize w.alloc (.cells #[.int .u8 tag, .slice A n c, .slice K m d] 26) = w1 at *
      have f0 : w1.cell? ⟨w.heap.size, 0, none⟩ = some (.int .u8 tag) := HR.out.2.cell 0
      have f1 : w1.cell? ⟨w.heap.size, 1, none⟩ = some (.slice A n c) := HR.out.2.cell 1
      have f2 : w1.cell? ⟨w.heap.size, 2, none⟩ = some (.slice K m d) := HR.out.2.cell 2
      refine (HIC.out _).mono ?_
      rintro e w2 ⟨rfl, rfl⟩
      go_wp2_with (at_make; refine wpList_make_full _ rfl _ _ 90 rfl w.heap.size 22 i0 (.slice none 0 0) 1 Tryd.underlying90 hi0 hz0 hz1 .i64 .i64 (m : Int) (m : Int) m rfl rfl rfl rfl (by rw [hz2]; omega) (by unfold maxLen; omega) HR.out.1.size ?_; intro w2 hown hgrow; have hp2 : Past w1 w2 := (Below.refl _ w1).grown hgrow (Nat.le_refl _) (by intro k hk; cases hk); have g2 : w2.cell? ⟨w.heap.size, 2, none⟩ = some (.slice K m d) := (HR.out.2.past hp2).cell 2)
      have H0 := Lib.hid (Kd.start (X := X) (HR.out.1.trans' hp2) hown)
      have HR2 := Lib.hid (HR.out.2.past hp2)
      obtain ⟨g, hg⟩ : ∃ g, w.heap.size = g := ⟨_, rfl⟩
      obtain ⟨kb, hkb⟩ : ∃ kb, w1.heap.size = kb := ⟨_, rfl⟩
      have HGK : Hid (w.heap.size ≤ kb ∧ g = w.heap.size ∧ g < kb) := Lib.hid ⟨by have := HR.out.1.size; omega, hg.symm, by have := HR.out.2.lt; omega⟩
      rw [hkb] at H0
      rw [hg] at HR2
      clear hown hgrow hp2 HR f0 f1 f2 g2
      rw [hg, hkb]
      clear hg hkb
      go_loopg [5, 6, 19] m (fun k _ _ s19 wx => ∃ i : Nat, i ≤ m ∧ k = m - i ∧ s19 = .int .i64 (i : Int) ∧ Hid ((∃ V C, Kd w wx kb m i V C X) ∧ Row wx g 26 #[.int .u8 tag, .slice A n c, .slice K m d]))
      case atStart => exact ⟨0, Nat.zero_le _, rfl, rfl, Lib.hid ⟨⟨_, _, H0.out⟩, HR2.out⟩⟩
      case round =>
        clear H0 HR2
        obtain ⟨i, hi, hgk, rfl, HQ0⟩ := hrel
        obtain ⟨⟨V, C, hkd⟩, hrw⟩ := HQ0.out
        have HKD := Lib.hid hkd
        have HRW := Lib.hid hrw
        have HM := Lib.hid hgk
        clear hgk HQ0 hkd hrw
        by_cases hlt : i < m
        · obtain ⟨b, o, rfl, hcell⟩ := HC.out (by omega)
          obtain ⟨q0, q1, q2⟩ := hcell i hlt
          have hpp := HW.out.trans' HKD.out.past
          have c0 : wr.cell? ⟨b, o + i * 3, none⟩ = some (v0 i) := by rw [Below.cell hpp (cell_lt q0)]; exact q0
          have c1 : wr.cell? ⟨b, o + i * 3 + 1, none⟩ = some (v1 i) := by rw [Below.cell hpp (cell_lt q1)]; exact q1
          have c2 : wr.cell? ⟨b, o + i * 3 + 2, none⟩ = some (v2 i) := by rw [Below.cell hpp (cell_lt q2)]; exact q2
          have hck := cnt_kid kids i (by rw [HL.out]; exact hlt)
          have htk := txt_kid kids [] i (by rw [HL.out]; exact hlt)
          have hkc := fun wz (hz : Past wr wz) => HIH.out i hlt wz (hpp.trans' hz) (by have := HN.out; omega) (shpL_in kids i (by rw [HL.out]; exact hlt) HSH.out) (by have := HKL.out; omega)
          obtain ⟨tg, kA, kn, kc, kK, km, kd, e0, e1, e2⟩ := HKS.out i hlt
          rw [e0, e1, e2] at hkc
          rw [e0] at c0
          rw [e1] at c1
          rw [e2] at c2
          clear e0 e1 e2
          have hxi : txt (kids.getD i default) = X i := by rw [HXX.out]
          rw [hxi] at hkc
          have HK := Lib.hid hkc
          clear hcell q0 q1 q2 hpp hck hkc htk hxi
          have hi0' : (0 : Int) ≤ (i : Int) := by omega
          have him : (i : Int) < (m : Int) := by omega
          go_wp2_with fail
          refine (HK.out _ (past_alloc8 wr _)).mono ?_
          rintro e w3 ⟨A3, c3, rfl, hs3, hp3'⟩
          have hp3 := (past_alloc8 wr _).trans' hp3'
          have HKN := Lib.hid (HKD.out.push hlt hp3 hs3 HGK.out.1)
          have HRN := Lib.hid (row_setOther (HRW.out.past hp3) (h := kb) (by have := HGK.out.2.2; omega) i (.slice A3 (X i).length c3))
          have ho := own_past HKD.out.own hp3
          have hfz := ho.frozenAt i
          have hcl : ∃ v, w3.cell? ⟨kb, i, none⟩ = some v := by
            have h1 := ho.cellAt i (by omega)
            rw [h1]
            exact ⟨_, List.getElem?_eq_getElem (by have := ho.1; omega)⟩
          obtain ⟨v, hcl⟩ := hcl
          clear ho hs3 hp3 hp3' HKD HRW HK
          generalize (X i).length = xl at *
          go_wp2_with fail
          go_roundg (m - (i + 1))
          case rel => exact ⟨i + 1, by omega, rfl, by go_num, Lib.hid ⟨⟨_, _, HKN.out⟩, HRN.out⟩⟩
          case measure => have := HM.out; omega
        · obtain rfl : i = m := by omega
          have hcl : cat X i = txtL kids [] := by rw [HCAT.out i (Nat.le_refl _), List.take_of_length_le (by rw [HL.out]; exact Nat.le_refl _)]
          have hj := join_any _ i i _ _ _ wr (HKD.out.sls' hmb) (by omega) (by rw [hcl]; have := HKL.out; omega)
          rw [hcl] at hj
          have HJ := Lib.hid hj
          have HTL := Lib.hid (fun w4 A3 c3 (hs : Sl w4 A3 (txtL kids []).length c3 (txtL kids [])) (hp : Past w w4) => enc_tail hs hp HTG.out HKL.out)
          have HP := Lib.hid HKD.out.past
          clear hj hcl HKD HCAT HKL
          generalize headB tag (txtL kids []) = tx at *
          generalize tx.length = Z at *
          generalize (txtL kids []) = ys at *
          generalize (lenB ys.length).length = q at *
          go_wp2_with fail
          refine HJ.out.mono ?_
          rintro e w4 hjo
          obtain ⟨A3, c3, rfl, hs4, hp4⟩ := hjo.out
          have HT := Lib.hid (HTL.out w4 A3 c3 hs4 (HP.out.trans' hp4))
          have HR4 := Lib.hid (HRW.out.past hp4)
          clear hjo hs4 hp4 HTL HJ HRW HP
          generalize ys.length = L at *
          have f0 : w4.cell? ⟨g, 0, none⟩ = some (.int .u8 tag) := HR4.out.cell 0
          have f0d : w4.drew.cell? ⟨g, 0, none⟩ = some (.int .u8 tag) := HR4.out.cell 0
          go_wp2_with fail
          go_region_law (first
            | (go_simp; go_at_call 49; (with_reducible refine HT.out.e1.mono ?_); rintro e w5 ⟨A2, c2, rfl, hj⟩; have HJ := Lib.hid hj; clear hj)
            | (go_simp; go_at_call 49; (with_reducible refine HT.out.e2.mono ?_); rintro e w5 ⟨A2, c2, rfl, hq, hj⟩; have f0e : w5.cell? ⟨g, 0, none⟩ = some (.int .u8 tag) := (HR4.out.past hq).cell 0; have HJ := Lib.hid hj; clear hj hq)
            | (go_simp; go_at_call 48; (with_reducible refine HJ.out.mono ?_); rintro e w6 ⟨A4, c4, rfl, hs4, hp4⟩; have H4 := Lib.hid (And.intro hs4 hp4); clear hs4 hp4))
          all_goals
            go_wp2_with fail
            go_ret
            exact ⟨A4, c4, rfl, H4.out.1, H4.out.2⟩

end Go.Proofs.YtdpnfojpeafdhaaDoor
