/- The law's comparison of a node of the program with one of the reference. -/
import Derived.Test.YtdpnfojpeafdhaaDoorSame1
namespace Go.Proofs.YtdpnfojpeafdhaaDoor
open Go.RowKit

set_option maxHeartbeats 2000000 in
set_option maxRecDepth 100000 in
theorem lsame_any {w0 : World} {v : Value} {t : T} (h : InM w0 v t) : ∀ v2 t2, InM w0 v2 t2 → ∀ w, Past w0 w → cnt t ≤ 1000000000 →
    Calls Tryd.prog 11 #[v, v2] w fun e w' => ∃ r : Bool, e = .returned (.bool r) ∧ (r = true ↔ t = t2) ∧ Past w w' := by
  induction h with
  | mk v0 v1 v2 ht hb hl hm hd h0 hc hk ih =>
    rename_i tag A n c bytes K m d kids
    intro vv tt hh w hw hn
    cases hh with
    | mk u0 u1 u2 ht' hb' hl' hm' hd' h0' hc' hk' =>
      rename_i tag' A' n' c' bytes' K' m' d' kids'
      have hmb : m ≤ 1000000000 := by
        have := len_cntL kids 1
        have : cntL kids 1 ≤ 1000000000 := hn
        omega
      have HN : Hid (cntL kids 1 ≤ 1000000000) := hn
      unfold maxLen at hd
      have HIH := Lib.hid ih
      have HC := Lib.hid hc
      have HC' := Lib.hid hc'
      have HL := Lib.hid hl
      have HL' := Lib.hid hl'
      have HK' := Lib.hid hk'
      have HW := Lib.hid hw
      obtain ⟨wb, hwb⟩ : ∃ wb, wb = (w.alloc (.cells #[.int .u8 tag, .slice A n c, .slice K m d] 26)).alloc (.cells #[.int .u8 tag', .slice A' n' c', .slice K' m' d'] 33) := ⟨_, rfl⟩
      have HR : Hid (Past w wb ∧ Row wb w.heap.size 26 #[.int .u8 tag, .slice A n c, .slice K m d] ∧ Row wb (w.heap.size + 1) 33 #[.int .u8 tag', .slice A' n' c', .slice K' m' d']) := by
        rw [hwb]
        refine ⟨(past_alloc8 _ _).trans' (past_alloc8 _ _), (Row.new w _ _).alloc _, ?_⟩
        have := Row.new (w.alloc (.cells #[.int .u8 tag, .slice A n c, .slice K m d] 26)) 33 #[.int .u8 tag', .slice A' n' c', .slice K' m' d']
        simpa using this
      have HS := Lib.hid (rsame_any A A' n n' c c' bytes bytes' wb (hb.past (hw.trans' HR.out.1)) (hb'.past (hw.trans' HR.out.1)))
      have f0 : wb.cell? ⟨w.heap.size, 0, none⟩ = some (.int .u8 tag) := HR.out.2.1.cell 0
      have f1 : wb.cell? ⟨w.heap.size, 1, none⟩ = some (.slice A n c) := HR.out.2.1.cell 1
      have f3 : wb.cell? ⟨w.heap.size + 1, 0, none⟩ = some (.int .u8 tag') := HR.out.2.2.cell 0
      have f4 : wb.cell? ⟨w.heap.size + 1, 1, none⟩ = some (.slice A' n' c') := HR.out.2.2.cell 1
      have HWB := Lib.hid hwb
      clear hn ih hc hc' hl hl' hk hk' hb hb' ht ht' hw
      by_cases e1 : tag = tag'
      · subst e1
        go_enter Tryd.func11, Tryd.ntmps11
        subst hwb
        go_wp2_with fail
        clear f0 f1 f3 f4 HWB
        generalize (w.alloc (.cells #[.int .u8 tag, .slice A n c, .slice K m d] 26)).alloc (.cells #[.int .u8 tag, .slice A' n' c', .slice K' m' d'] 33) = wb at *
        generalize hg : w.heap.size = g at *
        refine HS.out.mono ?_
        rintro e wc ⟨rfl, q, rfl⟩
        have HRD : Hid (Past w (wb.drewN q) ∧ Row (wb.drewN q) g 26 #[.int .u8 tag, .slice A n c, .slice K m d] ∧ Row (wb.drewN q) (g + 1) 33 #[.int .u8 tag, .slice A' n' c', .slice K' m' d']) := ⟨HR.out.1.drewN q, HR.out.2.1, HR.out.2.2⟩
        clear HR HS
        generalize wb.drewN q = wd at *
        have f2 : wd.cell? ⟨g, 2, none⟩ = some (.slice K m d) := HRD.out.2.1.cell 2
        have f5 : wd.cell? ⟨g + 1, 2, none⟩ = some (.slice K' m' d') := HRD.out.2.2.cell 2
        cases hsb : sameB bytes bytes' with
        | false =>
          have HF : Hid (¬ T.node tag bytes kids = T.node tag bytes' kids') := fun h => by
            rw [(node_eq.1 h).2.1, sameB_refl] at hsb
            cases hsb
          clear hsb
          go_wp2_with fail
          go_ret
          exact ⟨false, rfl, ⟨(fun e => by cases e), fun e => absurd e HF.out⟩, HRD.out.1⟩
        | true =>
          have HEB : Hid (bytes = bytes') := sameB_true hsb
          clear hsb
          by_cases e3 : m = m'
          · subst e3
            go_wp2_with fail
            clear f2 f5
            go_loopg [5] m (fun k s5 wx => ∃ j : Nat, j ≤ m ∧ k = m - j ∧ s5 = .int .i64 (j : Int) ∧ Hid (∀ l, l < j → kids.getD l default = kids'.getD l default) ∧ Hid (Past w wx ∧ Row wx g 26 #[.int .u8 tag, .slice A n c, .slice K m d] ∧ Row wx (g + 1) 33 #[.int .u8 tag, .slice A' n' c', .slice K' m d']))
            case atStart => exact ⟨0, Nat.zero_le _, rfl, rfl, fun l hl => absurd hl (Nat.not_lt_zero _), HRD⟩
            case round =>
              clear HRD
              obtain ⟨j, hj, hgk, rfl, HE, HQ⟩ := hrel
              have HGK := Lib.hid hgk
              clear hgk
              have f2 : wr.cell? ⟨g, 2, none⟩ = some (.slice K m d) := HQ.out.2.1.cell 2
              have f5 : wr.cell? ⟨g + 1, 2, none⟩ = some (.slice K' m d') := HQ.out.2.2.cell 2
              by_cases hlt : j < m
              · obtain ⟨b, o, rfl, hcell⟩ := HC.out (by omega)
                obtain ⟨b', o', rfl, hcell'⟩ := HC'.out (by omega)
                obtain ⟨q0, q1, q2⟩ := hcell j hlt
                obtain ⟨p0, p1, p2⟩ := hcell' j hlt
                have hpp := HW.out.trans' HQ.out.1
                have c0 : wr.cell? ⟨b, o + j * 3, none⟩ = some (v0 j) := by rw [Below.cell hpp (cell_lt q0)]; exact q0
                have c1 : wr.cell? ⟨b, o + j * 3 + 1, none⟩ = some (v1 j) := by rw [Below.cell hpp (cell_lt q1)]; exact q1
                have c2 : wr.cell? ⟨b, o + j * 3 + 2, none⟩ = some (v2 j) := by rw [Below.cell hpp (cell_lt q2)]; exact q2
                have c3 : wr.cell? ⟨b', o' + j * 3, none⟩ = some (u0 j) := by rw [Below.cell hpp (cell_lt p0)]; exact p0
                have c4 : wr.cell? ⟨b', o' + j * 3 + 1, none⟩ = some (u1 j) := by rw [Below.cell hpp (cell_lt p1)]; exact p1
                have c5 : wr.cell? ⟨b', o' + j * 3 + 2, none⟩ = some (u2 j) := by rw [Below.cell hpp (cell_lt p2)]; exact p2
                have hck := cnt_kid kids j (by rw [HL.out]; exact hlt)
                have hkc := HIH.out j hlt _ _ (HK'.out j hlt) wr.drew (hpp.drewN 1) (by have := HN.out; omega)
                have HK := Lib.hid hkc
                have HQD : Hid (Past w wr.drew ∧ Row wr.drew g 26 #[.int .u8 tag, .slice A n c, .slice (some ⟨b, o, none⟩) m d] ∧ Row wr.drew (g + 1) 33 #[.int .u8 tag, .slice A' n' c', .slice (some ⟨b', o', none⟩) m d']) := ⟨HQ.out.1.drewN 1, HQ.out.2.1, HQ.out.2.2⟩
                clear hcell hcell' q0 q1 q2 p0 p1 p2 hpp hck hkc
                have hi0 : (0 : Int) ≤ (j : Int) := by omega
                have him : (j : Int) < (m : Int) := by omega
                go_wp2_with fail
                go_still_tail 10, (by kernel_rfl)
                change wpList _ _ _ _ _ wr.drew
                go_wp2_with fail
                refine HK.out.mono ?_
                rintro e w2 ⟨r, rfl, hr, hp⟩
                have HQ2 : Hid (Past w w2 ∧ Row w2 g 26 #[.int .u8 tag, .slice A n c, .slice (some ⟨b, o, none⟩) m d] ∧ Row w2 (g + 1) 33 #[.int .u8 tag, .slice A' n' c', .slice (some ⟨b', o', none⟩) m d']) := ⟨HQD.out.1.trans' hp, HQD.out.2.1.past hp, HQD.out.2.2.past hp⟩
                have HRR := Lib.hid hr
                clear hp HQ HQD HK hr
                cases r with
                | true =>
                  have HE2 : Hid (∀ l, l < j + 1 → kids.getD l default = kids'.getD l default) := fun l hl => by
                    by_cases he : l = j
                    · subst he
                      exact HRR.out.1 rfl
                    · exact HE.out l (by omega)
                  go_wp2_with fail
                  go_roundg (m - (j + 1))
                  case rel => exact ⟨j + 1, by omega, rfl, by go_num, HE2, HQ2⟩
                  case measure => have := HGK.out; omega
                | false =>
                  have HF : Hid (¬ T.node tag bytes kids = T.node tag bytes' kids') := fun h => by
                    have h1 := HRR.out.2 (by rw [(node_eq.1 h).2.2])
                    cases h1
                  go_wp2_with fail
                  go_ret
                  exact ⟨false, rfl, ⟨(fun e => by cases e), fun e => absurd e HF.out⟩, HQ2.out.1⟩
              · obtain rfl : j = m := by omega
                have hkk : Hid (kids = kids') := list_extT (by rw [HL.out, HL'.out]) fun l hl => HE.out l (by rw [← HL.out]; exact hl)
                go_wp2_with fail
                go_ret
                exact ⟨true, rfl, ⟨fun _ => node_eq.2 ⟨rfl, HEB.out, hkk.out⟩, fun _ => rfl⟩, HQ.out.1⟩
          · have HF : Hid (¬ T.node tag bytes kids = T.node tag bytes' kids') := fun h => e3 (by rw [← HL.out, ← HL'.out, (node_eq.1 h).2.2])
            have e3b : ((m : Int) != (m' : Int)) = true := by simp; omega
            clear e3
            go_wp2_with fail
            go_ret
            exact ⟨false, rfl, ⟨(fun e => by cases e), fun e => absurd e HF.out⟩, HRD.out.1⟩
      · have HF : Hid (¬ T.node tag bytes kids = T.node tag' bytes' kids') := fun h => e1 (node_eq.1 h).1
        have e1b : (tag != tag') = true := by simpa using e1
        subst hwb
        clear e1
        go_enter Tryd.func11, Tryd.ntmps11
        go_wp2_with fail
        go_ret
        first
          | exact ⟨false, rfl, ⟨(fun e => by cases e), fun e => absurd e HF.out⟩, HR.out.1⟩
          | exact .inl ⟨rfl, fun h1 h2 h3 => HF.out (node_eq.2 ⟨h1, h2, h3⟩), HR.out.1⟩

end Go.Proofs.YtdpnfojpeafdhaaDoor
