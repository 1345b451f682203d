/- The reference's comparison of two trees. -/
import Derived.Test.YtdpnfojpeafdhaaDoorRef8D
import Derived.StillTailTactics
namespace Go.Proofs.YtdpnfojpeafdhaaDoor
open Go.RowKit

theorem take_snoc8 (l : List Int) (k : Nat) (h : k < l.length) : l.take (k + 1) = l.take k ++ [l.getD k 0] := by
  rw [List.take_add_one]
  simp [List.getD, h]
theorem node_eq {a b : Int} {xs ys : List Int} {ks ls : List T} : T.node a xs ks = T.node b ys ls ↔ a = b ∧ xs = ys ∧ ks = ls := by
  constructor
  · intro h
    injection h with h1 h2 h3
    exact ⟨h1, h2, h3⟩
  · rintro ⟨rfl, rfl, rfl⟩
    rfl
theorem list_extT {a b : List T} (hl : a.length = b.length) (h : ∀ i, i < a.length → a.getD i default = b.getD i default) : a = b := by
  refine List.ext_getElem hl fun i h1 h2 => ?_
  have := h i h1
  simpa [List.getD, h1, h2] using this

theorem Row.drewN8 {w : World} {g : Nat} {t : TypeId} {cs : Array Value} (r : Row w g t cs) (m : Nat) : Row (w.drewN m) g t cs := r

set_option maxHeartbeats 2000000 in
set_option maxRecDepth 100000 in
theorem rsame8_any {w0 : World} {v : Value} {t : T} (h : InM w0 v t) : ∀ v2 t2, InM w0 v2 t2 → ∀ w, Past w0 w → cnt t ≤ 1000000000 →
    Calls Tryd.prog 17 #[v, v2] w fun e w' => ∃ r : Bool, e = .returned (.bool r) ∧ (r = true ↔ t = t2) ∧ Past w w' := by
  induction h with
  | mk v0 v1 v2 ht hb hl hm hd h0 hc hk ih =>
    rename_i tag A n c bytes K m d kids
    intro vv tt hh w hw hn
    cases hh with
    | mk u0 u1 u2 ht' hb' hl' hm' hd' h0' hc' hk' =>
      rename_i tag' A' n' c' bytes' K' m' d' kids'
      have hmb : m ≤ 1000000000 := by
        have := len_cntL kids 1
        have : cntL kids 1 ≤ 1000000000 := hn
        omega
      have HN : Hid (cntL kids 1 ≤ 1000000000) := hn
      have hbl := hb.len
      have hbl' := hb'.len
      have hcn := hb.cap
      have hcb := hb.big
      unfold maxLen at hcb hd
      have HIH := Lib.hid ih
      have HC := Lib.hid hc
      have HC' := Lib.hid hc'
      have HL := Lib.hid hl
      have HL' := Lib.hid hl'
      have HK' := Lib.hid hk'
      have HW := Lib.hid hw
      have HBL := Lib.hid (And.intro hbl hbl')
      obtain ⟨wb, hwb⟩ : ∃ wb, wb = (w.alloc (.cells #[.int .u8 tag, .slice A n c, .slice K m d] 33)).alloc (.cells #[.int .u8 tag', .slice A' n' c', .slice K' m' d'] 33) := ⟨_, rfl⟩
      have HR : Hid (Past w wb ∧ Row wb w.heap.size 33 #[.int .u8 tag, .slice A n c, .slice K m d] ∧ Row wb (w.heap.size + 1) 33 #[.int .u8 tag', .slice A' n' c', .slice K' m' d']) := by
        rw [hwb]
        refine ⟨(past_alloc8 _ _).trans' (past_alloc8 _ _), (Row.new w _ _).alloc _, ?_⟩
        have := Row.new (w.alloc (.cells #[.int .u8 tag, .slice A n c, .slice K m d] 33)) 33 #[.int .u8 tag', .slice A' n' c', .slice K' m' d']
        simpa using this
      have HB := Lib.hid hb
      have HB' := Lib.hid hb'
      have f0 : wb.cell? ⟨w.heap.size, 0, none⟩ = some (.int .u8 tag) := HR.out.2.1.cell 0
      have f1 : wb.cell? ⟨w.heap.size, 1, none⟩ = some (.slice A n c) := HR.out.2.1.cell 1
      have f2 : wb.cell? ⟨w.heap.size, 2, none⟩ = some (.slice K m d) := HR.out.2.1.cell 2
      have f3 : wb.cell? ⟨w.heap.size + 1, 0, none⟩ = some (.int .u8 tag') := HR.out.2.2.cell 0
      have f4 : wb.cell? ⟨w.heap.size + 1, 1, none⟩ = some (.slice A' n' c') := HR.out.2.2.cell 1
      have f5 : wb.cell? ⟨w.heap.size + 1, 2, none⟩ = some (.slice K' m' d') := HR.out.2.2.cell 2
      subst hwb
      clear hn ih hc hc' hl hl' hk hk' hb hb' ht ht' hw hbl hbl'
      by_cases e1 : tag = tag'
      · by_cases e2 : n = n'
        · by_cases e3 : m = m'
          · subst e1 e2 e3
            go_enter Tryd.func17, Tryd.ntmps17
            go_wp2_with fail
            clear f0 f1 f2 f3 f4 f5
            generalize (w.alloc (.cells #[.int .u8 tag, .slice A n c, .slice K m d] 33)).alloc (.cells #[.int .u8 tag, .slice A' n c', .slice K' m d'] 33) = wb at *
            generalize hg : w.heap.size = g at *
            go_loopg [5] n (fun k s5 wx => ∃ i : Nat, i ≤ n ∧ k = n - i ∧ s5 = .int .i64 (i : Int) ∧ Hid (bytes.take i = bytes'.take i) ∧ Hid (Past w wx ∧ Row wx g 33 #[.int .u8 tag, .slice A n c, .slice K m d] ∧ Row wx (g + 1) 33 #[.int .u8 tag, .slice A' n c', .slice K' m d']))
            case atStart => exact ⟨0, Nat.zero_le _, rfl, rfl, rfl, HR⟩
            case round =>
              clear HR
              obtain ⟨i, hi, hgk, rfl, HE, HQ⟩ := hrel
              have HGK := Lib.hid hgk
              clear hgk
              have f1 : wr.cell? ⟨g, 1, none⟩ = some (.slice A n c) := HQ.out.2.1.cell 1
              have f4 : wr.cell? ⟨g + 1, 1, none⟩ = some (.slice A' n c') := HQ.out.2.2.cell 1
              have hpp := HW.out.trans' HQ.out.1
              by_cases hlt : i < n
              · obtain ⟨b1, o1, rfl, hc1⟩ := (HB.out.past hpp).bytes (by omega)
                obtain ⟨b2, o2, rfl, hc2⟩ := (HB'.out.past hpp).bytes (by omega)
                have q1 := hc1 i hlt
                have q2 := hc2 i hlt
                clear hc1 hc2 hpp
                generalize hx : bytes.getD i 0 = x at q1
                generalize hy : bytes'.getD i 0 = y at q2
                have HX := Lib.hid hx
                have HY := Lib.hid hy
                clear hx hy
                have hi0 : (0 : Int) ≤ (i : Int) := by omega
                have him : (i : Int) < (n : Int) := by omega
                by_cases hxy : x = y
                · subst hxy
                  go_wp2_with fail
                  go_quiet (fail)
                  go_wp2_with fail
                  go_roundg (n - (i + 1))
                  case rel =>
                    refine ⟨i + 1, by omega, rfl, by go_num, ?_, ⟨HQ.out.1.drewN _, Row.drewN8 HQ.out.2.1 _, Row.drewN8 HQ.out.2.2 _⟩⟩
                    show bytes.take (i + 1) = bytes'.take (i + 1)
                    rw [take_snoc8 bytes i (by rw [HBL.out.1]; exact hlt), take_snoc8 bytes' i (by rw [HBL.out.2]; exact hlt), HE.out, HX.out, HY.out]
                  case measure => have := HGK.out; omega
                · have hne : (x != y) = true := by simpa using hxy
                  have HF : Hid (¬ T.node tag bytes kids = T.node tag bytes' kids') := fun h => hxy (by rw [← HX.out, ← HY.out, (node_eq.1 h).2.1])
                  clear hxy
                  go_wp2_with fail
                  go_quiet (fail)
                  go_wp2_with fail
                  go_ret
                  exact ⟨false, rfl, ⟨(fun e => by cases e), fun e => absurd e HF.out⟩, HQ.out.1.drewN _⟩
              · obtain rfl : i = n := by omega
                have HEB : Hid (bytes = bytes') := by
                  have h := HE.out
                  rwa [List.take_of_length_le (by rw [HBL.out.1]; exact Nat.le_refl _), List.take_of_length_le (by rw [HBL.out.2]; exact Nat.le_refl _)] at h
                clear hpp HE HGK HB HB'
                have HR := HQ
                clear HQ
                go_wp2_with fail
                clear f1 f4
                go_loopg [6] m (fun k s6 wx => ∃ j : Nat, j ≤ m ∧ k = m - j ∧ s6 = .int .i64 (j : Int) ∧ Hid (∀ l, l < j → kids.getD l default = kids'.getD l default) ∧ Hid (Past w wx ∧ Row wx g 33 #[.int .u8 tag, .slice A i c, .slice K m d] ∧ Row wx (g + 1) 33 #[.int .u8 tag, .slice A' i c', .slice K' m d']))
                case atStart => exact ⟨0, Nat.zero_le _, rfl, rfl, fun l hl => absurd hl (Nat.not_lt_zero _), HR⟩
                case round =>
                  clear HR
                  obtain ⟨j, hj, hgk, rfl, HE, HQ⟩ := hrel
                  have HGK := Lib.hid hgk
                  clear hgk
                  have f2 : wr.cell? ⟨g, 2, none⟩ = some (.slice K m d) := HQ.out.2.1.cell 2
                  have f5 : wr.cell? ⟨g + 1, 2, none⟩ = some (.slice K' m d') := HQ.out.2.2.cell 2
                  by_cases hlt : j < m
                  · obtain ⟨b, o, rfl, hcell⟩ := HC.out (by omega)
                    obtain ⟨b', o', rfl, hcell'⟩ := HC'.out (by omega)
                    obtain ⟨q0, q1, q2⟩ := hcell j hlt
                    obtain ⟨p0, p1, p2⟩ := hcell' j hlt
                    have hpp := HW.out.trans' HQ.out.1
                    have c0 : wr.cell? ⟨b, o + j * 3, none⟩ = some (v0 j) := by rw [Below.cell hpp (cell_lt q0)]; exact q0
                    have c1 : wr.cell? ⟨b, o + j * 3 + 1, none⟩ = some (v1 j) := by rw [Below.cell hpp (cell_lt q1)]; exact q1
                    have c2 : wr.cell? ⟨b, o + j * 3 + 2, none⟩ = some (v2 j) := by rw [Below.cell hpp (cell_lt q2)]; exact q2
                    have c3 : wr.cell? ⟨b', o' + j * 3, none⟩ = some (u0 j) := by rw [Below.cell hpp (cell_lt p0)]; exact p0
                    have c4 : wr.cell? ⟨b', o' + j * 3 + 1, none⟩ = some (u1 j) := by rw [Below.cell hpp (cell_lt p1)]; exact p1
                    have c5 : wr.cell? ⟨b', o' + j * 3 + 2, none⟩ = some (u2 j) := by rw [Below.cell hpp (cell_lt p2)]; exact p2
                    have hck := cnt_kid kids j (by rw [HL.out]; exact hlt)
                    have hkc := HIH.out j hlt _ _ (HK'.out j hlt) wr.drew (hpp.drewN 1) (by have := HN.out; omega)
                    have HK := Lib.hid hkc
                    have HQD : Hid (Past w wr.drew ∧ Row wr.drew g 33 #[.int .u8 tag, .slice A i c, .slice (some ⟨b, o, none⟩) m d] ∧ Row wr.drew (g + 1) 33 #[.int .u8 tag, .slice A' i c', .slice (some ⟨b', o', none⟩) m d']) := ⟨HQ.out.1.drewN 1, HQ.out.2.1, HQ.out.2.2⟩
                    clear hcell hcell' q0 q1 q2 p0 p1 p2 hpp hck hkc
                    have hi0 : (0 : Int) ≤ (j : Int) := by omega
                    have him : (j : Int) < (m : Int) := by omega
                    go_wp2_with fail
                    go_still_tail 10, (by kernel_rfl)
                    change wpList _ _ _ _ _ wr.drew
                    go_wp2_with fail
                    refine HK.out.mono ?_
                    rintro e w2 ⟨r, rfl, hr, hp⟩
                    have HQ2 : Hid (Past w w2 ∧ Row w2 g 33 #[.int .u8 tag, .slice A i c, .slice (some ⟨b, o, none⟩) m d] ∧ Row w2 (g + 1) 33 #[.int .u8 tag, .slice A' i c', .slice (some ⟨b', o', none⟩) m d']) := ⟨HQD.out.1.trans' hp, HQD.out.2.1.past hp, HQD.out.2.2.past hp⟩
                    have HRR := Lib.hid hr
                    clear hp HQ HQD HK hr
                    cases r with
                    | true =>
                      have HE2 : Hid (∀ l, l < j + 1 → kids.getD l default = kids'.getD l default) := fun l hl => by
                        by_cases he : l = j
                        · subst he
                          exact HRR.out.1 rfl
                        · exact HE.out l (by omega)
                      go_wp2_with fail
                      go_roundg (m - (j + 1))
                      case rel => exact ⟨j + 1, by omega, rfl, by go_num, HE2, HQ2⟩
                      case measure => have := HGK.out; omega
                    | false =>
                      have HF : Hid (¬ T.node tag bytes kids = T.node tag bytes' kids') := fun h => by
                        have h1 := HRR.out.2 (by rw [(node_eq.1 h).2.2])
                        cases h1
                      go_wp2_with fail
                      go_ret
                      exact ⟨false, rfl, ⟨(fun e => by cases e), fun e => absurd e HF.out⟩, HQ2.out.1⟩
                  · obtain rfl : j = m := by omega
                    have hkk : Hid (kids = kids') := list_extT (by rw [HL.out, HL'.out]) fun l hl => HE.out l (by rw [← HL.out]; exact hl)
                    go_wp2_with fail
                    go_ret
                    exact ⟨true, rfl, ⟨fun _ => node_eq.2 ⟨rfl, HEB.out, hkk.out⟩, fun _ => rfl⟩, HQ.out.1⟩
          · have HF : Hid (¬ T.node tag bytes kids = T.node tag' bytes' kids') := fun h => e3 (by rw [← HL.out, ← HL'.out, (node_eq.1 h).2.2])
            have e3b : ((m : Int) != (m' : Int)) = true := by simp; omega
            subst e1 e2
            clear e3
            go_enter Tryd.func17, Tryd.ntmps17
            go_wp2_with fail
            go_ret
            exact ⟨false, rfl, ⟨(fun e => by cases e), fun e => absurd e HF.out⟩, HR.out.1⟩
        · have HF : Hid (¬ T.node tag bytes kids = T.node tag' bytes' kids') := fun h => e2 (by rw [← HBL.out.1, ← HBL.out.2, (node_eq.1 h).2.1])
          have e2b : ((n : Int) != (n' : Int)) = true := by simp; omega
          subst e1
          clear e2
          go_enter Tryd.func17, Tryd.ntmps17
          go_wp2_with fail
          go_ret
          exact ⟨false, rfl, ⟨(fun e => by cases e), fun e => absurd e HF.out⟩, HR.out.1⟩
      · have HF : Hid (¬ T.node tag bytes kids = T.node tag' bytes' kids') := fun h => e1 (node_eq.1 h).1
        have e1b : (tag != tag') = true := by simpa using e1
        clear e1
        go_enter Tryd.func17, Tryd.ntmps17
        go_wp2_with fail
        go_ret
        exact ⟨false, rfl, ⟨(fun e => by cases e), fun e => absurd e HF.out⟩, HR.out.1⟩

end Go.Proofs.YtdpnfojpeafdhaaDoor
