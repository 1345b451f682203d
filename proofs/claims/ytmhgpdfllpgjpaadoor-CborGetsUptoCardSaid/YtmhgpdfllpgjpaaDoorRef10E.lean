/- The reference's comparison of two trees; Few; Int. -/
import Derived.Test.YtmhgpdfllpgjpaaDoorRef10D
import Derived.StillTailTactics
namespace Go.Proofs.YtmhgpdfllpgjpaaDoor
open Go.RowKit
set_option linter.unusedVariables false

theorem take_snoc8 (l : List Int) (k : Nat) (h : k < l.length) : l.take (k + 1) = l.take k ++ [l.getD k 0] := by
  rw [List.take_add_one]
  simp [List.getD, h]
theorem node_eq {a b p q : Int} {xs ys : List Int} {ks ls : List T} : T.node a p xs ks = T.node b q ys ls ↔ a = b ∧ p = q ∧ xs = ys ∧ ks = ls := by
  constructor
  · intro h
    injection h with h1 h2 h3 h4
    exact ⟨h1, h2, h3, h4⟩
  · rintro ⟨rfl, rfl, rfl, rfl⟩
    rfl
theorem list_extT {a b : List T} (hl : a.length = b.length) (h : ∀ i, i < a.length → a.getD i default = b.getD i default) : a = b := by
  refine List.ext_getElem hl fun i h1 h2 => ?_
  have := h i h1
  simpa [List.getD, h1, h2] using this
theorem Row.drewN8 {w : World} {g : Nat} {t : TypeId} {cs : Array Value} (r : Row w g t cs) (m : Nat) : Row (w.drewN m) g t cs := r

set_option maxHeartbeats 2000000 in
set_option maxRecDepth 100000 in
theorem rsame10_any {w0 : World} {v : Value} {t : T} (h : InM w0 v t) : ∀ v2 t2, InM w0 v2 t2 → ∀ w, Past w0 w → cnt t ≤ 1000000000 →
    Calls Tryd.prog 12 #[v, v2] w fun e w' => ∃ r : Bool, e = .returned (.bool r) ∧ (r = true ↔ t = t2) ∧ Past w w' := by
  induction h with
  | mk v0 v1 v2 v3 ht hu hb hl hm hd h0 hc hk ih =>
    rename_i kd nm A n c bytes K m d kids
    intro vv tt hh w hw hn
    cases hh with
    | mk u0 u1 u2 u3 ht' hu' hb' hl' hm' hd' h0' hc' hk' =>
      rename_i kd' nm' A' n' c' bytes' K' m' d' kids'
      have hn' : cntL kids (1 + bytes.length) ≤ 1000000000 := hn
      have hmb : m ≤ 1000000000 := by
        have := len_cntL kids (1 + bytes.length)
        omega
      have HN := Lib.hid hn'
      have hbl := hb.len
      have hbl' := hb'.len
      have hcn := hb.cap
      have hcb := hb.big
      unfold maxLen at hcb hd
      have HIH := Lib.hid ih
      have HC := Lib.hid hc
      have HC' := Lib.hid hc'
      have HL := Lib.hid hl
      have HL' := Lib.hid hl'
      have HK' := Lib.hid hk'
      have HW := Lib.hid hw
      have HBL := Lib.hid (And.intro hbl hbl')
      obtain ⟨wb, hwb⟩ : ∃ wb, wb = (w.alloc (.cells #[.int .i64 kd, .int .u64 nm, .slice A n c, .slice K m d] 34)).alloc (.cells #[.int .i64 kd', .int .u64 nm', .slice A' n' c', .slice K' m' d'] 34) := ⟨_, rfl⟩
      have HR : Hid (Past w wb ∧ Row wb w.heap.size 34 #[.int .i64 kd, .int .u64 nm, .slice A n c, .slice K m d] ∧ Row wb (w.heap.size + 1) 34 #[.int .i64 kd', .int .u64 nm', .slice A' n' c', .slice K' m' d']) := by
        rw [hwb]
        refine ⟨(past_alloc8 _ _).trans' (past_alloc8 _ _), (Row.new w _ _).alloc _, ?_⟩
        have := Row.new (w.alloc (.cells #[.int .i64 kd, .int .u64 nm, .slice A n c, .slice K m d] 34)) 34 #[.int .i64 kd', .int .u64 nm', .slice A' n' c', .slice K' m' d']
        simpa using this
      have HB := Lib.hid hb
      have HB' := Lib.hid hb'
      have f0 : wb.cell? ⟨w.heap.size, 0, none⟩ = some (.int .i64 kd) := HR.out.2.1.cell 0
      have f1 : wb.cell? ⟨w.heap.size, 1, none⟩ = some (.int .u64 nm) := HR.out.2.1.cell 1
      have f2 : wb.cell? ⟨w.heap.size, 2, none⟩ = some (.slice A n c) := HR.out.2.1.cell 2
      have f3 : wb.cell? ⟨w.heap.size, 3, none⟩ = some (.slice K m d) := HR.out.2.1.cell 3
      have f4 : wb.cell? ⟨w.heap.size + 1, 0, none⟩ = some (.int .i64 kd') := HR.out.2.2.cell 0
      have f5 : wb.cell? ⟨w.heap.size + 1, 1, none⟩ = some (.int .u64 nm') := HR.out.2.2.cell 1
      have f6 : wb.cell? ⟨w.heap.size + 1, 2, none⟩ = some (.slice A' n' c') := HR.out.2.2.cell 2
      have f7 : wb.cell? ⟨w.heap.size + 1, 3, none⟩ = some (.slice K' m' d') := HR.out.2.2.cell 3
      subst hwb
      clear hn hn' ih hc hc' hl hl' hk hk' hb hb' ht ht' hu hu' hw hbl hbl'
      by_cases e1 : kd = kd'
      · by_cases e1n : nm = nm'
        · by_cases e2 : n = n'
          · by_cases e3 : m = m'
            · subst e1 e1n e2 e3
              have hkk1 : (kd != kd) = false := by simp
              have hkk2 : (nm != nm) = false := by simp
              go_enter Tryd.func12, Tryd.ntmps12
              go_wp2_with fail
              clear f0 f1 f2 f3 f4 f5 f6 f7
              generalize (w.alloc (.cells #[.int .i64 kd, .int .u64 nm, .slice A n c, .slice K m d] 34)).alloc (.cells #[.int .i64 kd, .int .u64 nm, .slice A' n c', .slice K' m d'] 34) = wb at *
              generalize hg : w.heap.size = g at *
              go_loopg [5] n (fun k s5 wx => ∃ i : Nat, i ≤ n ∧ k = n - i ∧ s5 = .int .i64 (i : Int) ∧ Hid (bytes.take i = bytes'.take i) ∧ Hid (Past w wx ∧ Row wx g 34 #[.int .i64 kd, .int .u64 nm, .slice A n c, .slice K m d] ∧ Row wx (g + 1) 34 #[.int .i64 kd, .int .u64 nm, .slice A' n c', .slice K' m d']))
              case atStart => exact ⟨0, Nat.zero_le _, rfl, rfl, rfl, HR⟩
              case round =>
                clear HR
                obtain ⟨i, hi, hgk, rfl, HE, HQ⟩ := hrel
                have HGK := Lib.hid hgk
                clear hgk
                have f1 : wr.cell? ⟨g, 2, none⟩ = some (.slice A n c) := HQ.out.2.1.cell 2
                have f4 : wr.cell? ⟨g + 1, 2, none⟩ = some (.slice A' n c') := HQ.out.2.2.cell 2
                have hpp := HW.out.trans' HQ.out.1
                by_cases hlt : i < n
                · obtain ⟨b1, o1, rfl, hc1⟩ := (HB.out.past hpp).bytes (by omega)
                  obtain ⟨b2, o2, rfl, hc2⟩ := (HB'.out.past hpp).bytes (by omega)
                  have q1 := hc1 i hlt
                  have q2 := hc2 i hlt
                  clear hc1 hc2 hpp
                  generalize hx : bytes.getD i 0 = x at q1
                  generalize hy : bytes'.getD i 0 = y at q2
                  have HX := Lib.hid hx
                  have HY := Lib.hid hy
                  clear hx hy
                  have hi0 : (0 : Int) ≤ (i : Int) := by omega
                  have him : (i : Int) < (n : Int) := by omega
                  by_cases hxy : x = y
                  · subst hxy
                    go_wp2_with fail
                    go_quiet (fail)
                    go_wp2_with fail
                    go_roundg (n - (i + 1))
                    case rel =>
                      refine ⟨i + 1, by omega, rfl, by go_num, ?_, ⟨HQ.out.1.drewN _, Row.drewN8 HQ.out.2.1 _, Row.drewN8 HQ.out.2.2 _⟩⟩
                      show bytes.take (i + 1) = bytes'.take (i + 1)
                      rw [take_snoc8 bytes i (by rw [HBL.out.1]; exact hlt), take_snoc8 bytes' i (by rw [HBL.out.2]; exact hlt), HE.out, HX.out, HY.out]
                    case measure => have := HGK.out; omega
                  · have hne : (x != y) = true := by simpa using hxy
                    have HF : Hid (¬ T.node kd nm bytes kids = T.node kd nm bytes' kids') := fun h => hxy (by rw [← HX.out, ← HY.out, (node_eq.1 h).2.2.1])
                    clear hxy
                    go_wp2_with fail
                    go_quiet (fail)
                    go_wp2_with fail
                    go_ret
                    exact ⟨false, rfl, ⟨(fun e => by cases e), fun e => absurd e HF.out⟩, HQ.out.1.drewN _⟩
                · obtain rfl : i = n := by omega
                  have HEB : Hid (bytes = bytes') := by
                    have h := HE.out
                    rwa [List.take_of_length_le (by rw [HBL.out.1]; exact Nat.le_refl _), List.take_of_length_le (by rw [HBL.out.2]; exact Nat.le_refl _)] at h
                  clear hpp HE HGK HB HB'
                  have HR := HQ
                  clear HQ
                  go_wp2_with fail
                  clear f1 f4
                  go_loopg [6] m (fun k s6 wx => ∃ j : Nat, j ≤ m ∧ k = m - j ∧ s6 = .int .i64 (j : Int) ∧ Hid (∀ l, l < j → kids.getD l default = kids'.getD l default) ∧ Hid (Past w wx ∧ Row wx g 34 #[.int .i64 kd, .int .u64 nm, .slice A i c, .slice K m d] ∧ Row wx (g + 1) 34 #[.int .i64 kd, .int .u64 nm, .slice A' i c', .slice K' m d']))
                  case atStart => exact ⟨0, Nat.zero_le _, rfl, rfl, fun l hl => absurd hl (Nat.not_lt_zero _), HR⟩
                  case round =>
                    clear HR
                    obtain ⟨j, hj, hgk, rfl, HE, HQ⟩ := hrel
                    have HGK := Lib.hid hgk
                    clear hgk
                    have f2 : wr.cell? ⟨g, 3, none⟩ = some (.slice K m d) := HQ.out.2.1.cell 3
                    have f5 : wr.cell? ⟨g + 1, 3, none⟩ = some (.slice K' m d') := HQ.out.2.2.cell 3
                    by_cases hlt : j < m
                    · obtain ⟨b, o, rfl, hcell⟩ := HC.out (by omega)
                      obtain ⟨b', o', rfl, hcell'⟩ := HC'.out (by omega)
                      have hpp := HW.out.trans' HQ.out.1
                      obtain ⟨c0, c1, c2, c3⟩ := kid_cells (hcell j hlt) hpp
                      obtain ⟨c4, c5, c6, c7⟩ := kid_cells (hcell' j hlt) hpp
                      have hck := cnt_kid kids (1 + bytes.length) j (by rw [HL.out]; exact hlt)
                      have hkc := HIH.out j hlt _ _ (HK'.out j hlt) wr.drew (hpp.drewN 1) (by have := HN.out; omega)
                      have HK := Lib.hid hkc
                      have HQD : Hid (Past w wr.drew ∧ Row wr.drew g 34 #[.int .i64 kd, .int .u64 nm, .slice A i c, .slice (some ⟨b, o, none⟩) m d] ∧ Row wr.drew (g + 1) 34 #[.int .i64 kd, .int .u64 nm, .slice A' i c', .slice (some ⟨b', o', none⟩) m d']) := ⟨HQ.out.1.drewN 1, HQ.out.2.1, HQ.out.2.2⟩
                      clear hcell hcell' hpp hck hkc
                      have hi0 : (0 : Int) ≤ (j : Int) := by omega
                      have him : (j : Int) < (m : Int) := by omega
                      go_wp2_with fail
                      go_still_tail 10, (by kernel_rfl)
                      change wpList _ _ _ _ _ wr.drew
                      go_wp2_with fail
                      refine HK.out.mono ?_
                      rintro e w2 ⟨r, rfl, hr, hp⟩
                      have HQ2 : Hid (Past w w2 ∧ Row w2 g 34 #[.int .i64 kd, .int .u64 nm, .slice A i c, .slice (some ⟨b, o, none⟩) m d] ∧ Row w2 (g + 1) 34 #[.int .i64 kd, .int .u64 nm, .slice A' i c', .slice (some ⟨b', o', none⟩) m d']) := ⟨HQD.out.1.trans' hp, HQD.out.2.1.past hp, HQD.out.2.2.past hp⟩
                      have HRR := Lib.hid hr
                      clear hp HQ HQD HK hr
                      cases r with
                      | true =>
                        have HE2 : Hid (∀ l, l < j + 1 → kids.getD l default = kids'.getD l default) := fun l hl => by
                          by_cases he : l = j
                          · subst he
                            exact HRR.out.1 rfl
                          · exact HE.out l (by omega)
                        go_wp2_with fail
                        go_roundg (m - (j + 1))
                        case rel => exact ⟨j + 1, by omega, rfl, by go_num, HE2, HQ2⟩
                        case measure => have := HGK.out; omega
                      | false =>
                        have HF : Hid (¬ T.node kd nm bytes kids = T.node kd nm bytes' kids') := fun h => by
                          have h1 := HRR.out.2 (by rw [(node_eq.1 h).2.2.2])
                          cases h1
                        go_wp2_with fail
                        go_ret
                        exact ⟨false, rfl, ⟨(fun e => by cases e), fun e => absurd e HF.out⟩, HQ2.out.1⟩
                    · obtain rfl : j = m := by omega
                      have hkk : Hid (kids = kids') := list_extT (by rw [HL.out, HL'.out]) fun l hl => HE.out l (by rw [← HL.out]; exact hl)
                      go_wp2_with fail
                      go_ret
                      exact ⟨true, rfl, ⟨fun _ => node_eq.2 ⟨rfl, rfl, HEB.out, hkk.out⟩, fun _ => rfl⟩, HQ.out.1⟩
            · have HF : Hid (¬ T.node kd nm bytes kids = T.node kd' nm' bytes' kids') := fun h => e3 (by rw [← HL.out, ← HL'.out, (node_eq.1 h).2.2.2])
              have e3b : ((m : Int) != (m' : Int)) = true := by simp; omega
              subst e1 e1n e2
              have hkk1 : (kd != kd) = false := by simp
              have hkk2 : (nm != nm) = false := by simp
              clear e3
              go_enter Tryd.func12, Tryd.ntmps12
              go_wp2_with fail
              go_ret
              exact ⟨false, rfl, ⟨(fun e => by cases e), fun e => absurd e HF.out⟩, HR.out.1⟩
          · have HF : Hid (¬ T.node kd nm bytes kids = T.node kd' nm' bytes' kids') := fun h => e2 (by rw [← HBL.out.1, ← HBL.out.2, (node_eq.1 h).2.2.1])
            have e2b : ((n : Int) != (n' : Int)) = true := by simp; omega
            subst e1 e1n
            have hkk1 : (kd != kd) = false := by simp
            have hkk2 : (nm != nm) = false := by simp
            clear e2
            go_enter Tryd.func12, Tryd.ntmps12
            go_wp2_with fail
            go_ret
            exact ⟨false, rfl, ⟨(fun e => by cases e), fun e => absurd e HF.out⟩, HR.out.1⟩
        · have HF : Hid (¬ T.node kd nm bytes kids = T.node kd' nm' bytes' kids') := fun h => e1n (node_eq.1 h).2.1
          have e1b : (nm != nm') = true := by simpa using e1n
          subst e1
          have hkk1 : (kd != kd) = false := by simp
          clear e1n
          go_enter Tryd.func12, Tryd.ntmps12
          go_wp2_with fail
          go_ret
          exact ⟨false, rfl, ⟨(fun e => by cases e), fun e => absurd e HF.out⟩, HR.out.1⟩
      · have HF : Hid (¬ T.node kd nm bytes kids = T.node kd' nm' bytes' kids') := fun h => e1 (node_eq.1 h).1
        have e1b : (kd != kd') = true := by simpa using e1
        clear e1
        go_enter Tryd.func12, Tryd.ntmps12
        go_wp2_with fail
        go_ret
        exact ⟨false, rfl, ⟨(fun e => by cases e), fun e => absurd e HF.out⟩, HR.out.1⟩

def fewB (t : T) : Bool := decide (dep t ≤ 20 ∧ cnt t ≤ 3000)
set_option maxHeartbeats 1000000 in
theorem rfew_any {w0 : World} {v : Value} {t : T} (h : InM w0 v t) (w : World) (hw : Past w0 w) (hn : cnt t ≤ 1000000000) :
    Calls Tryd.prog 16 #[v] w fun e w' => e = .returned (.bool (fewB t)) ∧ Past w w' := by
  have HD := Lib.hid (fun w1 (hp : Past w w1) => rdepth_any h w1 (hw.trans' hp) hn)
  have HC := Lib.hid (fun w1 (hp : Past w w1) => rcount_any h w1 (hw.trans' hp) hn)
  obtain ⟨kd, nm, A, n, c, K, m, d, rfl⟩ := h.agg
  have HR : Hid (Past w (w.alloc (.cells #[.int .i64 kd, .int .u64 nm, .slice A n c, .slice K m d] 34)) ∧ Row (w.alloc (.cells #[.int .i64 kd, .int .u64 nm, .slice A n c, .slice K m d] 34)) w.heap.size 34 #[.int .i64 kd, .int .u64 nm, .slice A n c, .slice K m d]) := ⟨past_alloc8 _ _, Row.new _ _ _⟩
  have hFB : fewB t = decide (dep t ≤ 20 ∧ cnt t ≤ 3000) := rfl
  clear h hw hn
  generalize dep t = dd at *
  generalize cnt t = cc at *
  by_cases c1 : dd ≤ 20
  · have c1i : (dd : Int) ≤ 20 := by omega
    have HF : Hid (fewB t = decide ((cc : Int) ≤ 3000)) := by
      show _ = _
      rw [hFB]
      exact decide_eq_decide.2 ⟨fun h => by omega, fun h => ⟨c1, by omega⟩⟩
    clear hFB
    go_enter Tryd.func16, Tryd.ntmps16
    go_wp2_with fail
    generalize w.alloc (.cells #[.int .i64 kd, .int .u64 nm, .slice A n c, .slice K m d] 34) = w1 at *
    refine (HD.out _ HR.out.1).mono ?_
    rintro e w2 ⟨rfl, hp⟩
    have H2 : Hid (Past w w2 ∧ Row w2 w.heap.size 34 #[.int .i64 kd, .int .u64 nm, .slice A n c, .slice K m d]) := ⟨HR.out.1.trans' hp, HR.out.2.past hp⟩
    clear hp HR
    have f0 : w2.cell? ⟨w.heap.size, 0, none⟩ = some (.int .i64 kd) := H2.out.2.cell 0
    have f1 : w2.cell? ⟨w.heap.size, 1, none⟩ = some (.int .u64 nm) := H2.out.2.cell 1
    have f2 : w2.cell? ⟨w.heap.size, 2, none⟩ = some (.slice A n c) := H2.out.2.cell 2
    have f3 : w2.cell? ⟨w.heap.size, 3, none⟩ = some (.slice K m d) := H2.out.2.cell 3
    go_wp2_with fail
    refine (HC.out _ H2.out.1).mono ?_
    rintro e w3 ⟨rfl, hp⟩
    have H3 : Hid (Past w w3) := H2.out.1.trans' hp
    clear hp
    go_wp2_with fail
    go_ret
    rw [HF.out]
    exact ⟨by first | rfl | (congr 2; exact decide_eq_decide.2 (by omega)), H3.out⟩
  · have c1i : ¬ (dd : Int) ≤ 20 := by omega
    have HF : Hid (fewB t = false) := by
      show _ = _
      rw [hFB]
      exact decide_eq_false fun h => c1 h.1
    clear hFB
    go_enter Tryd.func16, Tryd.ntmps16
    go_wp2_with fail
    generalize w.alloc (.cells #[.int .i64 kd, .int .u64 nm, .slice A n c, .slice K m d] 34) = w1 at *
    refine (HD.out _ HR.out.1).mono ?_
    rintro e w2 ⟨rfl, hp⟩
    have H2 : Hid (Past w w2) := HR.out.1.trans' hp
    clear hp
    go_wp2_with fail
    go_ret
    rw [HF.out]
    exact ⟨rfl, H2.out⟩

end Go.Proofs.YtmhgpdfllpgjpaaDoor
