/- The program's comparison of two trees; Valid and Encode. The program's Same, Valid and Encode. -/
import Derived.Test.YtdpnfojpeafdhaaDoorD8G
namespace Go.Proofs.YtdpnfojpeafdhaaDoor
open Go.RowKit
set_option linter.unusedVariables false

/-- Kids that lie in memory: three cells each. -/
structure Ks (w0 : World) (K : Option Addr) (m : Nat) (v0 v1 v2 : Nat → Value) (ks : List T) : Prop where
  len : ks.length = m
  cells : 0 < m → ∃ b o, K = some ⟨b, o, none⟩ ∧ ∀ i, i < m → w0.cell? ⟨b, o + i * 3, none⟩ = some (v0 i) ∧ w0.cell? ⟨b, o + i * 3 + 1, none⟩ = some (v1 i) ∧ w0.cell? ⟨b, o + i * 3 + 2, none⟩ = some (v2 i)
  shape : ∀ i, i < m → ∃ tag A n c K m d, v0 i = .int .u8 tag ∧ v1 i = .slice A n c ∧ v2 i = .slice K m d
def SameP (p : Prop) (w : World) (e : Ending) (w' : World) : Prop := ∃ r : Bool, e = .returned (.bool r) ∧ (r = true ↔ p) ∧ Past w w'

set_option maxHeartbeats 2000000 in
set_option maxRecDepth 100000 in
theorem eqf_any {w0 : World} {K K' : Option Addr} {m m' d d' : Nat} {v0 v1 v2 u0 u1 u2 : Nat → Value} {ks ks' : List T} (hA : Ks w0 K m v0 v1 v2 ks) (hB : Ks w0 K' m' u0 u1 u2 ks') (hm : m ≤ 1000000000)
    (ih : ∀ i, i < m → i < m' → ∀ w, Past w0 w → Calls Tryd.prog 34 #[.agg #[v0 i, v1 i, v2 i], .agg #[u0 i, u1 i, u2 i]] w (SameP (ks.getD i default = ks'.getD i default) w)) (w : World) (hw : Past w0 w) :
    Calls Tryd.prog 51 #[.slice K m d, .slice K' m' d', .func (.func 34) #[] #[]] w (SameP (ks = ks') w) := by
  have HA := Lib.hid hA
  have HB := Lib.hid hB
  have HIH := Lib.hid ih
  have HW := Lib.hid hw
  have eg : ∀ args w, (callFunc 34 args).run Tryd.prog w = .ok (.enter 34 args) w := enters_of Tryd.func34 (by kernel_rfl) rfl
  clear hA hB ih hw
  by_cases hmm : m = m'
  · subst hmm
    go_enter Tryd.func51, Tryd.ntmps51
    go_wp2_with fail
    go_loopg [7, 8, 9, 17] m (fun k _ _ _ s17 wx => ∃ i : Nat, i ≤ m ∧ k = m - i ∧ s17 = .int .i64 (i : Int) ∧ Hid (∀ l, l < i → ks.getD l default = ks'.getD l default) ∧ Hid (Past w wx))
    case atStart => exact ⟨0, Nat.zero_le _, rfl, rfl, fun l hl => absurd hl (Nat.not_lt_zero _), Below.refl _ _⟩
    case round =>
      obtain ⟨i, hi, hgk, rfl, HE, HP⟩ := hrel
      have HGK := Lib.hid hgk
      clear hgk
      by_cases hlt : i < m
      · obtain ⟨b, o, rfl, hcell⟩ := HA.out.cells (by omega)
        obtain ⟨b', o', rfl, hcell'⟩ := HB.out.cells (by omega)
        obtain ⟨q0, q1, q2⟩ := hcell i hlt
        obtain ⟨p0, p1, p2⟩ := hcell' i hlt
        have hpp := HW.out.trans' HP.out
        have c0 : wr.cell? ⟨b, o + i * 3, none⟩ = some (v0 i) := by rw [Below.cell hpp (cell_lt q0)]; exact q0
        have c1 : wr.cell? ⟨b, o + i * 3 + 1, none⟩ = some (v1 i) := by rw [Below.cell hpp (cell_lt q1)]; exact q1
        have c2 : wr.cell? ⟨b, o + i * 3 + 2, none⟩ = some (v2 i) := by rw [Below.cell hpp (cell_lt q2)]; exact q2
        have c3 : wr.cell? ⟨b', o' + i * 3, none⟩ = some (u0 i) := by rw [Below.cell hpp (cell_lt p0)]; exact p0
        have c4 : wr.cell? ⟨b', o' + i * 3 + 1, none⟩ = some (u1 i) := by rw [Below.cell hpp (cell_lt p1)]; exact p1
        have c5 : wr.cell? ⟨b', o' + i * 3 + 2, none⟩ = some (u2 i) := by rw [Below.cell hpp (cell_lt p2)]; exact p2
        have hkc := fun wz (hz : Past wr wz) => HIH.out i hlt hlt wz (hpp.trans' hz)
        obtain ⟨tg, kA, kn, kc, kK, km, kd, e0, e1, e2⟩ := HA.out.shape i hlt
        obtain ⟨tg', kA', kn', kc', kK', km', kd', e0', e1', e2'⟩ := HB.out.shape i hlt
        rw [e0, e1, e2, e0', e1', e2'] at hkc
        rw [e0] at c0
        rw [e1] at c1
        rw [e2] at c2
        rw [e0'] at c3
        rw [e1'] at c4
        rw [e2'] at c5
        have d3 := Lib.cell?_alloc_some (.cells #[.int .u8 tg, .slice kA kn kc, .slice kK km kd] 26) c3
        have d4 := Lib.cell?_alloc_some (.cells #[.int .u8 tg, .slice kA kn kc, .slice kK km kd] 26) c4
        have d5 := Lib.cell?_alloc_some (.cells #[.int .u8 tg, .slice kA kn kc, .slice kK km kd] 26) c5
        have HK := Lib.hid hkc
        clear hcell hcell' q0 q1 q2 p0 p1 p2 hpp hkc e0 e1 e2 e0' e1' e2'
        have hi0 : (0 : Int) ≤ (i : Int) := by omega
        have him : (i : Int) < (m : Int) := by omega
        go_wp2_with fail
        refine (HK.out _ ((past_alloc8 wr _).trans' (past_alloc8 _ _))).mono ?_
        rintro e w2 ⟨r, rfl, hr, hp'⟩
        have HP2 : Hid (Past w w2) := HP.out.trans' (((past_alloc8 wr _).trans' (past_alloc8 _ _)).trans' hp')
        have HRR := Lib.hid hr
        clear hp' HP HK hr d3 d4 d5 c0 c1 c2 c3 c4 c5
        cases r with
        | true =>
          have HE2 : Hid (∀ l, l < i + 1 → ks.getD l default = ks'.getD l default) := fun l hl => by
            by_cases he : l = i
            · subst he
              exact HRR.out.1 rfl
            · exact HE.out l (by omega)
          go_wp2_with fail
          go_roundg (m - (i + 1))
          case rel => exact ⟨i + 1, by omega, rfl, by go_num, HE2, HP2⟩
          case measure => have := HGK.out; omega
        | false =>
          have HF : Hid (¬ ks = ks') := fun h => by
            have h1 := HRR.out.2 (by rw [h])
            cases h1
          go_wp2_with fail
          go_ret
          exact ⟨false, rfl, ⟨(fun e => by cases e), fun e => absurd e HF.out⟩, HP2.out⟩
      · obtain rfl : i = m := by omega
        have hkk : Hid (ks = ks') := list_extT (by rw [HA.out.len, HB.out.len]) fun l hl => HE.out l (by rw [← HA.out.len]; exact hl)
        go_wp2_with fail
        go_ret
        exact ⟨true, rfl, ⟨fun _ => hkk.out, fun _ => rfl⟩, HP.out⟩
  · have HF : Hid (¬ ks = ks') := fun h => hmm (by rw [← HA.out.len, ← HB.out.len, h])
    have hne : ((m : Int) != (m' : Int)) = true := by simp; omega
    clear hmm
    go_enter Tryd.func51, Tryd.ntmps51
    go_wp2_with fail
    go_ret
    exact ⟨false, rfl, ⟨(fun e => by cases e), fun e => absurd e HF.out⟩, Below.refl _ _⟩

set_option maxHeartbeats 2000000 in
set_option maxRecDepth 100000 in
theorem same8_any {w0 : World} {v : Value} {t : T} (h : InM w0 v t) : ∀ v2 t2, InM w0 v2 t2 → ∀ w, Past w0 w → cnt t ≤ 1000000000 →
    Calls Tryd.prog 34 #[v, v2] w (SameP (t = t2) w) := by
  induction h with
  | mk v0 v1 v2 ht hb hl hm hd h0 hc hk ih =>
    rename_i tag A n c bytes K m d kids
    intro vv tt hh w hw hn
    cases hh with
    | mk u0 u1 u2 ht' hb' hl' hm' hd' h0' hc' hk' =>
      rename_i tag' A' n' c' bytes' K' m' d' kids'
      have hmb : m ≤ 1000000000 := by
        have := len_cntL kids 1
        have : cntL kids 1 ≤ 1000000000 := hn
        omega
      have hEQ := eqf_any (w0 := w0) (d := d) (d' := d') ⟨hl, hc, fun i hi => (hk i hi).shape⟩ ⟨hl', hc', fun i hi => (hk' i hi).shape⟩ hmb (fun i h1 h2 w hp => ih i h1 _ _ (hk' i h2) w hp (by have := cnt_kid kids i (by rw [hl]; exact h1); have : cntL kids 1 ≤ 1000000000 := hn; omega))
      have HEQ := Lib.hid hEQ
      have HSM := Lib.hid (fun w1 (hp : Past w0 w1) => same_any _ _ _ _ _ _ _ _ w1 (hb.past hp) (hb'.past hp))
      have HW := Lib.hid hw
      obtain ⟨wb, hwb⟩ : ∃ wb, wb = (w.alloc (.cells #[.int .u8 tag, .slice A n c, .slice K m d] 26)).alloc (.cells #[.int .u8 tag', .slice A' n' c', .slice K' m' d'] 26) := ⟨_, rfl⟩
      have HR : Hid (Past w wb ∧ Row wb w.heap.size 26 #[.int .u8 tag, .slice A n c, .slice K m d] ∧ Row wb (w.heap.size + 1) 26 #[.int .u8 tag', .slice A' n' c', .slice K' m' d']) := by
        rw [hwb]
        refine ⟨(past_alloc8 _ _).trans' (past_alloc8 _ _), (Row.new w _ _).alloc _, ?_⟩
        have := Row.new (w.alloc (.cells #[.int .u8 tag, .slice A n c, .slice K m d] 26)) 26 #[.int .u8 tag', .slice A' n' c', .slice K' m' d']
        simpa using this
      have f0 : wb.cell? ⟨w.heap.size, 0, none⟩ = some (.int .u8 tag) := HR.out.2.1.cell 0
      have f1 : wb.cell? ⟨w.heap.size, 1, none⟩ = some (.slice A n c) := HR.out.2.1.cell 1
      have f2 : wb.cell? ⟨w.heap.size, 2, none⟩ = some (.slice K m d) := HR.out.2.1.cell 2
      have f3 : wb.cell? ⟨w.heap.size + 1, 0, none⟩ = some (.int .u8 tag') := HR.out.2.2.cell 0
      have f4 : wb.cell? ⟨w.heap.size + 1, 1, none⟩ = some (.slice A' n' c') := HR.out.2.2.cell 1
      have f5 : wb.cell? ⟨w.heap.size + 1, 2, none⟩ = some (.slice K' m' d') := HR.out.2.2.cell 2
      subst hwb
      clear hn ih hc hc' hl hl' hk hk' hb hb' ht ht' hw hEQ
      by_cases e1 : tag = tag'
      · subst e1
        have e1b : (tag == tag) = true := by simp
        go_enter Tryd.func34, Tryd.ntmps34
        go_wp2_with fail
        clear f0 f3
        generalize (w.alloc (.cells #[.int .u8 tag, .slice A n c, .slice K m d] 26)).alloc (.cells #[.int .u8 tag, .slice A' n' c', .slice K' m' d'] 26) = wb at *
        generalize hg : w.heap.size = g at *
        refine (HSM.out _ (HW.out.trans' HR.out.1)).mono ?_
        rintro e w2 ⟨rfl, rfl⟩
        cases hsb : sameB bytes bytes' with
        | false =>
          have HF : Hid (¬ T.node tag bytes kids = T.node tag bytes' kids') := fun h => by
            rw [(node_eq.1 h).2.1, sameB_refl] at hsb
            cases hsb
          go_wp2_with fail
          go_ret
          exact ⟨false, rfl, ⟨(fun e => by cases e), fun e => absurd e HF.out⟩, HR.out.1⟩
        | true =>
          have HBB := Lib.hid (sameB_true hsb)
          clear hsb
          go_wp2_with fail
          refine (HEQ.out _ (HW.out.trans' HR.out.1)).mono ?_
          rintro e w3 ⟨r, rfl, hr, hp⟩
          have HFF : Hid ((r = true ↔ T.node tag bytes kids = T.node tag bytes' kids') ∧ Past w w3) := ⟨hr.trans ⟨fun h => node_eq.2 ⟨rfl, HBB.out, h⟩, fun h => (node_eq.1 h).2.2⟩, HR.out.1.trans' hp⟩
          clear hr hp
          go_wp2_with fail
          go_ret
          exact ⟨r, by cases r <;> rfl, HFF.out.1, HFF.out.2⟩
      · have HF : Hid (¬ T.node tag bytes kids = T.node tag' bytes' kids') := fun h => e1 (node_eq.1 h).1
        have e1b : (tag == tag') = false := by simpa using e1
        clear e1
        go_enter Tryd.func34, Tryd.ntmps34
        go_wp2_with fail
        go_ret
        exact ⟨false, rfl, ⟨(fun e => by cases e), fun e => absurd e HF.out⟩, HR.out.1⟩

end Go.Proofs.YtdpnfojpeafdhaaDoor

namespace Go.Proofs.YtdpnfojpeafdhaaDoor
open Go.RowKit
set_option linter.unusedVariables false

theorem InM.agg {w : World} {v : Value} {t : T} (h : InM w v t) : ∃ tag A n c K m d, v = .agg #[.int .u8 tag, .slice A n c, .slice K m d] := by
  cases h with
  | mk v0 v1 v2 ht hb hl hm hd h0 hc hk => exact ⟨_, _, _, _, _, _, _, rfl⟩

theorem dsame_any {v v2 : Value} {t t2 : T} {w : World} (h : InM w v t) (h2 : InM w v2 t2) (hn : cnt t ≤ 1000000000) : Calls Tryd.prog 15 #[v, v2] w (SameP (t = t2) w) := by
  have H := Lib.hid (fun w1 (hp : Past w w1) => same8_any h v2 t2 h2 w1 hp hn)
  obtain ⟨tag, A, n, c, K, m, d, rfl⟩ := h.agg
  obtain ⟨tag', A', n', c', K', m', d', rfl⟩ := h2.agg
  have HP : Hid (Past w ((w.alloc (.cells #[.int .u8 tag, .slice A n c, .slice K m d] 26)).alloc (.cells #[.int .u8 tag', .slice A' n' c', .slice K' m' d'] 26))) := (past_alloc8 _ _).trans' (past_alloc8 _ _)
  have r0 := (Row.new w 26 #[.int .u8 tag, .slice A n c, .slice K m d]).alloc (.cells #[.int .u8 tag', .slice A' n' c', .slice K' m' d'] 26)
  have f0 := r0.cell 0
  have f1 := r0.cell 1
  have f2 := r0.cell 2
  clear h h2 hn r0
  go_enter Tryd.func15, Tryd.ntmps15
  go_wp2_with fail
  refine (H.out _ HP.out).mono ?_
  rintro e w2 ⟨r, rfl, hr, hp⟩
  have HF : Hid ((r = true ↔ t = t2) ∧ Past w w2) := ⟨hr, HP.out.trans' hp⟩
  clear hr hp
  go_wp2_with fail
  go_ret
  exact ⟨r, rfl, HF.out.1, HF.out.2⟩

theorem okT_zero (t : T) : okA 0 t = okT t := by
  unfold okA okT
  rw [Nat.zero_add]
theorem valid_any {w0 w : World} {v : Value} {t : T} (h : InM w0 v t) (hw : Past w0 w) (hf : fits t) : Calls Tryd.prog 19 #[v] w fun e w' => e = .returned (.bool (okT t)) ∧ Past w w' := by
  have H := Lib.hid (fun w1 (hp : Past w w1) => size_any h 0 w1 (hw.trans' hp) (by omega) (by have := hf.2.1; omega) hf.2.2)
  obtain ⟨tag, A, n, c, K, m, d, rfl⟩ := h.agg
  have HO := Lib.hid (okT_zero t)
  clear h hw hf
  go_enter Tryd.func19, Tryd.ntmps19
  go_wp2_with fail
  refine (H.out _ (past_alloc8 _ _)).mono ?_
  rintro e w2 ⟨⟨k, rfl, _⟩, hp⟩
  rw [HO.out]
  have HF : Hid (Past w w2) := (past_alloc8 _ _).trans' hp
  clear hp
  go_wp2_with fail
  go_ret
  exact ⟨rfl, HF.out⟩

theorem encode_any {w : World} {v : Value} {t : T} (h : InM w v t) (hf : fits t) : Calls Tryd.prog 12 #[v] w (EncP t w) := by
  have HV := Lib.hid (fun w1 (hp : Past w w1) => valid_any h hp hf)
  have HE := Lib.hid (fun w1 (hp : Past w w1) (hs : shp t = true) => encoding_any h w1 hp (by have := hf.2.1; omega) hs hf.2.2)
  obtain ⟨tag, A, n, c, K, m, d, rfl⟩ := h.agg
  have HP : Hid (Past w (w.alloc (.cells #[.int .u8 tag, .slice A n c, .slice K m d] 26)) ∧ Row (w.alloc (.cells #[.int .u8 tag, .slice A n c, .slice K m d] 26)) w.heap.size 26 #[.int .u8 tag, .slice A n c, .slice K m d]) := ⟨past_alloc8 _ _, Row.new _ _ _⟩
  clear h hf
  cases hok : okT t with
  | false =>
    rw [hok] at HV
    have HO := Lib.hid hok
    clear hok
    go_enter Tryd.func12, Tryd.ntmps12
    go_wp2_with fail
    refine (HV.out _ HP.out.1).mono ?_
    rintro e w2 ⟨rfl, hp⟩
    have HF : Hid (Past w w2) := HP.out.1.trans' hp
    clear hp
    go_wp2_with fail
    go_ret2
    refine ⟨fun h => ?_, fun _ => ⟨none, 0, rfl, HF.out⟩⟩
    rw [HO.out] at h
    cases h
  | true =>
    rw [hok] at HV
    have HO := Lib.hid hok
    have HS : Hid (shp t = true) := (of_decide_eq_true hok).2.1
    clear hok
    go_enter Tryd.func12, Tryd.ntmps12
    go_wp2_with fail
    refine (HV.out _ HP.out.1).mono ?_
    rintro e w2 ⟨rfl, hp⟩
    have H2 : Hid (Past w w2 ∧ Row w2 w.heap.size 26 #[.int .u8 tag, .slice A n c, .slice K m d]) := ⟨HP.out.1.trans' hp, HP.out.2.past hp⟩
    clear hp HP
    have f0 : w2.cell? ⟨w.heap.size, 0, none⟩ = some (.int .u8 tag) := H2.out.2.cell 0
    have f1 : w2.cell? ⟨w.heap.size, 1, none⟩ = some (.slice A n c) := H2.out.2.cell 1
    have f2 : w2.cell? ⟨w.heap.size, 2, none⟩ = some (.slice K m d) := H2.out.2.cell 2
    go_wp2_with fail
    refine (HE.out _ H2.out.1 HS.out).mono ?_
    rintro e w3 ⟨B, q, rfl, hs, hp⟩
    have H3 : Hid (Sl w3 B (txt t).length q (txt t) ∧ Past w w3) := ⟨hs, H2.out.1.trans' hp⟩
    clear hs hp
    generalize hZ : (txt t).length = Z at *
    have HZ := Lib.hid hZ
    clear hZ
    go_wp2_with fail
    go_ret2
    refine ⟨fun _ => ⟨B, q, ?_, ?_, H3.out.2⟩, fun h => ?_⟩
    · rw [HZ.out]
      rfl
    · rw [HZ.out]
      exact H3.out.1
    · rw [HO.out] at h
      cases h

end Go.Proofs.YtdpnfojpeafdhaaDoor
