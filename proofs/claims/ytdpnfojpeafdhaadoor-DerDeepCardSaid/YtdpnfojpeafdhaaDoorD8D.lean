/- The size of a node's encoding, and whether a node is valid. -/
import Derived.Test.YtdpnfojpeafdhaaDoorD8C
namespace Go.Proofs.YtdpnfojpeafdhaaDoor
open Go.RowKit
set_option linter.unusedVariables false

/-- Whether a tree is valid below so many nodes. -/
def okA (above : Nat) (t : T) : Bool := decide (above + dep t ≤ 8 ∧ shp t = true ∧ (txt t).length ≤ 1048576)
theorem okB_has (tag : Int) (bs : List Int) (ks : List T) : okB tag bs ks = (tagB tag && hasB tag bs.length ks.length) := by
  unfold okB hasB
  cases simB tag <;> cases tagB tag <;> simp
  all_goals
    rw [Bool.eq_iff_iff]
    simp
    try exact List.length_pos_iff
theorem depL_kid (ks : List T) (i : Nat) (h : i < ks.length) : max (depL (ks.take i) 1) (1 + dep (ks.getD i default)) ≤ depL ks 1 := by
  rw [← depL_snoc, ← take_next ks i h]
  have h2 : ∀ (a b : List T) (x : Nat), depL a x ≤ depL (a ++ b) x := fun a b x => by
    have : ∀ (a b : List T) (x : Nat), depL (a ++ b) x = depL b (depL a x) := by
      intro a
      induction a with
      | nil => intro b x; simp [depL]
      | cons k a ih => intro b x; simp only [List.cons_append, depL]; exact ih b _
    rw [this]
    exact depL_one _ _
  have := h2 (ks.take (i + 1)) (ks.drop (i + 1)) 1
  rwa [List.take_append_drop] at this
theorem txt_length (tag : Int) (bs : List Int) (ks : List T) : (txt (.node tag bs ks)).length = 2 + furN (txtL ks bs).length + (txtL ks bs).length := by
  simp only [txt, headB, List.length_append, List.length_cons, lenB_len]
  omega
/-- A kid that is not valid makes the node invalid. -/
theorem okA_kid (above : Nat) (tag : Int) (bs : List Int) (ks : List T) (i : Nat) (h : i < ks.length) (hk : okA (above + 1) (ks.getD i default) = false) : okA above (.node tag bs ks) = false := by
  refine decide_eq_false fun ⟨h1, h2, h3⟩ => of_decide_eq_false hk ⟨?_, ?_, ?_⟩
  · have h4 : depL ks 1 = dep (.node tag bs ks) := rfl
    have := depL_kid ks i h
    omega
  · cases hs : shp (ks.getD i default) with
    | true => rfl
    | false =>
      have h5 : shp (.node tag bs ks) = (okB tag bs ks && shpL ks) := rfl
      rw [h5, shpL_at ks i h hs, Bool.and_false] at h2
      cases h2
  · have := txt_kid ks bs i h
    rw [txt_length] at h3
    omega

/-- What size hands back. -/
def SizeP (above : Nat) (t : T) (w : World) (e : Ending) (w' : World) : Prop :=
  (∃ k : Int, e = .returned (.tuple #[.int .i64 k, .bool (okA above t)]) ∧ (okA above t = true → k = ((txt t).length : Int))) ∧ Past w w'
/-- What the loop over the kids has found so far. -/
structure Sz (above : Nat) (bytes : List Int) (kids : List T) (i : Nat) : Prop where
  shp : shpL (kids.take i) = true
  dep : above + depL (kids.take i) 1 ≤ 8
  len : i = 0 ∨ (txtL (kids.take i) bytes).length ≤ 1048576

set_option maxHeartbeats 4000000 in
set_option maxRecDepth 100000 in
theorem size_any {w0 : World} {v : Value} {t : T} (h : InM w0 v t) : ∀ (above : Nat) (w : World), Past w0 w → above ≤ 8 → cnt t ≤ 1000000000 → (txt t).length ≤ 10000000 →
    Calls Tryd.prog 36 #[v, .int .i64 (above : Int)] w (SizeP above t w) := by
  induction h with
  | mk v0 v1 v2 ht hb hl hm hd h0 hc hk ih =>
    rename_i tag A n c bytes K m d kids
    intro above w hw hab hn htx
    have hmb : m ≤ 1000000000 := by
      have := len_cntL kids 1
      have : cntL kids 1 ≤ 1000000000 := hn
      omega
    have hbl := hb.len
    have HTX := Lib.hid htx
    have htl := txt_length tag bytes kids
    have hnl : n ≤ 10000000 := by have := txtL_le kids bytes; omega
    have HTL := Lib.hid htl
    have HBL := Lib.hid hbl
    have HN : Hid (cntL kids 1 ≤ 1000000000) := hn
    have HIH := Lib.hid ih
    have HKS := Lib.hid (fun i hi => (hk i hi).shape)
    have HC := Lib.hid hc
    have HL := Lib.hid hl
    have HR : Hid (Past w (w.alloc (.cells #[.int .u8 tag, .slice A n c, .slice K m d] 26)) ∧ Row (w.alloc (.cells #[.int .u8 tag, .slice A n c, .slice K m d] 26)) w.heap.size 26 #[.int .u8 tag, .slice A n c, .slice K m d]) := ⟨past_alloc8 _ _, Row.new _ _ _⟩
    have HW := Lib.hid hw
    have HOB : Hid (shp (.node tag bytes kids) = (tagB tag && hasB tag n m && shpL kids)) := by
      show _ = _
      rw [show shp (.node tag bytes kids) = (okB tag bytes kids && shpL kids) from rfl, okB_has, hbl, hl]
    have HD : Hid (dep (T.node tag bytes kids) = depL kids 1) := rfl
    have HTG := Lib.hid (fun w => isTag_any tag w ht.1 ht.2)
    have HHI := Lib.hid (fun w => hasIts_any tag A K n c m d w ht.1 ht.2)
    have HD1 := Lib.hid (depL_one kids 1)
    clear hn ih hc hl hk hb ht hw htx htl hbl
    go_enter Tryd.func36, Tryd.ntmps36
    by_cases ha8 : above = 8
    · have hge : (8 : Int) ≤ (above : Int) := by omega
      have HF : Hid (okA above (.node tag bytes kids) = false) := decide_eq_false fun h => by have := HD.out; have := HD1.out; omega
      clear HTG HHI
      go_wp2_with fail
      go_ret2
      exact ⟨⟨0, by rw [HF.out]; rfl, fun e => by rw [HF.out] at e; cases e⟩, HR.out.1⟩
    have hge : ¬ (8 : Int) ≤ (above : Int) := by omega
    cases htg : tagB tag with
    | false =>
      have HF : Hid (okA above (.node tag bytes kids) = false) := decide_eq_false fun h => by have := h.2.1; rw [HOB.out, htg] at this; cases this
      rw [htg] at HTG
      clear HHI
      go_wp2_with fail
      generalize w.alloc (.cells #[.int .u8 tag, .slice A n c, .slice K m d] 26) = w1 at *
      refine (HTG.out _).mono ?_
      rintro e w2 ⟨rfl, rfl⟩
      go_wp2_with fail
      go_ret2
      exact ⟨⟨0, by rw [HF.out]; rfl, fun e => by rw [HF.out] at e; cases e⟩, HR.out.1⟩
    | true =>
      rw [htg] at HTG
      go_wp2_with fail
      generalize w.alloc (.cells #[.int .u8 tag, .slice A n c, .slice K m d] 26) = w1 at *
      generalize hg : w.heap.size = g at *
      have HG := Lib.hid hg
      clear hg
      refine (HTG.out _).mono ?_
      rintro e w2 ⟨rfl, rfl⟩
      have f0 : w1.cell? ⟨g, 0, none⟩ = some (.int .u8 tag) := HR.out.2.cell 0
      have f1 : w1.cell? ⟨g, 1, none⟩ = some (.slice A n c) := HR.out.2.cell 1
      have f2 : w1.cell? ⟨g, 2, none⟩ = some (.slice K m d) := HR.out.2.cell 2
      go_wp2_with fail
      refine (HHI.out _).mono ?_
      rintro e w2 ⟨rfl, hp⟩
      have H2 : Hid (Past w w2 ∧ Row w2 g 26 #[.int .u8 tag, .slice A n c, .slice K m d]) := ⟨HR.out.1.trans' hp, HR.out.2.past hp⟩
      clear hp HR HTG HHI f0 f1 f2
      cases hhs : hasB tag n m with
      | false =>
        have HF : Hid (okA above (.node tag bytes kids) = false) := decide_eq_false fun h => by have := h.2.1; rw [HOB.out, hhs, Bool.and_false, Bool.false_and] at this; cases this
        go_wp2_with fail
        go_ret2
        exact ⟨⟨0, by rw [HF.out]; rfl, fun e => by rw [HF.out] at e; cases e⟩, H2.out.1⟩
      | true =>
        have HS : Hid (shp (.node tag bytes kids) = shpL kids) := by
          show _ = _
          rw [HOB.out, htg, hhs]
          rfl
        clear HOB hhs htg
        have f1 : w2.cell? ⟨g, 1, none⟩ = some (.slice A n c) := H2.out.2.cell 1
        have f2 : w2.cell? ⟨g, 2, none⟩ = some (.slice K m d) := H2.out.2.cell 2
        have H0 : Hid (Sz above bytes kids 0) := ⟨rfl, by show above + depL [] 1 ≤ 8; simp only [depL]; omega, .inl rfl⟩
        have hl0 : (txtL (kids.take 0) bytes).length = n := HBL.out
        have HL0 := Lib.hid hl0
        clear hl0
        go_wp2_with fail
        go_loopg [6, 8, 9, 10, 31] m (fun k s6 _ _ _ s31 wx => ∃ i : Nat, i ≤ m ∧ k = m - i ∧ s6 = .int .i64 ((txtL (kids.take i) bytes).length : Int) ∧ s31 = .int .i64 (i : Int) ∧ Hid (Sz above bytes kids i) ∧ Hid (Past w wx))
        case atStart => exact ⟨0, Nat.zero_le _, rfl, by rw [HL0.out], rfl, H0, H2.out.1⟩
        case round =>
          clear H0 H2 HL0
          obtain ⟨i, hi, hgk, rfl, rfl, HZ, HP⟩ := hrel
          have HGK := Lib.hid hgk
          clear hgk f1 f2
          by_cases hlt : i < m
          · obtain ⟨b, o, rfl, hcell⟩ := HC.out (by omega)
            obtain ⟨q0, q1, q2⟩ := hcell i hlt
            have hpp := HW.out.trans' HP.out
            have c0 : wr.cell? ⟨b, o + i * 3, none⟩ = some (v0 i) := by rw [Below.cell hpp (cell_lt q0)]; exact q0
            have c1 : wr.cell? ⟨b, o + i * 3 + 1, none⟩ = some (v1 i) := by rw [Below.cell hpp (cell_lt q1)]; exact q1
            have c2 : wr.cell? ⟨b, o + i * 3 + 2, none⟩ = some (v2 i) := by rw [Below.cell hpp (cell_lt q2)]; exact q2
            have hck := cnt_kid kids i (by rw [HL.out]; exact hlt)
            have htk := txt_kid kids bytes i (by rw [HL.out]; exact hlt)
            have hkt : (txt (kids.getD i default)).length ≤ 10000000 := by have := HTL.out; have := HTX.out; omega
            have hcs : (txtL (kids.take i) bytes).length ≤ 10000000 := by have := HTL.out; have := HTX.out; omega
            have hkc := fun wz (hz : Past wr wz) => HIH.out i hlt (above + 1) wz (hpp.trans' hz) (by omega) (by have := HN.out; omega) hkt
            obtain ⟨tg, kA, kn, kc, kK, km, kd, e0, e1, e2⟩ := HKS.out i hlt
            rw [e0, e1, e2] at hkc
            rw [e0] at c0
            rw [e1] at c1
            rw [e2] at c2
            clear e0 e1 e2
            rw [show ((above + 1 : Nat) : Int) = (above : Int) + 1 by omega] at hkc
            have HK := Lib.hid hkc
            have HTS : Hid ((txtL (kids.take (i + 1)) bytes).length = (txtL (kids.take i) bytes).length + (txt (kids.getD i default)).length) := by
              show _ = _
              rw [take_next kids i (by rw [HL.out]; exact hlt), txtL_snoc, List.length_append]
            have HTK := Lib.hid htk
            clear hcell q0 q1 q2 hpp hck hkc htk
            have hi0 : (0 : Int) ≤ (i : Int) := by omega
            have him : (i : Int) < (m : Int) := by omega
            generalize hcc : (txtL (kids.take i) bytes).length = cc at *
            have HCC := Lib.hid hcc
            clear hcc
            go_wp2_with fail
            refine (HK.out _ (past_alloc8 wr _)).mono ?_
            rintro e w3 ⟨⟨k, rfl, hkv⟩, hp'⟩
            have HP3 : Hid (Past w w3) := HP.out.trans' ((past_alloc8 wr _).trans' hp')
            have HKV := Lib.hid hkv
            clear hkv hp' HP HK
            cases hok : okA (above + 1) (kids.getD i default) with
            | false =>
              have HF : Hid (okA above (.node tag bytes kids) = false) := okA_kid above tag bytes kids i (by rw [HL.out]; exact hlt) hok
              clear HKV hkt
              go_wp2_with fail
              go_ret2
              exact ⟨⟨0, by rw [HF.out]; rfl, fun e => by rw [HF.out] at e; cases e⟩, HP3.out⟩
            | true =>
              obtain rfl := HKV.out hok
              have HOK := of_decide_eq_true hok
              clear HKV hok
              generalize hkk : (txt (kids.getD i default)).length = kk at *
              have HKK := Lib.hid hkk
              clear hkk
              by_cases hbig : 1048576 < cc + kk
              · have hbi : (1048576 : Int) < (cc : Int) + (kk : Int) := by omega
                have HF : Hid (okA above (.node tag bytes kids) = false) := decide_eq_false fun h => by have := h.2.2; have := HTL.out; have := HTK.out; omega
                clear HOK hbig
                go_wp2_with fail
                go_ret2
                exact ⟨⟨0, by rw [HF.out]; rfl, fun e => by rw [HF.out] at e; cases e⟩, HP3.out⟩
              · have hbi : ¬ (1048576 : Int) < (cc : Int) + (kk : Int) := by omega
                have HZ2 : Hid (Sz above bytes kids (i + 1)) := by
                  refine Lib.hid ⟨?_, ?_, .inr (by rw [HTS.out]; omega)⟩
                  · rw [take_next kids i (by rw [HL.out]; exact hlt), shpL_snoc, HZ.out.shp, HOK.2.1]
                    rfl
                  · rw [take_next kids i (by rw [HL.out]; exact hlt), depL_snoc]
                    have := HZ.out.dep
                    omega
                clear HOK hbig HZ
                go_wp2_with fail
                go_roundg (m - (i + 1))
                case rel => exact ⟨i + 1, by omega, rfl, by rw [HTS.out]; rfl, by go_num, HZ2, HP3⟩
                case measure => have := HGK.out; omega
          · obtain rfl : i = m := by omega
            have he : Hid (kids.take i = kids) := by
              show _ = _
              rw [List.take_of_length_le (by rw [HL.out]; exact Nat.le_refl _)]
            rw [he.out]
            have hcb : (txtL kids bytes).length ≤ 10000000 := by have := HTL.out; have := HTX.out; omega
            have hfl := furN_le (txtL kids bytes).length (by omega)
            have HFU := Lib.hid (fun w => further_any (txtL kids bytes).length (by omega) w)
            have HZD : Hid (above + depL kids 1 ≤ 8) := by have := HZ.out.dep; rwa [he.out] at this
            have HZS : Hid (shpL kids = true) := by have := HZ.out.shp; rwa [he.out] at this
            have HTT := Lib.hid HTL.out
            have HOKE : Hid (okA above (.node tag bytes kids) = decide ((2 : Int) + (furN (txtL kids bytes).length : Int) + ((txtL kids bytes).length : Int) ≤ 1048576)) := by
              refine Lib.hid (decide_eq_decide.2 ⟨fun h => by have := h.2.2; have := HTT.out; omega, fun h => ⟨by rw [HD.out]; exact HZD.out, by rw [HS.out]; exact HZS.out, by rw [HTT.out]; omega⟩⟩)
            clear HZ he HTL HTX
            generalize furN (txtL kids bytes).length = ff at *
            generalize (txtL kids bytes).length = cc at *
            go_wp2_with fail
            refine (HFU.out _).mono ?_
            rintro e w3 ⟨rfl, rfl⟩
            go_wp2_with fail
            go_ret2
            exact ⟨⟨_, by rw [HOKE.out]; rfl, fun _ => by rw [HTT.out]; omega⟩, HP.out⟩

end Go.Proofs.YtdpnfojpeafdhaaDoor
