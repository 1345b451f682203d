/- For every tree of bulk at most the bound of the second form and every number the law CborGets of package pyxlaw10 returns true and leaves its arguments alone, where the library's variables hold what the program's text lays. -/
import Derived.Test.YtmhgpdfllpgjpaaDoorGet10
namespace Go.Proofs.YtmhgpdfllpgjpaaDoor.cborGets
open Go.RowKit Go.ChangeShapes Go.WideShapes Go.ChangeAt
set_option linter.unusedVariables false

set_option maxHeartbeats 16000000 in
set_option maxRecDepth 100000 in
theorem walk (x y z u : Value) (t : T) (key : Int) (w : World) (hin : InM w (.agg #[x, y, z, u]) t) (hb : cnt t ≤ 1048576) (hw0 : (Lit.int .i64 key).wf = true) (hG : Glob10 w) :
    Calls Tryd.prog 6 #[.agg #[x, y, z, u], .int .i64 key] w fun e w' => e = .returned (.bool true) ∧ Past w w' := by
  have hkey := bounds_i64 hw0
  replace hkey : -9223372036854775808 ≤ key ∧ key < 9223372036854775808 := by omega
  have HA := Lib.hid (fun w hG => awake10 w hG)
  have HG := Lib.hid hG
  have HF := Lib.hid (fun w1 (hp : Past w w1) => rfew_any hin w1 hp (by omega))
  have HRI : Hid (∀ w1, Calls Tryd.prog 24 #[.int .i64 key] w1 fun e w' => e = .returned (intV key) ∧ Past w1 w') := Lib.hid (fun w1 => rint10_any key w1 hkey)
  have HIN := Lib.hid (fun w1 => intV_in key w1 hkey)
  have HKY := Lib.hid hkey
  cases hin with
  | mk v0 v1 v2 v3 ht hu hbs hl hm hd h0 hc hk =>
  rename_i kd nm A n c bytes K m d kids
  have hin : InM w (.agg #[.int .i64 kd, .int .u64 nm, .slice A n c, .slice K m d]) (.node kd nm bytes kids) := .mk v0 v1 v2 v3 ht hu hbs hl hm hd h0 hc hk
  have HI := Lib.hid hin
  have HC := Lib.hid hc
  have HK := Lib.hid hk
  have HL := Lib.hid hl
  have HT := Lib.hid (And.intro ht hu)
  obtain ⟨w0, hw0'⟩ : ∃ w0, w0 = w.alloc (.cells #[.int .i64 kd, .int .u64 nm, .slice A n c, .slice K m d] 34) := ⟨_, rfl⟩
  have hp0 : Past w w0 := by rw [hw0']; exact past_alloc8 _ _
  obtain ⟨g, hg⟩ : ∃ g, w.heap.size = g := ⟨_, rfl⟩
  have H0 : Hid (Past w w0 ∧ Bi w0 g kd nm A n c K m d (.node kd nm bytes kids)) := by
    refine Lib.hid ⟨hp0, ?_, hin.past hp0⟩
    rw [hw0', ← hg]
    exact Row.new _ _ _
  have HW0 := Lib.hid hw0'
  have HGG := Lib.hid hg
  have hmb : (m : Int) ≤ 1048576 := by
    have h1 := len_cntL kids (1 + bytes.length)
    have h2 : cntL kids (1 + bytes.length) ≤ 1048576 := hb
    omega
  clear hw0' hp0 hg hG hin hc hk hl ht hu hbs h0 hkey hw0 hm hd
  go_enter Tryd.func6, Tryd.ntmps6
  go_upto_region 1 with (fail)
  rw [← HW0.out]
  try rw [HGG.out]
  clear HW0
  go_wp2_with fail
  refine (HA.out _ (HG.out.past H0.out.1)).mono ?_
  rintro e w1 ⟨rfl, hp⟩
  have H1 : Hid (Past w w1 ∧ Bi w1 g kd nm A n c K m d (.node kd nm bytes kids)) := Lib.hid ⟨H0.out.1.trans' hp, H0.out.2.later hp⟩
  clear hp H0
  have x0 : w1.cell? ⟨g, 0, none⟩ = some (.int .i64 kd) := H1.out.2.row.cell 0
  have x1 : w1.cell? ⟨g, 1, none⟩ = some (.int .u64 nm) := H1.out.2.row.cell 1
  have x2 : w1.cell? ⟨g, 2, none⟩ = some (.slice A n c) := H1.out.2.row.cell 2
  have x3 : w1.cell? ⟨g, 3, none⟩ = some (.slice K m d) := H1.out.2.row.cell 3
  go_wp2_with fail
  refine (HF.out _ H1.out.1).mono ?_
  rintro e w2 ⟨rfl, hp⟩
  have H2 : Hid (Past w w2 ∧ Bi w2 g kd nm A n c K m d (.node kd nm bytes kids)) := Lib.hid ⟨H1.out.1.trans' hp, H1.out.2.later hp⟩
  clear hp H1 x0 x1 x2 x3
  cases hf : fewB (.node kd nm bytes kids) with
  | false =>
    clear hf HF
    go_wp2_with fail
    refine (HA.out _ (HG.out.past H2.out.1)).mono ?_
    rintro e w3 ⟨rfl, hp⟩
    have H3 := Lib.hid (H2.out.1.trans' hp)
    clear hp H2
    go_wp2_with fail
    go_ret
    exact ⟨rfl, H3.out⟩
  | true =>
    have hcn : cnt (.node kd nm bytes kids) ≤ 3000 := (of_decide_eq_true hf).2
    have HCN := Lib.hid hcn
    clear hf hcn HF hb HA
    obtain ⟨w3, hw3⟩ : ∃ w3, w3 = w2.alloc (.cells #[.int .i64 0, .int .u64 0, .slice none 0 0, .slice none 0 0] 34) := ⟨_, rfl⟩
    have hp3 : Past w2 w3 := by rw [hw3]; exact past_alloc8 _ _
    obtain ⟨gw, hgw⟩ : ∃ gw, w2.heap.size = gw := ⟨_, rfl⟩
    have H3 : Hid (Gl w w3 g gw kd nm A n c K m d 0 0 none 0 0 none 0 0 none) := by
      refine Lib.hid ⟨H2.out.1.trans' hp3, H2.out.2.row.past hp3, ?_, zero4_in w, by rw [HGG.out]; exact Nat.le_refl _, ?_⟩
      · rw [hw3, ← hgw]
        exact Row.new _ _ _
      · rw [← hgw]
        exact Row.lt H2.out.2.row
    have HW3 := Lib.hid hw3
    have HGW := Lib.hid hgw
    clear hw3 hp3 hgw H2 HGG
    go_upto_region 5 with (fail)
    rw [← HW3.out]
    try rw [HGW.out]
    clear HW3 HGW
    go_upto_block 0 with (fail)
    go_cut [6] (fun s6 wx => ∃ (o : Option T) (kd2 nm2 : Int) (A2 : Option Addr) (n2 c2 : Nat) (K2 : Option Addr) (m2 d2 : Nat), s6 = .bool o.isSome ∧ Hid (GetT (.node kd nm bytes kids) (intT key) o ∧ Gl w wx g gw kd nm A n c K m d kd2 nm2 A2 n2 c2 K2 m2 d2 o))
    case first =>
      go_wp2_with fail
      go_loopg [6, 7] m (fun q s6 s7 wx => ∃ (i : Nat) (o : Option T) (kd2 nm2 : Int) (A2 : Option Addr) (n2 c2 : Nat) (K2 : Option Addr) (m2 d2 : Nat), q = m - i ∧ s6 = .bool o.isSome ∧ s7 = .int .i64 (i : Int) ∧ Hid (i ≤ m + 1 ∧ Li kids (intT key) kd i o) ∧ Hid (Gl w wx g gw kd nm A n c K m d kd2 nm2 A2 n2 c2 K2 m2 d2 o))
      case atStart => exact ⟨0, none, 0, 0, none, 0, 0, none, 0, 0, rfl, rfl, rfl, Lib.hid ⟨Nat.zero_le _, Li.start _ _ _⟩, H3⟩
      case round =>
        clear H3
        obtain ⟨i, o, kd2, nm2, A2, n2, c2, K2, m2, d2, hgk, rfl, rfl, HLi, HQ⟩ := hrel
        have HGK := Lib.hid hgk
        have him := HLi.out.1
        have hii : (i : Int) ≤ 1048577 := by omega
        clear hgk him
        have f0 : wr.cell? ⟨g, 0, none⟩ = some (.int .i64 kd) := HQ.out.rg.cell 0
        have f3 : wr.cell? ⟨g, 3, none⟩ = some (.slice K m d) := HQ.out.rg.cell 3
        by_cases h5 : kd = 5
        · have h5b : (kd == 5) = true := by simp [h5]
          have H5 := Lib.hid h5
          clear h5
          obtain ⟨k1, hk1⟩ : ∃ k1 : Nat, k1 = i + 1 := ⟨_, rfl⟩
          have hk1i : (i : Int) + 1 = (k1 : Int) := by omega
          have hk1b : (k1 : Int) ≤ 1048578 := by omega
          have HK1 := Lib.hid hk1
          have hw1 : wrap64 (k1 : Int) = (k1 : Int) := by unfold wrap64; omega
          have hw2 : IntKind.i64.wrap (k1 : Int) = (k1 : Int) := by rw [IntKind.wrap_i64]; omega
          by_cases hlt : k1 < m
          · have hli : (k1 : Int) < (m : Int) := by omega
            cases o with
            | some v =>
              have hs1 : (some v).isSome = true := rfl
              rw [hs1]
              have HX : Hid (GetT (.node kd nm bytes kids) (intT key) (some v)) := Lib.hid (HLi.out.2.out (.inr (.inl rfl)))
              clear hk1 hlt hs1
              go_wp2_with fail
              go_meet
              case rel => exact ⟨some v, kd2, nm2, A2, n2, c2, K2, m2, d2, rfl, Lib.hid ⟨HX.out, HQ.out⟩⟩
            | none =>
              have hs1 : (none : Option T).isSome = false := rfl
              rw [hs1]
              have hlt' : i < m := by omega
              have hlti : (i : Int) < (m : Int) := by omega
              obtain ⟨b, o, rfl, hcell⟩ := HC.out (by omega)
              have HCI := Lib.hid (hcell i hlt')
              have HCK := Lib.hid (hcell k1 hlt)
              have HNI : Hid (InM w (.agg #[v0 i, v1 i, v2 i, v3 i]) (kids.getD i default)) := Lib.hid (HK.out i hlt')
              have HNK : Hid (InM w (.agg #[v0 k1, v1 k1, v2 k1, v3 k1]) (kids.getD k1 default)) := Lib.hid (HK.out k1 hlt)
              have HLT := Lib.hid (And.intro hlt' hlt)
              have HCT : Hid (cnt (kids.getD i default) ≤ 3000) := Lib.hid (by
                have h1 := cnt_kid kids (1 + bytes.length) i (by rw [HL.out]; exact hlt')
                have h2 : cntL kids (1 + bytes.length) ≤ 3000 := HCN.out
                omega)
              obtain ⟨ti, hti⟩ : ∃ ti, kids.getD i default = ti := ⟨_, rfl⟩
              rw [hti] at HNI HCT
              have HTI := Lib.hid hti
              obtain ⟨tk, htk⟩ : ∃ tk, kids.getD k1 default = tk := ⟨_, rfl⟩
              rw [htk] at HNK
              have HTK := Lib.hid htk
              obtain ⟨a0, a1, a2, a3, ha⟩ : ∃ a0 a1 a2 a3, v0 i = a0 ∧ v1 i = a1 ∧ v2 i = a2 ∧ v3 i = a3 := ⟨_, _, _, _, rfl, rfl, rfl, rfl⟩
              rw [ha.1, ha.2.1, ha.2.2.1, ha.2.2.2] at HCI HNI
              obtain ⟨e0, e1, e2, e3, he⟩ : ∃ e0 e1 e2 e3, v0 k1 = e0 ∧ v1 k1 = e1 ∧ v2 k1 = e2 ∧ v3 k1 = e3 := ⟨_, _, _, _, rfl, rfl, rfl, rfl⟩
              rw [he.1, he.2.1, he.2.2.1, he.2.2.2] at HCK HNK
              obtain ⟨kd3, nm3, A3, n3, c3, K3, m3, d3, rfl, rfl, rfl, rfl⟩ := HNK.out.shape
              clear hti htk ha he hcell hlt hlt' hk1 HC HK hs1
              have HSK : Hid (∀ w', Past wr w' → (w'.cell? ⟨g, 3, none⟩ = some (.slice (some ⟨b, o, none⟩) m d) ∧ w'.cell? ⟨b, o + i * 4, none⟩ = some a0 ∧ w'.cell? ⟨b, o + i * 4 + 1, none⟩ = some a1 ∧ w'.cell? ⟨b, o + i * 4 + 2, none⟩ = some a2 ∧ w'.cell? ⟨b, o + i * 4 + 3, none⟩ = some a3)) := by
                refine Lib.hid fun w' hp => ?_
                have q := HQ.out.rg.past hp
                have q2 := kid_cells HCI.out (HQ.out.past.trans' hp)
                exact ⟨q.cell 3, q2.1, q2.2.1, q2.2.2.1, q2.2.2.2⟩
              have HPD : Hid (Past wr wr.drew) := Lib.hid (Past.drewN (Below.refl _ wr) 1)
              go_upto_region 8 with (fail)
              first | (go_region_held3 (fun w' => w'.cell? ⟨g, 3, none⟩ = some (.slice (some ⟨b, o, none⟩) m d) ∧ w'.cell? ⟨b, o + i * 4, none⟩ = some a0 ∧ w'.cell? ⟨b, o + i * 4 + 1, none⟩ = some a1 ∧ w'.cell? ⟨b, o + i * 4 + 2, none⟩ = some a2 ∧ w'.cell? ⟨b, o + i * 4 + 3, none⟩ = some a3)
                (first
                | exact HSK.out _ HP7.out
                | exact HSK.out _ HP6.out
                | exact HSK.out _ HPD.out)
                (first
                | (go_at_call 24; (with_reducible refine (HRI.out _).mono ?_); rintro e6 w6 ⟨rfl, hp6⟩; have HP6 : Hid (Past wr w6) := Lib.hid (HPD.out.trans' hp6); clear hp6)
                | (go_at_call 12; (with_reducible refine (rsame10_any (HNI.out.past (HQ.out.past.trans' HP6.out)) _ _ (HIN.out _) _ (Below.refl _ _) (by have := HCT.out; omega)).mono ?_); rintro e7 w7 ⟨r, rfl, hr, hp7⟩; have HP7 : Hid (Past wr w7) := Lib.hid (HP6.out.trans' hp7); have HR7 := Lib.hid hr; clear hr hp7))) | fail
              all_goals
                have HQ7 := Lib.hid (HQ.out.later HP7.out)
                cases r with
                | false =>
                  have HN : Hid (Li kids (intT key) kd (i + 2) none) := Lib.hid (HLi.out.2.next (by rw [HTI.out]; exact fun he => by have := HR7.out.2 he; cases this))
                  clear HSK HQ f0 f3
                  go_wp2_with fail
                  go_roundg (m - (i + 2))
                  case rel => exact ⟨i + 2, none, kd2, nm2, A2, n2, c2, K2, m2, d2, rfl, rfl, by go_num, Lib.hid ⟨by have := HLT.out; have := HK1.out; omega, HN.out⟩, HQ7⟩
                  case measure => have := HGK.out; have := HLT.out; omega
                | true =>
                  have HN : Hid (Li kids (intT key) kd (i + 2) (some tk)) := Lib.hid (by
                    have h := HLi.out.2.found H5.out (by rw [HL.out]; have := HLT.out; have := HK1.out; omega) (by rw [HTI.out]; exact HR7.out.1 rfl)
                    rw [← HK1.out, HTK.out] at h
                    exact h)
                  have HS := Lib.hid (HQ7.out.store HNK.out)
                  have hrw := HQ7.out.rr
                  have hi2 := nodeR #[.int .i64 kd3, .int .u64 nm3, .slice A3 n3 c3, .slice K3 m3 d3] rfl
                  have ho2 : (#[.int .i64 kd3, .int .u64 nm3, .slice A3 n3 c3, .slice K3 m3 d3] : Array Value).all (·.oneCell') = true := by simp [Value.oneCell']
                  have f3' : w7.cell? ⟨g, 3, none⟩ = some (.slice (some ⟨b, o, none⟩) m d) := HQ7.out.rg.cell 3
                  obtain ⟨y0, y1, y2, y3⟩ := kid_cells HCK.out HQ7.out.past
                  clear HSK HQ f0 f3
                  go_wp2_with (refine wpList_store_row rfl 34 _ _ rfl gw _ rfl rfl _ _ hrw hi2 rfl ho2 ?_)
                  go_roundg (m - (i + 2))
                  case rel => exact ⟨i + 2, some tk, kd3, nm3, A3, n3, c3, K3, m3, d3, rfl, rfl, by go_num, Lib.hid ⟨by have := HLT.out; have := HK1.out; omega, HN.out⟩, HS⟩
                  case measure => have := HGK.out; have := HLT.out; omega
          · have hli : ¬ (k1 : Int) < (m : Int) := by omega
            have HX : Hid (GetT (.node kd nm bytes kids) (intT key) o) := Lib.hid (HLi.out.2.out (.inr (.inr (by rw [HL.out]; omega))))
            clear hk1 hlt
            go_wp2_with fail
            go_meet
            case rel => exact ⟨o, kd2, nm2, A2, n2, c2, K2, m2, d2, rfl, Lib.hid ⟨HX.out, HQ.out⟩⟩
        · have HX : Hid (GetT (.node kd nm bytes kids) (intT key) o) := Lib.hid (HLi.out.2.out (.inl h5))
          have h5b : (kd == 5) = false := by simp [h5]
          go_wp2_with fail
          go_meet
          case rel => exact ⟨o, kd2, nm2, A2, n2, c2, K2, m2, d2, rfl, Lib.hid ⟨HX.out, HQ.out⟩⟩
    case rest =>
      obtain ⟨o, kd2, nm2, A2, n2, c2, K2, m2, d2, rfl, HCUT⟩ := hcut
      have HO := Lib.hid HCUT.out.1
      have HQ := Lib.hid HCUT.out.2
      clear HCUT H3 HC HK HRI HIN
      have x0 : wc.cell? ⟨g, 0, none⟩ = some (.int .i64 kd) := HQ.out.rg.cell 0
      have x1 : wc.cell? ⟨g, 1, none⟩ = some (.int .u64 nm) := HQ.out.rg.cell 1
      have x2 : wc.cell? ⟨g, 2, none⟩ = some (.slice A n c) := HQ.out.rg.cell 2
      have x3 : wc.cell? ⟨g, 3, none⟩ = some (.slice K m d) := HQ.out.rg.cell 3
      go_wp2_with fail
      refine (given_any (HI.out.past HQ.out.past) _ (Below.refl _ _) (by have := HCN.out; omega)).mono ?_
      rintro e w4 ⟨xa, ya, za, ua, rfl, hp, hlv⟩
      have hin4 := hlv w4 (fun _ _ => rfl)
      have HQ4 := Lib.hid (HQ.out.later hp)
      have HGE := Lib.hid (get_any hin4 key HKY.out (by have := HCN.out; omega))
      clear hp hlv hin4 HQ x0 x1 x2 x3
      go_wp2_with fail
      refine HGE.out.mono ?_
      rintro e w5 ⟨o', x, y, z, u, ho', rfl, hin5, hp⟩
      obtain rfl := (GetT.uniq' HO.out ho').symm
      obtain ⟨kd3, nm3, A3, n3, c3, K3, m3, d3, rfl, rfl, rfl, rfl⟩ := hin5.shape
      obtain ⟨w6, hw6⟩ : ∃ w6, w6 = w5.alloc (.cells #[.int .i64 kd3, .int .u64 nm3, .slice A3 n3 c3, .slice K3 m3 d3] 27) := ⟨_, rfl⟩
      have hp6 : Past w5 w6 := by rw [hw6]; exact past_alloc8 _ _
      have hby := bx_new hin5 hw6
      obtain ⟨vb, hvb⟩ : ∃ vb, w5.heap.size = vb := ⟨_, rfl⟩
      rw [hvb] at hby
      have H6 : Hid (Gl w w6 g gw kd nm A n c K m d kd2 nm2 A2 n2 c2 K2 m2 d2 o ∧ Bx w6 vb kd3 nm3 A3 n3 c3 K3 m3 d3 (o.getD (.node 0 0 [] []))) := Lib.hid ⟨HQ4.out.later (Past.trans' hp hp6), hby⟩
      have HW6 := Lib.hid hw6
      have HVB := Lib.hid hvb
      clear hp hp6 hw6 hvb hby hin5 HQ4 HGE ho'
      go_upto_region 12 with (fail)
      rw [← HW6.out]
      try rw [HVB.out]
      clear HW6 HVB
      have x0 : w6.cell? ⟨g, 0, none⟩ = some (.int .i64 kd) := H6.out.1.rg.cell 0
      have x1 : w6.cell? ⟨g, 1, none⟩ = some (.int .u64 nm) := H6.out.1.rg.cell 1
      have x2 : w6.cell? ⟨g, 2, none⟩ = some (.slice A n c) := H6.out.1.rg.cell 2
      have x3 : w6.cell? ⟨g, 3, none⟩ = some (.slice K m d) := H6.out.1.rg.cell 3
      go_wp2_with fail
      refine (given_any (HI.out.past H6.out.1.past) _ (Below.refl _ _) (by have := HCN.out; omega)).mono ?_
      rintro e w7 ⟨xb, yb, zb, ub, rfl, hp, hlv⟩
      have hin7 := hlv w7 (fun _ _ => rfl)
      obtain ⟨A4, n4, c4, K4, m4, d4, rfl, rfl, rfl, rfl⟩ := hin7.parts
      have H7 : Hid (Gl w w7 g gw kd nm A n c K m d kd2 nm2 A2 n2 c2 K2 m2 d2 o ∧ Bx w7 vb kd3 nm3 A3 n3 c3 K3 m3 d3 (o.getD (.node 0 0 [] []))) := Lib.hid ⟨H6.out.1.later hp, H6.out.2.later hp⟩
      have HVL := Lib.hid (value_any kd nm A4 n4 c4 K4 m4 d4 w7 HT.out.2)
      clear hp hlv hin7 H6 x0 x1 x2 x3
      have hCT : cnt (o.getD (.node 0 0 [] [])) ≤ 2000000 := by
        have := HCN.out
        exact get_cnt HO.out (by omega)
      have HCT := Lib.hid hCT
      have hff : (o.isSome != o.isSome) = false := by cases o <;> rfl
      generalize o.isSome = fo at *
      obtain ⟨tv, htv⟩ : ∃ tv, o.getD (.node 0 0 [] []) = tv := ⟨_, rfl⟩
      rw [htv] at H7 HCT
      have HIW : Hid (InM w (.agg #[.int .i64 kd2, .int .u64 nm2, .slice A2 n2 c2, .slice K2 m2 d2]) tv) := Lib.hid (by rw [← htv]; exact H7.out.1.iw)
      have HGK2 := Lib.hid hCT
      clear hCT htv HO
      go_wp2_with fail
      have hnr := HT.out.2
      by_cases hk0 : kd = 0
      · have hkb : (kd == 0) = true := by simp [hk0]
        by_cases hbig : nm < 9223372036854775808
        · have hnb2 : IntKind.i64.wrap nm = nm := by rw [IntKind.wrap_i64]; omega
          have hvi : valI kd nm = nm := by unfold valI; rw [if_pos hbig, if_pos hk0]
          have hvb : valB kd nm = true := decide_eq_true ⟨hbig, .inl hk0⟩
          rw [hvi, hvb] at HVL
          clear hvi hvb
          refine HVL.out.mono ?_
          rintro e w8 ⟨rfl, hp⟩
          have H8 : Hid (Gl w w8 g gw kd nm A n c K m d kd2 nm2 A2 n2 c2 K2 m2 d2 o ∧ Bx w8 vb kd3 nm3 A3 n3 c3 K3 m3 d3 tv) := Lib.hid ⟨H7.out.1.later hp, H7.out.2.later hp⟩
          clear hp HVL
          have H7' := H7
          have e0 : w8.cell? ⟨g, 0, none⟩ = some (.int .i64 kd) := H8.out.1.rg.cell 0
          have e1 : w8.cell? ⟨g, 1, none⟩ = some (.int .u64 nm) := H8.out.1.rg.cell 1
          have HSK : Hid (∀ w', Past w8 w' → (w'.cell? ⟨vb, 0, none⟩ = some (.int .i64 kd3) ∧ w'.cell? ⟨vb, 1, none⟩ = some (.int .u64 nm3) ∧ w'.cell? ⟨vb, 2, none⟩ = some (.slice A3 n3 c3) ∧ w'.cell? ⟨vb, 3, none⟩ = some (.slice K3 m3 d3) ∧ w'.cell? ⟨gw, 0, none⟩ = some (.int .i64 kd2) ∧ w'.cell? ⟨gw, 1, none⟩ = some (.int .u64 nm2) ∧ w'.cell? ⟨gw, 2, none⟩ = some (.slice A2 n2 c2) ∧ w'.cell? ⟨gw, 3, none⟩ = some (.slice K2 m2 d2))) := by
            refine Lib.hid fun w' hp => ?_
            have q := H8.out.2.row.past hp
            have q2 := H8.out.1.rr.past hp
            exact ⟨q.cell 0, q.cell 1, q.cell 2, q.cell 3, q2.cell 0, q2.cell 1, q2.cell 2, q2.cell 3⟩
          have HPD : Hid (Past w8 w8.drew) := Lib.hid (Past.drewN (Below.refl _ w8) 1)
          have HBK := Lib.hid (fun w1 (hp : Past w8 w1) => back_any (H8.out.2.inm.past hp) w1 (Below.refl _ _) HCT.out)
          clear H7 H7'
          go_upto_region 14 with (fail)
          first | (go_region_held3 (fun w' => w'.cell? ⟨vb, 0, none⟩ = some (.int .i64 kd3) ∧ w'.cell? ⟨vb, 1, none⟩ = some (.int .u64 nm3) ∧ w'.cell? ⟨vb, 2, none⟩ = some (.slice A3 n3 c3) ∧ w'.cell? ⟨vb, 3, none⟩ = some (.slice K3 m3 d3) ∧ w'.cell? ⟨gw, 0, none⟩ = some (.int .i64 kd2) ∧ w'.cell? ⟨gw, 1, none⟩ = some (.int .u64 nm2) ∧ w'.cell? ⟨gw, 2, none⟩ = some (.slice A2 n2 c2) ∧ w'.cell? ⟨gw, 3, none⟩ = some (.slice K2 m2 d2))
            (first
            | exact HSK.out _ HPb.out
            | exact HSK.out _ HPa.out
            | exact HSK.out _ HPD.out)
            (first
            | (go_at_call 13; (with_reducible refine (HBK.out _ HPD.out).mono ?_); rintro ea wa ⟨xa, ya, za, ua, rfl, hpa, hla⟩; have HPa : Hid (Past w8 wa) := Lib.hid (HPD.out.trans' hpa); have HNa : Hid (InM wa (.agg #[xa, ya, za, ua]) tv) := Lib.hid (hla wa (fun _ _ => rfl)); clear hpa hla)
            | (go_at_call 12; (with_reducible refine (rsame10_any HNa.out _ _ (HIW.out.past (H8.out.1.past.trans' HPa.out)) _ (Below.refl _ _) (by have := HCT.out; omega)).mono ?_); rintro eb wb ⟨r, rfl, hr, hpb⟩; obtain rfl : r = true := hr.2 rfl; have HPb : Hid (Past w8 wb) := Lib.hid (HPa.out.trans' hpb); clear hr hpb))) | fail
          all_goals
            have e0' : wb.cell? ⟨g, 0, none⟩ = some (.int .i64 kd) := (H8.out.1.rg.past HPb.out).cell 0
            have e1' : wb.cell? ⟨g, 1, none⟩ = some (.int .u64 nm) := (H8.out.1.rg.past HPb.out).cell 1
            clear HSK HBK e0 e1
            go_wp2_with fail
            go_ret
            exact ⟨rfl, H8.out.1.past.trans' HPb.out⟩
        · have hvi : valI kd nm = 0 := by unfold valI; rw [if_neg hbig]
          have hvb : valB kd nm = false := decide_eq_false (fun h => hbig h.1)
          rw [hvi, hvb] at HVL
          clear hvi hvb
          refine HVL.out.mono ?_
          rintro e w8 ⟨rfl, hp⟩
          have H8 : Hid (Gl w w8 g gw kd nm A n c K m d kd2 nm2 A2 n2 c2 K2 m2 d2 o ∧ Bx w8 vb kd3 nm3 A3 n3 c3 K3 m3 d3 tv) := Lib.hid ⟨H7.out.1.later hp, H7.out.2.later hp⟩
          clear hp HVL
          have H7' := H7
          have e0 : w8.cell? ⟨g, 0, none⟩ = some (.int .i64 kd) := H8.out.1.rg.cell 0
          have e1 : w8.cell? ⟨g, 1, none⟩ = some (.int .u64 nm) := H8.out.1.rg.cell 1
          have HSK : Hid (∀ w', Past w8 w' → (w'.cell? ⟨vb, 0, none⟩ = some (.int .i64 kd3) ∧ w'.cell? ⟨vb, 1, none⟩ = some (.int .u64 nm3) ∧ w'.cell? ⟨vb, 2, none⟩ = some (.slice A3 n3 c3) ∧ w'.cell? ⟨vb, 3, none⟩ = some (.slice K3 m3 d3) ∧ w'.cell? ⟨gw, 0, none⟩ = some (.int .i64 kd2) ∧ w'.cell? ⟨gw, 1, none⟩ = some (.int .u64 nm2) ∧ w'.cell? ⟨gw, 2, none⟩ = some (.slice A2 n2 c2) ∧ w'.cell? ⟨gw, 3, none⟩ = some (.slice K2 m2 d2))) := by
            refine Lib.hid fun w' hp => ?_
            have q := H8.out.2.row.past hp
            have q2 := H8.out.1.rr.past hp
            exact ⟨q.cell 0, q.cell 1, q.cell 2, q.cell 3, q2.cell 0, q2.cell 1, q2.cell 2, q2.cell 3⟩
          have HPD : Hid (Past w8 w8.drew) := Lib.hid (Past.drewN (Below.refl _ w8) 1)
          have HBK := Lib.hid (fun w1 (hp : Past w8 w1) => back_any (H8.out.2.inm.past hp) w1 (Below.refl _ _) HCT.out)
          clear H7 H7'
          go_upto_region 14 with (fail)
          first | (go_region_held3 (fun w' => w'.cell? ⟨vb, 0, none⟩ = some (.int .i64 kd3) ∧ w'.cell? ⟨vb, 1, none⟩ = some (.int .u64 nm3) ∧ w'.cell? ⟨vb, 2, none⟩ = some (.slice A3 n3 c3) ∧ w'.cell? ⟨vb, 3, none⟩ = some (.slice K3 m3 d3) ∧ w'.cell? ⟨gw, 0, none⟩ = some (.int .i64 kd2) ∧ w'.cell? ⟨gw, 1, none⟩ = some (.int .u64 nm2) ∧ w'.cell? ⟨gw, 2, none⟩ = some (.slice A2 n2 c2) ∧ w'.cell? ⟨gw, 3, none⟩ = some (.slice K2 m2 d2))
            (first
            | exact HSK.out _ HPb.out
            | exact HSK.out _ HPa.out
            | exact HSK.out _ HPD.out)
            (first
            | (go_at_call 13; (with_reducible refine (HBK.out _ HPD.out).mono ?_); rintro ea wa ⟨xa, ya, za, ua, rfl, hpa, hla⟩; have HPa : Hid (Past w8 wa) := Lib.hid (HPD.out.trans' hpa); have HNa : Hid (InM wa (.agg #[xa, ya, za, ua]) tv) := Lib.hid (hla wa (fun _ _ => rfl)); clear hpa hla)
            | (go_at_call 12; (with_reducible refine (rsame10_any HNa.out _ _ (HIW.out.past (H8.out.1.past.trans' HPa.out)) _ (Below.refl _ _) (by have := HCT.out; omega)).mono ?_); rintro eb wb ⟨r, rfl, hr, hpb⟩; obtain rfl : r = true := hr.2 rfl; have HPb : Hid (Past w8 wb) := Lib.hid (HPa.out.trans' hpb); clear hr hpb))) | fail
          all_goals
            have e0' : wb.cell? ⟨g, 0, none⟩ = some (.int .i64 kd) := (H8.out.1.rg.past HPb.out).cell 0
            have e1' : wb.cell? ⟨g, 1, none⟩ = some (.int .u64 nm) := (H8.out.1.rg.past HPb.out).cell 1
            clear HSK HBK e0 e1
            go_wp2_with fail
            go_ret
            exact ⟨rfl, H8.out.1.past.trans' HPb.out⟩
      · have hkb : (kd == 0) = false := by simp [hk0]
        by_cases hk1 : kd = 1
        · have hkb1 : (kd == 1) = true := by simp [hk1]
          by_cases hbig : nm < 9223372036854775808
          · have hnb2 : IntKind.i64.wrap nm = nm := by rw [IntKind.wrap_i64]; omega
            have hnb3 : IntKind.i64.wrap (-1 - nm) = -1 - nm := by rw [IntKind.wrap_i64]; omega
            have hvi : valI kd nm = -1 - nm := by unfold valI; rw [if_pos hbig, if_neg hk0, if_pos hk1]
            have hvb : valB kd nm = true := decide_eq_true ⟨hbig, .inr hk1⟩
            rw [hvi, hvb] at HVL
            clear hvi hvb
            refine HVL.out.mono ?_
            rintro e w8 ⟨rfl, hp⟩
            have H8 : Hid (Gl w w8 g gw kd nm A n c K m d kd2 nm2 A2 n2 c2 K2 m2 d2 o ∧ Bx w8 vb kd3 nm3 A3 n3 c3 K3 m3 d3 tv) := Lib.hid ⟨H7.out.1.later hp, H7.out.2.later hp⟩
            clear hp HVL
            have H7' := H7
            have e0 : w8.cell? ⟨g, 0, none⟩ = some (.int .i64 kd) := H8.out.1.rg.cell 0
            have e1 : w8.cell? ⟨g, 1, none⟩ = some (.int .u64 nm) := H8.out.1.rg.cell 1
            have HSK : Hid (∀ w', Past w8 w' → (w'.cell? ⟨vb, 0, none⟩ = some (.int .i64 kd3) ∧ w'.cell? ⟨vb, 1, none⟩ = some (.int .u64 nm3) ∧ w'.cell? ⟨vb, 2, none⟩ = some (.slice A3 n3 c3) ∧ w'.cell? ⟨vb, 3, none⟩ = some (.slice K3 m3 d3) ∧ w'.cell? ⟨gw, 0, none⟩ = some (.int .i64 kd2) ∧ w'.cell? ⟨gw, 1, none⟩ = some (.int .u64 nm2) ∧ w'.cell? ⟨gw, 2, none⟩ = some (.slice A2 n2 c2) ∧ w'.cell? ⟨gw, 3, none⟩ = some (.slice K2 m2 d2))) := by
              refine Lib.hid fun w' hp => ?_
              have q := H8.out.2.row.past hp
              have q2 := H8.out.1.rr.past hp
              exact ⟨q.cell 0, q.cell 1, q.cell 2, q.cell 3, q2.cell 0, q2.cell 1, q2.cell 2, q2.cell 3⟩
            have HPD : Hid (Past w8 w8.drew) := Lib.hid (Past.drewN (Below.refl _ w8) 1)
            have HBK := Lib.hid (fun w1 (hp : Past w8 w1) => back_any (H8.out.2.inm.past hp) w1 (Below.refl _ _) HCT.out)
            clear H7 H7'
            go_upto_region 14 with (fail)
            first | (go_region_held3 (fun w' => w'.cell? ⟨vb, 0, none⟩ = some (.int .i64 kd3) ∧ w'.cell? ⟨vb, 1, none⟩ = some (.int .u64 nm3) ∧ w'.cell? ⟨vb, 2, none⟩ = some (.slice A3 n3 c3) ∧ w'.cell? ⟨vb, 3, none⟩ = some (.slice K3 m3 d3) ∧ w'.cell? ⟨gw, 0, none⟩ = some (.int .i64 kd2) ∧ w'.cell? ⟨gw, 1, none⟩ = some (.int .u64 nm2) ∧ w'.cell? ⟨gw, 2, none⟩ = some (.slice A2 n2 c2) ∧ w'.cell? ⟨gw, 3, none⟩ = some (.slice K2 m2 d2))
              (first
              | exact HSK.out _ HPb.out
              | exact HSK.out _ HPa.out
              | exact HSK.out _ HPD.out)
              (first
              | (go_at_call 13; (with_reducible refine (HBK.out _ HPD.out).mono ?_); rintro ea wa ⟨xa, ya, za, ua, rfl, hpa, hla⟩; have HPa : Hid (Past w8 wa) := Lib.hid (HPD.out.trans' hpa); have HNa : Hid (InM wa (.agg #[xa, ya, za, ua]) tv) := Lib.hid (hla wa (fun _ _ => rfl)); clear hpa hla)
              | (go_at_call 12; (with_reducible refine (rsame10_any HNa.out _ _ (HIW.out.past (H8.out.1.past.trans' HPa.out)) _ (Below.refl _ _) (by have := HCT.out; omega)).mono ?_); rintro eb wb ⟨r, rfl, hr, hpb⟩; obtain rfl : r = true := hr.2 rfl; have HPb : Hid (Past w8 wb) := Lib.hid (HPa.out.trans' hpb); clear hr hpb))) | fail
            all_goals
              have e0' : wb.cell? ⟨g, 0, none⟩ = some (.int .i64 kd) := (H8.out.1.rg.past HPb.out).cell 0
              have e1' : wb.cell? ⟨g, 1, none⟩ = some (.int .u64 nm) := (H8.out.1.rg.past HPb.out).cell 1
              clear HSK HBK e0 e1
              go_wp2_with fail
              go_ret
              exact ⟨rfl, H8.out.1.past.trans' HPb.out⟩
          · have hvi : valI kd nm = 0 := by unfold valI; rw [if_neg hbig]
            have hvb : valB kd nm = false := decide_eq_false (fun h => hbig h.1)
            rw [hvi, hvb] at HVL
            clear hvi hvb
            refine HVL.out.mono ?_
            rintro e w8 ⟨rfl, hp⟩
            have H8 : Hid (Gl w w8 g gw kd nm A n c K m d kd2 nm2 A2 n2 c2 K2 m2 d2 o ∧ Bx w8 vb kd3 nm3 A3 n3 c3 K3 m3 d3 tv) := Lib.hid ⟨H7.out.1.later hp, H7.out.2.later hp⟩
            clear hp HVL
            have H7' := H7
            have e0 : w8.cell? ⟨g, 0, none⟩ = some (.int .i64 kd) := H8.out.1.rg.cell 0
            have e1 : w8.cell? ⟨g, 1, none⟩ = some (.int .u64 nm) := H8.out.1.rg.cell 1
            have HSK : Hid (∀ w', Past w8 w' → (w'.cell? ⟨vb, 0, none⟩ = some (.int .i64 kd3) ∧ w'.cell? ⟨vb, 1, none⟩ = some (.int .u64 nm3) ∧ w'.cell? ⟨vb, 2, none⟩ = some (.slice A3 n3 c3) ∧ w'.cell? ⟨vb, 3, none⟩ = some (.slice K3 m3 d3) ∧ w'.cell? ⟨gw, 0, none⟩ = some (.int .i64 kd2) ∧ w'.cell? ⟨gw, 1, none⟩ = some (.int .u64 nm2) ∧ w'.cell? ⟨gw, 2, none⟩ = some (.slice A2 n2 c2) ∧ w'.cell? ⟨gw, 3, none⟩ = some (.slice K2 m2 d2))) := by
              refine Lib.hid fun w' hp => ?_
              have q := H8.out.2.row.past hp
              have q2 := H8.out.1.rr.past hp
              exact ⟨q.cell 0, q.cell 1, q.cell 2, q.cell 3, q2.cell 0, q2.cell 1, q2.cell 2, q2.cell 3⟩
            have HPD : Hid (Past w8 w8.drew) := Lib.hid (Past.drewN (Below.refl _ w8) 1)
            have HBK := Lib.hid (fun w1 (hp : Past w8 w1) => back_any (H8.out.2.inm.past hp) w1 (Below.refl _ _) HCT.out)
            clear H7 H7'
            go_upto_region 14 with (fail)
            first | (go_region_held3 (fun w' => w'.cell? ⟨vb, 0, none⟩ = some (.int .i64 kd3) ∧ w'.cell? ⟨vb, 1, none⟩ = some (.int .u64 nm3) ∧ w'.cell? ⟨vb, 2, none⟩ = some (.slice A3 n3 c3) ∧ w'.cell? ⟨vb, 3, none⟩ = some (.slice K3 m3 d3) ∧ w'.cell? ⟨gw, 0, none⟩ = some (.int .i64 kd2) ∧ w'.cell? ⟨gw, 1, none⟩ = some (.int .u64 nm2) ∧ w'.cell? ⟨gw, 2, none⟩ = some (.slice A2 n2 c2) ∧ w'.cell? ⟨gw, 3, none⟩ = some (.slice K2 m2 d2))
              (first
              | exact HSK.out _ HPb.out
              | exact HSK.out _ HPa.out
              | exact HSK.out _ HPD.out)
              (first
              | (go_at_call 13; (with_reducible refine (HBK.out _ HPD.out).mono ?_); rintro ea wa ⟨xa, ya, za, ua, rfl, hpa, hla⟩; have HPa : Hid (Past w8 wa) := Lib.hid (HPD.out.trans' hpa); have HNa : Hid (InM wa (.agg #[xa, ya, za, ua]) tv) := Lib.hid (hla wa (fun _ _ => rfl)); clear hpa hla)
              | (go_at_call 12; (with_reducible refine (rsame10_any HNa.out _ _ (HIW.out.past (H8.out.1.past.trans' HPa.out)) _ (Below.refl _ _) (by have := HCT.out; omega)).mono ?_); rintro eb wb ⟨r, rfl, hr, hpb⟩; obtain rfl : r = true := hr.2 rfl; have HPb : Hid (Past w8 wb) := Lib.hid (HPa.out.trans' hpb); clear hr hpb))) | fail
            all_goals
              have e0' : wb.cell? ⟨g, 0, none⟩ = some (.int .i64 kd) := (H8.out.1.rg.past HPb.out).cell 0
              have e1' : wb.cell? ⟨g, 1, none⟩ = some (.int .u64 nm) := (H8.out.1.rg.past HPb.out).cell 1
              clear HSK HBK e0 e1
              go_wp2_with fail
              go_ret
              exact ⟨rfl, H8.out.1.past.trans' HPb.out⟩
        · have hkb1 : (kd == 1) = false := by simp [hk1]
          have hvi : valI kd nm = 0 := by unfold valI; rw [if_neg hk0, if_neg hk1]; split <;> rfl
          have hvb : valB kd nm = false := decide_eq_false (fun h => h.2.elim hk0 hk1)
          rw [hvi, hvb] at HVL
          clear hvi hvb
          refine HVL.out.mono ?_
          rintro e w8 ⟨rfl, hp⟩
          have H8 : Hid (Gl w w8 g gw kd nm A n c K m d kd2 nm2 A2 n2 c2 K2 m2 d2 o ∧ Bx w8 vb kd3 nm3 A3 n3 c3 K3 m3 d3 tv) := Lib.hid ⟨H7.out.1.later hp, H7.out.2.later hp⟩
          clear hp HVL
          have H7' := H7
          have e0 : w8.cell? ⟨g, 0, none⟩ = some (.int .i64 kd) := H8.out.1.rg.cell 0
          have e1 : w8.cell? ⟨g, 1, none⟩ = some (.int .u64 nm) := H8.out.1.rg.cell 1
          have HSK : Hid (∀ w', Past w8 w' → (w'.cell? ⟨vb, 0, none⟩ = some (.int .i64 kd3) ∧ w'.cell? ⟨vb, 1, none⟩ = some (.int .u64 nm3) ∧ w'.cell? ⟨vb, 2, none⟩ = some (.slice A3 n3 c3) ∧ w'.cell? ⟨vb, 3, none⟩ = some (.slice K3 m3 d3) ∧ w'.cell? ⟨gw, 0, none⟩ = some (.int .i64 kd2) ∧ w'.cell? ⟨gw, 1, none⟩ = some (.int .u64 nm2) ∧ w'.cell? ⟨gw, 2, none⟩ = some (.slice A2 n2 c2) ∧ w'.cell? ⟨gw, 3, none⟩ = some (.slice K2 m2 d2))) := by
            refine Lib.hid fun w' hp => ?_
            have q := H8.out.2.row.past hp
            have q2 := H8.out.1.rr.past hp
            exact ⟨q.cell 0, q.cell 1, q.cell 2, q.cell 3, q2.cell 0, q2.cell 1, q2.cell 2, q2.cell 3⟩
          have HPD : Hid (Past w8 w8.drew) := Lib.hid (Past.drewN (Below.refl _ w8) 1)
          have HBK := Lib.hid (fun w1 (hp : Past w8 w1) => back_any (H8.out.2.inm.past hp) w1 (Below.refl _ _) HCT.out)
          clear H7 H7'
          go_upto_region 14 with (fail)
          first | (go_region_held3 (fun w' => w'.cell? ⟨vb, 0, none⟩ = some (.int .i64 kd3) ∧ w'.cell? ⟨vb, 1, none⟩ = some (.int .u64 nm3) ∧ w'.cell? ⟨vb, 2, none⟩ = some (.slice A3 n3 c3) ∧ w'.cell? ⟨vb, 3, none⟩ = some (.slice K3 m3 d3) ∧ w'.cell? ⟨gw, 0, none⟩ = some (.int .i64 kd2) ∧ w'.cell? ⟨gw, 1, none⟩ = some (.int .u64 nm2) ∧ w'.cell? ⟨gw, 2, none⟩ = some (.slice A2 n2 c2) ∧ w'.cell? ⟨gw, 3, none⟩ = some (.slice K2 m2 d2))
            (first
            | exact HSK.out _ HPb.out
            | exact HSK.out _ HPa.out
            | exact HSK.out _ HPD.out)
            (first
            | (go_at_call 13; (with_reducible refine (HBK.out _ HPD.out).mono ?_); rintro ea wa ⟨xa, ya, za, ua, rfl, hpa, hla⟩; have HPa : Hid (Past w8 wa) := Lib.hid (HPD.out.trans' hpa); have HNa : Hid (InM wa (.agg #[xa, ya, za, ua]) tv) := Lib.hid (hla wa (fun _ _ => rfl)); clear hpa hla)
            | (go_at_call 12; (with_reducible refine (rsame10_any HNa.out _ _ (HIW.out.past (H8.out.1.past.trans' HPa.out)) _ (Below.refl _ _) (by have := HCT.out; omega)).mono ?_); rintro eb wb ⟨r, rfl, hr, hpb⟩; obtain rfl : r = true := hr.2 rfl; have HPb : Hid (Past w8 wb) := Lib.hid (HPa.out.trans' hpb); clear hr hpb))) | fail
          all_goals
            have e0' : wb.cell? ⟨g, 0, none⟩ = some (.int .i64 kd) := (H8.out.1.rg.past HPb.out).cell 0
            have e1' : wb.cell? ⟨g, 1, none⟩ = some (.int .u64 nm) := (H8.out.1.rg.past HPb.out).cell 1
            clear HSK HBK e0 e1
            go_wp2_with fail
            go_ret
            exact ⟨rfl, H8.out.1.past.trans' HPb.out⟩
def args0 : Array Value := #[.agg #[.int .i64 0, .int .u64 0, .slice none 0 0, .slice none 0 0], .int .i64 0]
theorem laid_met (os : Os) : laidMetH Tryd.prog Rows.cborGetsUptoRow.laid ((laidWorld os).forCall (fun _ _ => 0) ⟨#[], args0, []⟩).memory :=
  laid_world os args0
theorem witness_row (os : Os) {H : Type} (enc : TypeId × Value → H) :
    (Rows.OpenSpec.upto Rows.cborGetsSpec).preRow enc Tryd.prog Tryd.f6 Rows.cborGetsUptoRow.domain false Rows.cborGetsUptoRow.laid ((laidWorld os).forCall (fun _ _ => 0) ⟨#[], args0, []⟩).memory args0 := by
  have hw : (DataW.whole enc Tryd.prog ((laidWorld os).forCall (fun _ _ => 0) ⟨#[], args0, []⟩).memory Tryd.f6.params.toList (Rows.OpenSpec.upto Rows.cborGetsSpec).vars false args0.toList 8).map (fun x => (x.1, x.2.1)) =
      some ([.agg [.lit (.int .i64 0), .lit (.int .u64 0), .nil, .nil], .lit (.int .i64 0)], []) := by kernel_rfl
  obtain ⟨⟨x1, x2, x3⟩, hx, hx1⟩ := Option.map_eq_some_iff.1 hw
  simp only [Prod.mk.injEq] at hx1
  obtain ⟨rfl, rfl⟩ := hx1
  exact OpenSpec.preRow_of_cond 8 hx (by kernel_rfl) (fun k hk => by cases hk; rfl) (by kernel_rfl) (laid_met os)

set_option maxRecDepth 100000 in
set_option maxHeartbeats 2000000 in
theorem lifted (os : Os) (started : os.Started) (H : Type) (enc : TypeId × Value → H) (F : Stop.Interp) :
    ReturnsInHanded {} Tryd.checked os 6 .any ((Rows.OpenSpec.upto Rows.cborGetsSpec).preRow enc Tryd.prog Tryd.f6 Rows.cborGetsUptoRow.domain false Rows.cborGetsUptoRow.laid) (((Rows.OpenSpec.upto Rows.cborGetsSpec).at F).post enc Tryd.prog Tryd.f6 false true false false) := by
  refine returnsInHanded_of_row (C := Tryd.checked) (s := Rows.OpenSpec.upto Rows.cborGetsSpec) own started (by kernel_rfl) Tryd.func6
    (witness_row_atRef (enc := enc) (C := Tryd.checked) false (laidWorld os) args0 rfl (by kernel_rfl) (by kernel_rfl) (by kernel_rfl) (witness_row os enc)) ?_
  intro W base args ds gs before hval0 hW _ hcnd _ hL hsh _
  have hval : ∀ (j : Nat) t v, Tryd.f6.params[j]? = some t → args[j]? = some v → Value.okWide Tryd.prog W .any base t v := hval0
  have hW' := hW
  obtain ⟨p, q, hA0, hV, rfl, hfz, hnd⟩ := hW
  have hA : DataW.TrodAll enc Tryd.prog W 0 (fun _ => true) true Tryd.f6.params.toList args.toList ds p := hA0
  rw [Tryd.params6] at hA hval
  obtain ⟨v0, vs0, d0, ds0, p0, q0, hargs, rfl, rfl, h0, r0⟩ := trodAll_cons hA
  obtain ⟨v1, vs1, d1, ds1, p1, q1, rfl, rfl, rfl, h1, r1⟩ := trodAll_cons r0
  obtain ⟨rfl, rfl, rfl⟩ := trodAll_nil r1
  obtain rfl : args = #[v0, v1] := by cases args; simp_all
  obtain ⟨rfl, rfl⟩ := trodVars_none hV
  have hbulk := bulk_small (hcnd _ rfl)
  simp only [List.append_nil, Rows.uptoBulkAll] at hbulk
  have k0 := h0
  have lt0 : ∀ x ∈ p0, x.block < W.heap.size := by obtain ⟨m, hm⟩ := k0; exact DataW.trod_lt m _ _ _ hm
  obtain ⟨x0, y0, z0, u0, t0, rfl, w0, b0⟩ := tree_of (hval 0 34 v0 rfl rfl) h0
  obtain ⟨a1, rfl, rfl, rfl, w1⟩ := open_int Tryd.underlying2 (hval 1 2 v1 rfl rfl) h1
  have hG := glob_of_row hL
  clear hA0 hval0
  refine (walk x0 y0 z0 u0 t0 a1 W w0 (by omega) w1 hG).mono fun e W' ⟨he, bel⟩ => ?_
  subst he
  exact ⟨_, rfl, _, _, _, [], _, [], hW', trodAll_mk1 (shut_bool Tryd.underlying4 _), (trodAll_cons_mk (Below.trod laidOut (by kernel_rfl) (of_decide_eq_true (by kernel_rfl)) k0 bel lt0) (trodAll_cons_mk (shut_int Tryd.underlying2 w1) trodAll_mk0)), rfl, bel.frame _, fun h => by cases h⟩

theorem row_holds : Rows.CborGetsUptoSaid :=
  OpenClaim.holds_of_cond 6 Tryd.f6 rfl rfl rfl rfl rfl rfl rfl ⟨rfl, rfl, rfl, rfl, rfl⟩ rfl rfl rfl rfl rfl (by kernel_rfl) Tryd.func6 (by kernel_rfl)
    (of_decide_eq_true (by kernel_rfl)) (by unfold Func.isWrapper; first | (rw [if_pos (by decide +kernel)]; kernel_rfl) | (rw [if_neg (by decide +kernel)]; exact ⟨rfl, rfl⟩))
    (fun os started H enc _ F0 => by rw [OpenClaim.pre_eq_preRow]; exact lifted os started H enc F0)

theorem card : Rows.CborGetsUptoCardSaid :=
  Claim7.holds_tied_plain_at .later [] [.data, .data, .handle] true Rows.cborGetsUptoCard.stood.harness true
    row_holds (fun _ h => by cases h) (by kernel_rfl) (fun _ h => by cases h) cborGetsUpto_row_tie rfl ⟨rfl, rfl⟩ (by kernel_rfl) rfl
    (fun f fn hf hfn => by
      obtain rfl : f = 6 := Option.some.inj ((show Tryd.prog.funcNamed "pyx/pyxlaw10.CborGets" = some 6 by kernel_rfl).symm.trans hf) |>.symm
      obtain rfl : fn = Tryd.f6 := (Option.some.inj (Tryd.func6.symm.trans hfn)).symm
      exact ⟨by kernel_rfl, fun j t ht => by
        rw [Tryd.params6] at ht
        have h3 : t = 34 ∨ t = 2 := by
          rcases j with _ | _ | j
          · exact .inl (by simpa using ht.symm)
          · exact .inr (by simpa using ht.symm)
          · simp at ht
        rcases h3 with rfl | rfl
        · exact (show Tryd.prog.wantsStandIn 34 = false by kernel_rfl)
        · exact (show Tryd.prog.wantsStandIn 2 = false by kernel_rfl)⟩)
    (by kernel_rfl)


end Go.Proofs.YtmhgpdfllpgjpaaDoor.cborGets
