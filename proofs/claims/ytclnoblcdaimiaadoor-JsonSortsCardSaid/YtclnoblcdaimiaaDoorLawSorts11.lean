/- For every list of pairs and every string the law JsonSorts of package pyxlaw11 returns true and leaves its arguments alone, where the variables hold what the program's text lays. -/
import Derived.Test.YtclnoblcdaimiaaDoorFrame11P
import Derived.Test.YtclnoblcdaimiaaDoorJs11D
import Derived.Test.YtclnoblcdaimiaaDoorRef11D
import Derived.Test.YtclnoblcdaimiaaDoorSt11L
import Derived.ChangeMaps5
import Derived.Deep.QuietTactic
import Derived.Deep.Cut
namespace Go.Proofs.YtclnoblcdaimiaaDoor.jsonSorts
open Go.RowKit Go.ChangeShapes Go.WideShapes Go.ChangeAt
open Go.ChangeMaps (open_string shut_string)
set_option linter.unusedVariables false

theorem wrap_succ (p : Nat) (h : p < 40) : IntKind.i64.wrap ((p : Int) + 1) = ((p + 1 : Nat) : Int) := by rw [IntKind.wrap_i64]; omega
theorem wrap_small (p : Nat) (h : p < 40) : IntKind.i64.wrap (p : Int) = (p : Int) := by rw [IntKind.wrap_i64]; omega
theorem wrap64_small (p : Nat) (h : p < 40) : wrap64 (p : Int) = (p : Int) := IntWalk.wrap64_in _ (by omega)
theorem num40 {n : Nat} (h : n ≤ 40) : n ≤ 2000000 := by omega
set_option maxHeartbeats 8000000 in
set_option maxRecDepth 100000 in
theorem walk (A : Option Addr) (n c : Nat) (l : List P2) (s : ByteArray) (w : World) (hP : Ps w A n c l) (hs : s.size ≤ maxLen) (hG : Glob11 w) :
    Calls Tryd.prog 5 #[.slice A n c, .string s] w fun e w' => e = .returned (.bool true) ∧ Past w w' := by
  have HA := Lib.hid (fun w hG => awake11 w hG)
  have HG := Lib.hid hG
  have HPS := Lib.hid hP
  have HF := Lib.hid (fun w h => rfew11_any A n c l w h)
  cases hf : fewP l with
  | false =>
    rw [hf] at HF
    clear hP hG hf hs
    go_enter Tryd.func5, Tryd.ntmps5
    go_wp2_with fail
    refine (HA.out _ HG.out).mono ?_
    rintro e w1 ⟨rfl, hp⟩
    have H1 := Lib.hid hp
    clear hp
    go_wp2_with fail
    refine (HF.out _ (HPS.out.past H1.out)).mono ?_
    rintro e w2 ⟨rfl, rfl⟩
    go_wp2_with fail
    refine (HA.out _ (HG.out.past H1.out)).mono ?_
    rintro e w3 ⟨rfl, hp⟩
    have H3 := Lib.hid (H1.out.trans' hp)
    clear hp
    go_wp2_with fail
    go_ret
    exact ⟨rfl, H3.out⟩
  | true =>
    rw [hf] at HF
    by_cases hsz : (100 : Int) < (s.size : Int)
    · clear hP hG hf hs
      go_enter Tryd.func5, Tryd.ntmps5
      go_wp2_with fail
      refine (HA.out _ HG.out).mono ?_
      rintro e w1 ⟨rfl, hp⟩
      have H1 := Lib.hid hp
      clear hp
      go_wp2_with fail
      refine (HF.out _ (HPS.out.past H1.out)).mono ?_
      rintro e w2 ⟨rfl, rfl⟩
      go_wp2_with fail
      refine (HA.out _ (HG.out.past H1.out)).mono ?_
      rintro e w3 ⟨rfl, hp⟩
      have H3 := Lib.hid (H1.out.trans' hp)
      clear hp
      go_wp2_with fail
      go_ret
      exact ⟨rfl, H3.out⟩
    · obtain ⟨hn40, hlen⟩ := few_len hf
      have hnn := hP.len
      rw [hnn] at hn40
      have HGv := Lib.hid (fun w h => given_any A n c l w h (num40 hn40))
      have HBk := Lib.hid (fun A c m w h => back_any A n c m w h (num40 hn40))
      have HSt := Lib.hid (fun A c w h => sorted_any A n c l w h hn40)
      have HGet := Lib.hid (fun A c w h => get11_any A n c l s w h)
      have HN40 := Lib.hid hn40
      have HLN := Lib.hid hnn
      clear hP hG hf hs hn40 hlen hnn
      go_enter Tryd.func5, Tryd.ntmps5
      go_wp2_with fail
      refine (HA.out _ HG.out).mono ?_
      rintro e w1 ⟨rfl, hp⟩
      have H1 := Lib.hid hp
      clear hp
      go_wp2_with fail
      refine (HF.out _ (HPS.out.past H1.out)).mono ?_
      rintro e w2 ⟨rfl, rfl⟩
      go_wp2_with fail
      refine (HGv.out _ (HPS.out.past H1.out)).mono ?_
      rintro e w3 ⟨A3, c3, rfl, hps, hp⟩
      have H3 := Lib.hid (And.intro (H1.out.trans' hp) hps)
      clear hp hps H1
      go_wp2_with fail
      refine (HSt.out _ _ _ H3.out.2).mono ?_
      rintro e w3' ⟨A4, c4, m, rfl, hps, hso, hp⟩
      have H3' := Lib.hid (And.intro (H3.out.1.trans' hp) hps)
      have HSO := Lib.hid hso
      clear hp hps hso H3
      go_wp2_with fail
      refine (HBk.out _ _ _ _ H3'.out.2).mono ?_
      rintro e w4 ⟨A5, c5, rfl, hps, hp⟩
      have H4 := Lib.hid (H3'.out.1.trans' hp)
      have HPM := Lib.hid hps
      have HMN : Hid (m.length = n) := Lib.hid hps.len
      clear hp hps H3'
      go_wp2_with fail
      go_loopg [6, 7] n (fun q s6 s7 wx => ∃ i p0 : Nat, i ≤ n ∧ s6 = .int .i64 (p0 : Int) ∧ s7 = .int .i64 (i : Int) ∧ q = n - i ∧ Hid (Ins clsP m l i p0 ∧ Past w4 wx))
      case atStart => exact ⟨0, 0, Nat.zero_le _, rfl, rfl, rfl, Lib.hid ⟨Ins.start m l, Below.refl _ _⟩⟩
      case round =>
        obtain ⟨i, p0, hin, rfl, rfl, hq, HQ⟩ := hrel
        have HGQ := Lib.hid hq
        clear hq
        by_cases hlt : i < n
        · have hli : (i : Int) < (n : Int) := Int.ofNat_lt.2 hlt
          have HLT := Lib.hid hlt
          have hn0 : 0 < n := Nat.lt_of_le_of_lt (Nat.zero_le _) hlt
          obtain ⟨bl, ol, rfl, hl0⟩ := HPS.out.cells hn0
          obtain ⟨bm, om, rfl, hm0⟩ := HPM.out.cells hn0
          have HCL : Hid (∀ wx, Past w4 wx → ∀ j, j < n → wx.cell? ⟨bl, ol + j * 2, none⟩ = some (.string (l.getD j default).1) ∧ wx.cell? ⟨bl, ol + j * 2 + 1, none⟩ = some (.string (l.getD j default).2)) := Lib.hid (fun wx h j hj => by
            obtain ⟨q1, q2⟩ := hl0 j hj
            exact ⟨by rw [Below.cell (H4.out.trans' h) (cell_lt q1)]; exact q1, by rw [Below.cell (H4.out.trans' h) (cell_lt q2)]; exact q2⟩)
          have HCM : Hid (∀ wx, Past w4 wx → ∀ j, j < n → wx.cell? ⟨bm, om + j * 2, none⟩ = some (.string (m.getD j default).1) ∧ wx.cell? ⟨bm, om + j * 2 + 1, none⟩ = some (.string (m.getD j default).2)) := Lib.hid (fun wx h j hj => by
            obtain ⟨q1, q2⟩ := hm0 j hj
            exact ⟨by rw [Below.cell h (cell_lt q1)]; exact q1, by rw [Below.cell h (cell_lt q2)]; exact q2⟩)
          have HWI : Hid (IntKind.i64.wrap ((i : Int) + 1) = ((i + 1 : Nat) : Int)) := Lib.hid (wrap_succ i (Nat.lt_of_lt_of_le hlt HN40.out))
          have hi0 : (0 : Int) ≤ (i : Int) := Int.natCast_nonneg i
          obtain ⟨hins, hpw⟩ := HQ.out
          have HPW0 := Lib.hid hpw
          clear hl0 hm0 hlt hn0 HQ
          rcases Nat.eq_zero_or_pos i with h0 | h0
          · subst h0
            have HSC : Hid (Scn clsP m l 0 p0) := Lib.hid (hins.same (Or.inl rfl))
            clear hins hpw
            go_wp2_with fail
            go_quiet (fail)
            have HPA : Hid (Past w4 (wr.drewN nq)) := Lib.hid (HPW0.out.drewN nq)
            generalize wr.drewN nq = wa at *
            go_wp2_with fail
            go_quiet (fail)
            have HPB : Hid (Past w4 (wa.drewN nq)) := Lib.hid (HPA.out.drewN nq)
            generalize wa.drewN nq = wb at *
            go_wp2_with fail
            go_loopg [6] (n - p0) (fun q s6 wx => ∃ p : Nat, s6 = .int .i64 (p : Int) ∧ q = n - p ∧ Hid (Scn clsP m l 0 p ∧ Past w4 wx))
            case atStart => exact ⟨p0, rfl, rfl, Lib.hid ⟨HSC.out, HPB.out⟩⟩
            case round =>
              rename_i wo
              obtain ⟨p, rfl, hq, HS⟩ := hrel
              have HGQ2 := Lib.hid hq
              clear hq HPB
              obtain ⟨hsc, hpw⟩ := HS.out
              have hpn : p < n := by rw [← HLN.out]; exact hsc.lt HSO.out.same (by rw [HMN.out]; exact HLT.out)
              have hpni : (p : Int) < (n : Int) := Int.ofNat_lt.2 hpn
              have hp0 : (0 : Int) ≤ (p : Int) := Int.natCast_nonneg p
              obtain ⟨x0, x1⟩ := HCM.out wr hpw 0 HLT.out
              obtain ⟨z0, z1⟩ := HCL.out wr hpw p hpn
              have HPN := Lib.hid hpn
              have HPW := Lib.hid hpw
              have HWP : Hid (IntKind.i64.wrap ((p : Int) + 1) = ((p + 1 : Nat) : Int)) := Lib.hid (wrap_succ p (Nat.lt_of_lt_of_le hpn HN40.out))
              cases heq : ((l.getD p default).1.toList == (m.getD 0 default).1.toList) with
              | false =>
                have hne : clsP (l.getD p default) ≠ clsP (m.getD 0 default) := fun e => by
                  have h1 : ((l.getD p default).1.toList == (m.getD 0 default).1.toList) = true := beq_iff_eq.2 e
                  rw [h1] at heq
                  cases heq
                have HN : Hid (Scn clsP m l 0 (p + 1)) := Lib.hid (hsc.next (by rw [HLN.out]; exact hpn) hne)
                simp only [Nat.zero_mul, Nat.add_zero] at x0 x1
                clear hsc hpw HS hpn hne
                generalize (l.getD p default).1 = zz1 at *
                generalize (l.getD p default).2 = zz2 at *
                generalize (m.getD 0 default).1 = xx1 at *
                generalize (m.getD 0 default).2 = xx2 at *
                go_wp2_with fail
                go_quiet (fail)
                have HPW2 : Hid (Past w4 (wr.drewN nq)) := Lib.hid (HPW.out.drewN nq)
                clear x0 x1 z0 z1 HPW
                generalize wr.drewN nq = wk at *
                have hwp := HWP.out
                go_wp2_with fail
                go_roundg (n - (p + 1))
                case rel => exact ⟨p + 1, rfl, rfl, Lib.hid ⟨HN.out, HPW2.out⟩⟩
                case measure => rw [HGQ2.out]; exact Nat.sub_succ_lt_self _ _ HPN.out
              | true =>
                obtain ⟨hfe, hins⟩ := hsc.found HSO.out.same (by rw [HMN.out]; exact HLT.out) (beq_iff_eq.1 heq)
                have HN := Lib.hid hins
                have hge : ¬ (n : Int) ≤ (p : Int) := Int.not_le.2 hpni
                have hgn : ¬ n ≤ p := Nat.not_le.2 hpn
                have HX : Hid (∀ wx, Past w4 wx → (wx.cell? ⟨bl, ol + p * 2, none⟩ = some (.string (m.getD 0 default).1) ∧ wx.cell? ⟨bl, ol + p * 2 + 1, none⟩ = some (.string (m.getD 0 default).2)) ∧ (wx.cell? ⟨bm, om + 0 * 2, none⟩ = some (.string (m.getD 0 default).1) ∧ wx.cell? ⟨bm, om + 0 * 2 + 1, none⟩ = some (.string (m.getD 0 default).2))) := Lib.hid (fun wx h => ⟨by rw [← hfe]; exact HCL.out wx h p hpn, HCM.out wx h 0 HLT.out⟩)
                rw [hfe] at heq z0 z1
                simp only [Nat.zero_mul, Nat.add_zero] at x0 x1
                clear hsc hpw HS hpn hins hfe
                generalize (m.getD 0 default).1 = xx1 at *
                generalize (m.getD 0 default).2 = xx2 at *
                go_wp2_with fail
                go_quiet (fail)
                have HPW2 : Hid (Past w4 (wr.drewN nq)) := Lib.hid (HPW.out.drewN nq)
                clear x0 x1 z0 z1 HPW
                generalize wr.drewN nq = wk at *
                obtain ⟨⟨z0, z1⟩, ⟨x0, x1⟩⟩ := HX.out wk HPW2.out
                simp only [Nat.zero_mul, Nat.add_zero] at x0 x1
                have hb1 : (xx1.toList == xx1.toList) = true := beq_self_eq_true _
                have hb2 : (xx2.toList == xx2.toList) = true := beq_self_eq_true _
                go_wp2_with fail
                go_quiet (fail)
                have HPW3 : Hid (Past w4 (wk.drewN nq)) := Lib.hid (HPW2.out.drewN nq)
                clear x0 x1 z0 z1 HPW2 hb1 hb2
                generalize wk.drewN nq = wl at *
                have hwp := HWP.out
                have hwi := HWI.out
                go_wp2_with fail
                go_roundg (n - (0 + 1))
                case rel => exact ⟨0 + 1, p + 1, HLT.out, rfl, rfl, rfl, Lib.hid ⟨HN.out, HPW3.out⟩⟩
                case measure => rw [HGQ.out]; exact Nat.sub_succ_lt_self _ _ HLT.out
          · obtain ⟨k, hk⟩ : ∃ k, i = k + 1 := ⟨i - 1, (Nat.succ_pred_eq_of_pos h0).symm⟩
            have hki : k < i := by rw [hk]; exact Nat.lt_succ_self k
            have hkn : k < n := Nat.lt_trans hki HLT.out
            have hkz : (k : Int) < (n : Int) := Int.ofNat_lt.2 hkn
            have hk0 : (0 : Int) ≤ (k : Int) := Int.natCast_nonneg k
            have h0z : (0 : Int) < (i : Int) := Int.ofNat_lt.2 h0
            have hsub : (i : Int) - 1 = (k : Int) := by rw [hk]; exact Int.add_sub_cancel (k : Int) 1
            have hsubw : IntKind.i64.wrap ((i : Int) - 1) = (k : Int) := by rw [hsub]; exact wrap_small k (Nat.lt_of_lt_of_le hkn HN40.out)
            have hwk1 := wrap_small k (Nat.lt_of_lt_of_le hkn HN40.out)
            have hwk2 := wrap64_small k (Nat.lt_of_lt_of_le hkn HN40.out)
            have hless := asc_less HSO.out hki (by rw [HMN.out]; exact HLT.out)
            have hk1 : i - 1 = k := by rw [hk]; exact Nat.add_sub_cancel k 1
            have HK1 := Lib.hid hk1
            obtain ⟨x0, x1⟩ := HCM.out wr hpw i HLT.out
            obtain ⟨y0, y1⟩ := HCM.out wr hpw k hkn
            have HKN := Lib.hid hkn
            have HH0 := Lib.hid h0
            have HINS := Lib.hid hins
            clear hins hpw hk hki hkn hk1
            generalize (m.getD i default).1 = xa at x0 hless
            generalize (m.getD k default).1 = ya at y0 hless
            generalize (m.getD i default).2 = xa2 at x1
            generalize (m.getD k default).2 = ya2 at y1
            go_wp2_with fail
            go_quiet (fail)
            have HPA : Hid (Past w4 (wr.drewN nq)) := Lib.hid (HPW0.out.drewN nq)
            generalize wr.drewN nq = wa at *
            clear x0 x1 y0 y1 hless HPW0
            obtain ⟨x0, x1⟩ := HCM.out wa HPA.out i HLT.out
            obtain ⟨y0, y1⟩ := HCM.out wa HPA.out k HKN.out
            cases hne : ((m.getD i default).1.toList == (m.getD k default).1.toList) with
            | false =>
              have HSC : Hid (Scn clsP m l i 0) := Lib.hid (Scn.fresh swoP clsP_eq clsP_tot (by rw [HMN.out]; exact HLT.out) HH0.out HSO.out.asc (by
                rw [HK1.out]
                intro e
                have h1 : ((m.getD i default).1.toList == (m.getD k default).1.toList) = true := beq_iff_eq.2 e
                rw [h1] at hne
                cases hne))
              generalize (m.getD i default).1 = xb at x0 hne
              generalize (m.getD k default).1 = yb at y0 hne
              generalize (m.getD i default).2 = xb2 at x1
              generalize (m.getD k default).2 = yb2 at y1
              go_wp2_with fail
              go_quiet (fail)
              have HPB : Hid (Past w4 (wa.drewN nq)) := Lib.hid (HPA.out.drewN nq)
              generalize wa.drewN nq = wb at *
              clear x0 x1 y0 y1 hne HPA HINS
              go_wp2_with fail
              go_loopg [6] (n - 0) (fun q s6 wx => ∃ p : Nat, s6 = .int .i64 (p : Int) ∧ q = n - p ∧ Hid (Scn clsP m l i p ∧ Past w4 wx))
              case atStart => exact ⟨0, rfl, rfl, Lib.hid ⟨HSC.out, HPB.out⟩⟩
              case round =>
                rename_i wo
                obtain ⟨p, rfl, hq, HS⟩ := hrel
                have HGQ2 := Lib.hid hq
                clear hq HPB
                obtain ⟨hsc, hpw⟩ := HS.out
                have hpn : p < n := by rw [← HLN.out]; exact hsc.lt HSO.out.same (by rw [HMN.out]; exact HLT.out)
                have hpni : (p : Int) < (n : Int) := Int.ofNat_lt.2 hpn
                have hp0 : (0 : Int) ≤ (p : Int) := Int.natCast_nonneg p
                obtain ⟨x0, x1⟩ := HCM.out wr hpw i HLT.out
                obtain ⟨z0, z1⟩ := HCL.out wr hpw p hpn
                have HPN := Lib.hid hpn
                have HPW := Lib.hid hpw
                have HWP : Hid (IntKind.i64.wrap ((p : Int) + 1) = ((p + 1 : Nat) : Int)) := Lib.hid (wrap_succ p (Nat.lt_of_lt_of_le hpn HN40.out))
                cases heq : ((l.getD p default).1.toList == (m.getD i default).1.toList) with
                | false =>
                  have hne : clsP (l.getD p default) ≠ clsP (m.getD i default) := fun e => by
                    have h1 : ((l.getD p default).1.toList == (m.getD i default).1.toList) = true := beq_iff_eq.2 e
                    rw [h1] at heq
                    cases heq
                  have HN : Hid (Scn clsP m l i (p + 1)) := Lib.hid (hsc.next (by rw [HLN.out]; exact hpn) hne)
                  clear hsc hpw HS hpn hne
                  generalize (l.getD p default).1 = zz1 at *
                  generalize (l.getD p default).2 = zz2 at *
                  generalize (m.getD i default).1 = xx1 at *
                  generalize (m.getD i default).2 = xx2 at *
                  go_wp2_with fail
                  go_quiet (fail)
                  have HPW2 : Hid (Past w4 (wr.drewN nq)) := Lib.hid (HPW.out.drewN nq)
                  clear x0 x1 z0 z1 HPW
                  generalize wr.drewN nq = wk at *
                  have hwp := HWP.out
                  go_wp2_with fail
                  go_roundg (n - (p + 1))
                  case rel => exact ⟨p + 1, rfl, rfl, Lib.hid ⟨HN.out, HPW2.out⟩⟩
                  case measure => rw [HGQ2.out]; exact Nat.sub_succ_lt_self _ _ HPN.out
                | true =>
                  obtain ⟨hfe, hins⟩ := hsc.found HSO.out.same (by rw [HMN.out]; exact HLT.out) (beq_iff_eq.1 heq)
                  have HN := Lib.hid hins
                  have hge : ¬ (n : Int) ≤ (p : Int) := Int.not_le.2 hpni
                  have hgn : ¬ n ≤ p := Nat.not_le.2 hpn
                  have HX : Hid (∀ wx, Past w4 wx → (wx.cell? ⟨bl, ol + p * 2, none⟩ = some (.string (m.getD i default).1) ∧ wx.cell? ⟨bl, ol + p * 2 + 1, none⟩ = some (.string (m.getD i default).2)) ∧ (wx.cell? ⟨bm, om + i * 2, none⟩ = some (.string (m.getD i default).1) ∧ wx.cell? ⟨bm, om + i * 2 + 1, none⟩ = some (.string (m.getD i default).2))) := Lib.hid (fun wx h => ⟨by rw [← hfe]; exact HCL.out wx h p hpn, HCM.out wx h i HLT.out⟩)
                  rw [hfe] at heq z0 z1
                  clear hsc hpw HS hpn hins hfe
                  generalize (m.getD i default).1 = xx1 at *
                  generalize (m.getD i default).2 = xx2 at *
                  go_wp2_with fail
                  go_quiet (fail)
                  have HPW2 : Hid (Past w4 (wr.drewN nq)) := Lib.hid (HPW.out.drewN nq)
                  clear x0 x1 z0 z1 HPW
                  generalize wr.drewN nq = wk at *
                  obtain ⟨⟨z0, z1⟩, ⟨x0, x1⟩⟩ := HX.out wk HPW2.out
                  have hb1 : (xx1.toList == xx1.toList) = true := beq_self_eq_true _
                  have hb2 : (xx2.toList == xx2.toList) = true := beq_self_eq_true _
                  go_wp2_with fail
                  go_quiet (fail)
                  have HPW3 : Hid (Past w4 (wk.drewN nq)) := Lib.hid (HPW2.out.drewN nq)
                  clear x0 x1 z0 z1 HPW2 hb1 hb2
                  generalize wk.drewN nq = wl at *
                  have hwp := HWP.out
                  have hwi := HWI.out
                  go_wp2_with fail
                  go_roundg (n - (i + 1))
                  case rel => exact ⟨i + 1, p + 1, HLT.out, rfl, rfl, rfl, Lib.hid ⟨HN.out, HPW3.out⟩⟩
                  case measure => rw [HGQ.out]; exact Nat.sub_succ_lt_self _ _ HLT.out
            | true =>
              have HSC : Hid (Scn clsP m l i p0) := Lib.hid (HINS.out.same (Or.inr (by
                rw [HK1.out]
                exact beq_iff_eq.1 hne)))
              generalize (m.getD i default).1 = xb at x0 hne
              generalize (m.getD k default).1 = yb at y0 hne
              generalize (m.getD i default).2 = xb2 at x1
              generalize (m.getD k default).2 = yb2 at y1
              go_wp2_with fail
              go_quiet (fail)
              have HPB : Hid (Past w4 (wa.drewN nq)) := Lib.hid (HPA.out.drewN nq)
              generalize wa.drewN nq = wb at *
              clear x0 x1 y0 y1 hne HPA HINS
              go_wp2_with fail
              go_loopg [6] (n - p0) (fun q s6 wx => ∃ p : Nat, s6 = .int .i64 (p : Int) ∧ q = n - p ∧ Hid (Scn clsP m l i p ∧ Past w4 wx))
              case atStart => exact ⟨p0, rfl, rfl, Lib.hid ⟨HSC.out, HPB.out⟩⟩
              case round =>
                rename_i wo
                obtain ⟨p, rfl, hq, HS⟩ := hrel
                have HGQ2 := Lib.hid hq
                clear hq HPB
                obtain ⟨hsc, hpw⟩ := HS.out
                have hpn : p < n := by rw [← HLN.out]; exact hsc.lt HSO.out.same (by rw [HMN.out]; exact HLT.out)
                have hpni : (p : Int) < (n : Int) := Int.ofNat_lt.2 hpn
                have hp0 : (0 : Int) ≤ (p : Int) := Int.natCast_nonneg p
                obtain ⟨x0, x1⟩ := HCM.out wr hpw i HLT.out
                obtain ⟨z0, z1⟩ := HCL.out wr hpw p hpn
                have HPN := Lib.hid hpn
                have HPW := Lib.hid hpw
                have HWP : Hid (IntKind.i64.wrap ((p : Int) + 1) = ((p + 1 : Nat) : Int)) := Lib.hid (wrap_succ p (Nat.lt_of_lt_of_le hpn HN40.out))
                cases heq : ((l.getD p default).1.toList == (m.getD i default).1.toList) with
                | false =>
                  have hne : clsP (l.getD p default) ≠ clsP (m.getD i default) := fun e => by
                    have h1 : ((l.getD p default).1.toList == (m.getD i default).1.toList) = true := beq_iff_eq.2 e
                    rw [h1] at heq
                    cases heq
                  have HN : Hid (Scn clsP m l i (p + 1)) := Lib.hid (hsc.next (by rw [HLN.out]; exact hpn) hne)
                  clear hsc hpw HS hpn hne
                  generalize (l.getD p default).1 = zz1 at *
                  generalize (l.getD p default).2 = zz2 at *
                  generalize (m.getD i default).1 = xx1 at *
                  generalize (m.getD i default).2 = xx2 at *
                  go_wp2_with fail
                  go_quiet (fail)
                  have HPW2 : Hid (Past w4 (wr.drewN nq)) := Lib.hid (HPW.out.drewN nq)
                  clear x0 x1 z0 z1 HPW
                  generalize wr.drewN nq = wk at *
                  have hwp := HWP.out
                  go_wp2_with fail
                  go_roundg (n - (p + 1))
                  case rel => exact ⟨p + 1, rfl, rfl, Lib.hid ⟨HN.out, HPW2.out⟩⟩
                  case measure => rw [HGQ2.out]; exact Nat.sub_succ_lt_self _ _ HPN.out
                | true =>
                  obtain ⟨hfe, hins⟩ := hsc.found HSO.out.same (by rw [HMN.out]; exact HLT.out) (beq_iff_eq.1 heq)
                  have HN := Lib.hid hins
                  have hge : ¬ (n : Int) ≤ (p : Int) := Int.not_le.2 hpni
                  have hgn : ¬ n ≤ p := Nat.not_le.2 hpn
                  have HX : Hid (∀ wx, Past w4 wx → (wx.cell? ⟨bl, ol + p * 2, none⟩ = some (.string (m.getD i default).1) ∧ wx.cell? ⟨bl, ol + p * 2 + 1, none⟩ = some (.string (m.getD i default).2)) ∧ (wx.cell? ⟨bm, om + i * 2, none⟩ = some (.string (m.getD i default).1) ∧ wx.cell? ⟨bm, om + i * 2 + 1, none⟩ = some (.string (m.getD i default).2))) := Lib.hid (fun wx h => ⟨by rw [← hfe]; exact HCL.out wx h p hpn, HCM.out wx h i HLT.out⟩)
                  rw [hfe] at heq z0 z1
                  clear hsc hpw HS hpn hins hfe
                  generalize (m.getD i default).1 = xx1 at *
                  generalize (m.getD i default).2 = xx2 at *
                  go_wp2_with fail
                  go_quiet (fail)
                  have HPW2 : Hid (Past w4 (wr.drewN nq)) := Lib.hid (HPW.out.drewN nq)
                  clear x0 x1 z0 z1 HPW
                  generalize wr.drewN nq = wk at *
                  obtain ⟨⟨z0, z1⟩, ⟨x0, x1⟩⟩ := HX.out wk HPW2.out
                  have hb1 : (xx1.toList == xx1.toList) = true := beq_self_eq_true _
                  have hb2 : (xx2.toList == xx2.toList) = true := beq_self_eq_true _
                  go_wp2_with fail
                  go_quiet (fail)
                  have HPW3 : Hid (Past w4 (wk.drewN nq)) := Lib.hid (HPW2.out.drewN nq)
                  clear x0 x1 z0 z1 HPW2 hb1 hb2
                  generalize wk.drewN nq = wl at *
                  have hwp := HWP.out
                  have hwi := HWI.out
                  go_wp2_with fail
                  go_roundg (n - (i + 1))
                  case rel => exact ⟨i + 1, p + 1, HLT.out, rfl, rfl, rfl, Lib.hid ⟨HN.out, HPW3.out⟩⟩
                  case measure => rw [HGQ.out]; exact Nat.sub_succ_lt_self _ _ HLT.out
        · have hli : ¬ (i : Int) < (n : Int) := fun h => hlt (Int.ofNat_lt.1 h)
          have H5 : Hid (Past w wr) := Lib.hid (H4.out.trans' HQ.out.2)
          clear HQ hlt hin
          cases hf : fName l s with
          | some j =>
            obtain ⟨hg, hj⟩ := getV_some hf
            rw [HLN.out] at hj
            obtain ⟨vv, hvv⟩ : ∃ v, (l.getD j default).2 = v := ⟨_, rfl⟩
            rw [hvv] at hg
            rw [hg] at HGet
            have HJ := Lib.hid hj
            have HVV := Lib.hid hvv
            clear hf hg hj hvv
            go_wp2_with fail
            refine (HGv.out _ (HPS.out.past H5.out)).mono ?_
            rintro e w6 ⟨A6, c6, rfl, hps, hp⟩
            have H6 := Lib.hid (And.intro (H5.out.trans' hp) hps)
            clear hp hps H5
            go_wp2_with fail
            refine (HGet.out _ _ _ H6.out.2).mono ?_
            rintro e w7 ⟨rfl, hp⟩
            have H7 := Lib.hid (H6.out.1.trans' hp)
            clear hp H6
            go_wp2_with fail
            go_loopg [10] (n - 0) (fun q s10 wx => ∃ k : Nat, s10 = .int .i64 (k : Int) ∧ k ≤ j ∧ q = n - k ∧ wx = w7)
            case atStart => exact ⟨0, rfl, Nat.zero_le _, rfl, rfl⟩
            case round =>
              obtain ⟨k, rfl, hkj, hq, rfl⟩ := hrel
              have HGQ := Lib.hid hq
              clear hq
              have hkn : k < n := Nat.lt_of_le_of_lt hkj HJ.out.1
              have hkz : (k : Int) < (n : Int) := Int.ofNat_lt.2 hkn
              have hk0 : (0 : Int) ≤ (k : Int) := Int.natCast_nonneg k
              obtain ⟨bl, ol, rfl, hl0⟩ := HPS.out.cells (Nat.lt_of_le_of_lt (Nat.zero_le _) hkn)
              obtain ⟨x0, x1⟩ := hl0 k hkn
              rw [← Below.cell H7.out (cell_lt x0)] at x0
              rw [← Below.cell H7.out (cell_lt x1)] at x1
              by_cases hk : k = j
              · subst hk
                have heq := HJ.out.2.1
                have hb : (vv.toList == vv.toList) = true := beq_self_eq_true _
                rw [HVV.out] at x1
                clear hl0 hkj hkn
                generalize (l.getD k default).1 = xx1 at x0 heq
                go_wp2_with fail
                go_ret
                exact ⟨rfl, H7.out⟩
              · have hlt : k < j := Nat.lt_of_le_of_ne hkj hk
                have heq := HJ.out.2.2 k hlt
                have HWK := Lib.hid (wrap_succ k (Nat.lt_of_lt_of_le hkn HN40.out))
                have HLT := Lib.hid (And.intro hlt hkn)
                clear hl0 hkj hkn hk hlt x1
                generalize (l.getD k default).1 = xx1 at x0 heq
                have hwk := HWK.out
                go_wp2_with fail
                go_roundg (n - (k + 1))
                case rel => exact ⟨k + 1, rfl, HLT.out.1, rfl, rfl⟩
                case measure => rw [HGQ.out]; exact Nat.sub_succ_lt_self _ _ HLT.out.2
          | none =>
            obtain ⟨hg, hj⟩ := getV_none hf
            rw [HLN.out] at hj
            rw [hg] at HGet
            have HJ := Lib.hid hj
            clear hf hg hj
            go_wp2_with fail
            refine (HGv.out _ (HPS.out.past H5.out)).mono ?_
            rintro e w6 ⟨A6, c6, rfl, hps, hp⟩
            have H6 := Lib.hid (And.intro (H5.out.trans' hp) hps)
            clear hp hps H5
            go_wp2_with fail
            refine (HGet.out _ _ _ H6.out.2).mono ?_
            rintro e w7 ⟨rfl, hp⟩
            have H7 := Lib.hid (H6.out.1.trans' hp)
            clear hp H6
            go_wp2_with fail
            go_loopg [10] (n - 0) (fun q s10 wx => ∃ k : Nat, s10 = .int .i64 (k : Int) ∧ k ≤ n ∧ q = n - k ∧ wx = w7)
            case atStart => exact ⟨0, rfl, Nat.zero_le _, rfl, rfl⟩
            case round =>
              obtain ⟨k, rfl, hkj, hq, rfl⟩ := hrel
              have HGQ := Lib.hid hq
              clear hq
              by_cases hkn : k < n
              · have hkz : (k : Int) < (n : Int) := Int.ofNat_lt.2 hkn
                have hk0 : (0 : Int) ≤ (k : Int) := Int.natCast_nonneg k
                obtain ⟨bl, ol, rfl, hl0⟩ := HPS.out.cells (Nat.lt_of_le_of_lt (Nat.zero_le _) hkn)
                obtain ⟨x0, x1⟩ := hl0 k hkn
                rw [← Below.cell H7.out (cell_lt x0)] at x0
                rw [← Below.cell H7.out (cell_lt x1)] at x1
                have heq := HJ.out k hkn
                have HWK := Lib.hid (wrap_succ k (Nat.lt_of_lt_of_le hkn HN40.out))
                have HLT := Lib.hid hkn
                clear hl0 hkj hkn x1
                generalize (l.getD k default).1 = xx1 at x0 heq
                have hwk := HWK.out
                go_wp2_with fail
                go_roundg (n - (k + 1))
                case rel => exact ⟨k + 1, rfl, HLT.out, rfl, rfl⟩
                case measure => rw [HGQ.out]; exact Nat.sub_succ_lt_self _ _ HLT.out
              · have hkz : ¬ (k : Int) < (n : Int) := fun h => hkn (Int.ofNat_lt.1 h)
                have hb : (([] : List UInt8) == []) = true := rfl
                clear hkj hkn
                go_wp2_with fail
                go_ret
                exact ⟨rfl, H7.out⟩

def args0 : Array Value := #[.slice none 0 0, .string ⟨#[]⟩]
theorem laid_met (os : Os) : laidMetH Tryd.prog Rows.jsonSortsRow.laid ((laidWorld os).forCall (fun _ _ => 0) ⟨#[], args0, []⟩).memory :=
  laid_world os args0
theorem witness_row (os : Os) {H : Type} (enc : TypeId × Value → H) :
    (OpenSpec.ofChange Rows.jsonSortsSpec).preRow enc Tryd.prog Tryd.f5 Rows.jsonSortsRow.domain false Rows.jsonSortsRow.laid ((laidWorld os).forCall (fun _ _ => 0) ⟨#[], args0, []⟩).memory args0 := by
  have hw : (DataW.whole enc Tryd.prog ((laidWorld os).forCall (fun _ _ => 0) ⟨#[], args0, []⟩).memory Tryd.f5.params.toList (OpenSpec.ofChange Rows.jsonSortsSpec).vars false args0.toList 8).map (fun x => (x.1, x.2.1)) =
      some ([.nil, .lit (.string [])], []) := by kernel_rfl
  obtain ⟨⟨x1, x2, x3⟩, hx, hx1⟩ := Option.map_eq_some_iff.1 hw
  simp only [Prod.mk.injEq] at hx1
  obtain ⟨rfl, rfl⟩ := hx1
  exact OpenSpec.preRow_of_cond 8 hx (by kernel_rfl) (fun k hk => by cases hk) (by kernel_rfl) (laid_met os)

set_option maxRecDepth 100000 in
set_option maxHeartbeats 2000000 in
theorem lifted (os : Os) (started : os.Started) (H : Type) (enc : TypeId × Value → H) (F : Stop.Interp) :
    ReturnsInHanded {} Tryd.checked os 5 .any ((OpenSpec.ofChange Rows.jsonSortsSpec).preRow enc Tryd.prog Tryd.f5 Rows.jsonSortsRow.domain false Rows.jsonSortsRow.laid) (((OpenSpec.ofChange Rows.jsonSortsSpec).at F).post enc Tryd.prog Tryd.f5 false true false false) := by
  refine returnsInHanded_of_row (C := Tryd.checked) (s := OpenSpec.ofChange Rows.jsonSortsSpec) own started (by kernel_rfl) Tryd.func5
    (witness_row_atRef (enc := enc) (C := Tryd.checked) false (laidWorld os) args0 rfl (by kernel_rfl) (by kernel_rfl) (by kernel_rfl) (witness_row os enc)) ?_
  intro W base args ds gs before hval0 hW _ hcnd _ hL hsh _
  have hval : ∀ (j : Nat) t v, Tryd.f5.params[j]? = some t → args[j]? = some v → Value.okWide Tryd.prog W .any base t v := hval0
  have hW' := hW
  obtain ⟨p, q, hA0, hV, rfl, hfz, hnd⟩ := hW
  have hA : DataW.TrodAll enc Tryd.prog W 0 (fun _ => true) true Tryd.f5.params.toList args.toList ds p := hA0
  rw [Tryd.params5] at hA hval
  obtain ⟨v0, vs0, d0, ds0, p0, q0, hargs, rfl, rfl, h0, r0⟩ := trodAll_cons hA
  obtain ⟨v1, vs1, d1, ds1, p1, q1, rfl, rfl, rfl, h1, r1⟩ := trodAll_cons r0
  obtain ⟨rfl, rfl, rfl⟩ := trodAll_nil r1
  obtain rfl : args = #[v0, v1] := by cases args; simp_all
  obtain ⟨rfl, rfl⟩ := trodVars_none hV
  have k0 := h0
  have lt0 : ∀ x ∈ p0, x.block < W.heap.size := by obtain ⟨m, hm⟩ := k0; exact DataW.trod_lt m _ _ _ hm
  obtain ⟨a0, len0, cap0, l0, rfl, w0⟩ := pairs_of h0 (okWide_slice Tryd.underlying29 (hval 0 29 v0 rfl rfl))
  obtain ⟨s1, rfl, rfl, rfl, ws1⟩ := open_string Tryd.underlying9 (hval 1 9 v1 rfl rfl) h1
  have hG := glob_of_row hL hsh
  clear hA0 hval0
  refine (walk a0 len0 cap0 l0 s1 W w0 ws1 hG).mono fun e W' ⟨he, bel⟩ => ?_
  subst he
  exact ⟨_, rfl, _, _, _, [], _, [], hW', trodAll_mk1 (shut_bool Tryd.underlying4 _), (trodAll_cons_mk (Below.trod laidOut (by kernel_rfl) (of_decide_eq_true (by kernel_rfl)) k0 bel lt0) (trodAll_cons_mk (shut_string Tryd.underlying9 ws1) trodAll_mk0)), rfl, bel.frame _, fun h => by cases h⟩

theorem row_holds : Rows.JsonSortsSaid :=
  OpenClaim.holds_of_cond 5 Tryd.f5 rfl rfl rfl rfl rfl rfl rfl ⟨rfl, rfl, rfl, rfl, rfl⟩ rfl rfl rfl rfl rfl (by kernel_rfl) Tryd.func5 (by kernel_rfl)
    (of_decide_eq_true (by kernel_rfl)) (by unfold Func.isWrapper; first | (rw [if_pos (by decide +kernel)]; kernel_rfl) | (rw [if_neg (by decide +kernel)]; exact ⟨rfl, rfl⟩))
    (fun os started H enc _ F0 => by rw [OpenClaim.pre_eq_preRow]; exact lifted os started H enc F0)

theorem card : Rows.JsonSortsCardSaid :=
  Claim7.holds_tied_plain_at .later [] [.data, .handle, .data, .pinned] true Rows.jsonSortsCard.stood.harness true
    row_holds (fun _ h => by cases h) (by kernel_rfl) (fun _ h => by cases h) jsonSorts_row_tie rfl ⟨rfl, rfl⟩ (by kernel_rfl) rfl
    (fun f fn hf hfn => by
      obtain rfl : f = 5 := Option.some.inj ((show Tryd.prog.funcNamed "pyx/pyxlaw11.JsonSorts" = some 5 by kernel_rfl).symm.trans hf) |>.symm
      obtain rfl : fn = Tryd.f5 := (Option.some.inj (Tryd.func5.symm.trans hfn)).symm
      exact ⟨by kernel_rfl, fun j t ht => by
        rw [Tryd.params5] at ht
        have h3 : t = 29 ∨ t = 9 := by
          rcases j with _ | _ | j
          · exact .inl (by simpa using ht.symm)
          · exact .inr (by simpa using ht.symm)
          · simp at ht
        rcases h3 with rfl | rfl
        · exact (show Tryd.prog.wantsStandIn 29 = false by kernel_rfl)
        · exact (show Tryd.prog.wantsStandIn 9 = false by kernel_rfl)⟩)
    (by kernel_rfl)


end Go.Proofs.YtclnoblcdaimiaaDoor.jsonSorts
