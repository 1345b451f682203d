/- The reference's Valid: it says what the program's Valid says. -/
import Derived.Test.YtclnoblcdaimiaaDoorJs11B
import Derived.Test.YtclnoblcdaimiaaDoorPg11H
import Derived.Laws.Cover1
import Derived.Deep.Cut
namespace Go.Proofs.YtclnoblcdaimiaaDoor
open Go.RowKit
set_option linter.unusedVariables false

theorem vld_pair {l : List P2} {i : Nat} (hi : i < l.length) (h : isPairB (l.getD i default) = false) : vldP l = false := by
  unfold vldP
  rw [all_not (f := isPairB) hi h, Bool.and_false]
  rfl
theorem vld_desc {l : List P2} {i : Nat} (hi : i < l.length) (h : descB l i = true) : vldP l = false := by
  unfold vldP
  cases hd : fDesc l with
  | none =>
    have := firstF_not hd i hi
    rw [h] at this
    cases this
  | some j =>
    show (_ && (some j).isNone) = false
    rw [show (some j).isNone = false from rfl, Bool.and_false]
theorem vld_ok {l : List P2} (h20 : l.length ≤ 20) (h1 : ∀ j, j < l.length → isPairB (l.getD j default) = true) (h2 : ∀ j, j < l.length → descB l j = false) : vldP l = decide (lenL l ≤ 1048576) := by
  unfold vldP
  rw [all_getD (f := isPairB) h1, decide_eq_true h20, show fDesc l = none from firstF_none h2]
  simp
theorem isPair_split {a b : ByteArray} (h0 : a.toList.isEmpty = false) (h1 : a.size ≤ 20) : isPairB (a, b) = ((ints a).all letB && (ints b).all plainB) := by
  unfold isPairB nonB longB
  simp only
  rw [h0, decide_eq_false (by omega)]
  rfl
theorem all_at {f : Int → Bool} {xs : List Int} (h : ∀ j, j < xs.length → f (xs.getD j 0) = true) : xs.all f = true := by
  rw [List.all_eq_true]
  intro x hx
  obtain ⟨j, hj, rfl⟩ := List.getElem_of_mem hx
  have := h j hj
  rwa [List.getD_eq_getElem?_getD, List.getElem?_eq_getElem hj] at this
theorem all_bad {f : Int → Bool} {xs : List Int} {i : Nat} (hi : i < xs.length) (h : f (xs.getD i 0) = false) : xs.all f = false := by
  rw [List.all_eq_false]
  refine ⟨xs[i], List.getElem_mem hi, ?_⟩
  rw [List.getD_eq_getElem?_getD, List.getElem?_eq_getElem hi] at h
  rw [show f xs[i] = false from h]
  decide

set_option maxHeartbeats 8000000 in
theorem rvalid11_any (A : Option Addr) (n c : Nat) (l : List P2) (w : World) (h : Ps w A n c l) (hs : lenL l ≤ 100000000) : Calls Tryd.prog 18 #[.slice A n c] w fun e w' => e = .returned (.bool (vldP l)) ∧ Past w w' := by
  have HP := Lib.hid h
  have HL := Lib.hid h.len
  have hbig : (n : Int) ≤ 9223372036854775807 := by
    have h1 := h.cap
    have h2 := h.big
    unfold maxLen at h2
    omega
  have HSZ := Lib.hid hs
  by_cases h20 : 20 < n
  · have hi20 : (20 : Int) < (n : Int) := by omega
    have HV : Hid (vldP l = false) := Lib.hid (by
      unfold vldP
      rw [decide_eq_false (by rw [h.len]; omega)]
      rfl)
    clear h hs h20
    go_enter Tryd.func18, Tryd.ntmps18
    go_wp2_with fail
    go_ret
    exact ⟨by rw [HV.out]; rfl, Below.refl _ _⟩
  · have hi20 : ¬ (20 : Int) < (n : Int) := by omega
    have H20 : Hid (l.length ≤ 20) := Lib.hid (by rw [h.len]; omega)
    have HT := Lib.hid (fun w h => rtext11_any A n c l w h (by rw [textP_size]; omega))
    have HTS := Lib.hid (textP_size l)
    have HLe := Lib.hid rletter_any
    have HPl := Lib.hid rplain_any
    clear h hs h20
    go_enter Tryd.func18, Tryd.ntmps18
    go_wp2_with fail
    go_loopg [3, 4, 5, 6] n (fun q s3 s4 s5 s6 wx => ∃ i : Nat, i ≤ n ∧ q = n - i ∧ s3 = .int .i64 (i : Int) ∧ Hid ((∀ j, j < i → isPairB (l.getD j default) = true ∧ descB l j = false) ∧ Past w wx))
    case atStart => exact ⟨0, Nat.zero_le _, rfl, rfl, Lib.hid ⟨fun j hj => absurd hj (Nat.not_lt_zero j), Below.refl _ _⟩⟩
    case round =>
      obtain ⟨i, hi, hgk, rfl, HQ⟩ := hrel
      have HGK := Lib.hid hgk
      clear hgk
      by_cases hlt : i < n
      · have hli : (i : Int) < (n : Int) := by omega
        obtain ⟨b, o, rfl, hc⟩ := HP.out.cells (by omega)
        obtain ⟨f0, f1⟩ := hc i (by omega)
        rw [← Below.cell HQ.out.2 (cell_lt f0)] at f0
        rw [← Below.cell HQ.out.2 (cell_lt f1)] at f1
        have HLT := Lib.hid hlt
        have hi0 : (0 : Int) ≤ (i : Int) := by omega
        have hpl := plenN_le l i (by rw [HL.out]; exact hlt)
        have hsz := HSZ.out
        obtain ⟨p, hp⟩ : ∃ p, l.getD i default = p := ⟨_, rfl⟩
        rw [hp] at f0 f1 hpl
        obtain ⟨a, b'⟩ := p
        have hpe : plenN (a, b') = 5 + a.size + b'.size := rfl
        have hasz : (a.size : Int) ≤ 100000000 := by omega
        have hbsz : (b'.size : Int) ≤ 100000000 := by omega
        have HPE := Lib.hid hp
        obtain ⟨g, hg⟩ : ∃ g, wr.heap.size = g := ⟨_, rfl⟩
        obtain ⟨wb, hwb⟩ : ∃ wb, wb = wr.alloc (.cells #[.string a, .string b'] 48) := ⟨_, rfl⟩
        have HB : Hid (Row wb g 48 #[.string a, .string b'] ∧ Past w wb) := Lib.hid (by
          rw [hwb, ← hg]
          exact ⟨Row.new _ _ _, HQ.out.2.trans' (past_alloc8 _ _)⟩)
        have HHC := Lib.hid (fun j hj => (hc j hj).1)
        have HWB := Lib.hid hwb
        have HGG := Lib.hid hg
        clear hc hlt hp hpl hpe hsz hi hwb hg
        go_upto_region 7 with (fail)
        rw [← HWB.out]
        try rw [HGG.out]
        clear HWB HGG f0 f1
        have x0 : wb.cell? ⟨g, 0, none⟩ = some (.string a) := HB.out.1.cell 0
        have x1 : wb.cell? ⟨g, 1, none⟩ = some (.string b') := HB.out.1.cell 1
        have HIX := Lib.hid (fun (s : ByteArray) k hk w => idx_str s k hk w)
        cases he : a.toList.isEmpty with
        | true =>
          have HV : Hid (vldP l = false) := Lib.hid (vld_pair (i := i) (by rw [HL.out]; exact HLT.out) (by
            rw [HPE.out]
            unfold isPairB nonB
            simp only
            rw [he]
            rfl))
          go_quiet (fail)
          go_wp2_with fail
          go_ret
          exact ⟨by rw [HV.out]; rfl, HB.out.2.drewN _⟩
        | false =>
          by_cases hlg : 20 < a.size
          · have hlgi : (20 : Int) < (a.size : Int) := by omega
            have HV : Hid (vldP l = false) := Lib.hid (vld_pair (i := i) (by rw [HL.out]; exact HLT.out) (by
              rw [HPE.out]
              unfold isPairB longB
              simp only
              rw [decide_eq_true hlg, show (!true) = false from rfl, Bool.and_false]
              rfl))
            clear hlg
            go_quiet (fail)
            go_wp2_with fail
            go_ret
            exact ⟨by rw [HV.out]; rfl, HB.out.2.drewN _⟩
          · have hlgi : ¬ (20 : Int) < (a.size : Int) := by omega
            have HPB : Hid (isPairB (a, b') = ((ints a).all letB && (ints b').all plainB)) := Lib.hid (isPair_split he (by omega))
            clear hlg
            cases hd : descB l i with
            | true =>
              have HV : Hid (vldP l = false) := Lib.hid (vld_desc (i := i) (by rw [HL.out]; exact HLT.out) hd)
              unfold descB at hd
              rw [Bool.and_eq_true] at hd
              obtain ⟨hd1, hd2⟩ := hd
              have hi1 : 1 ≤ i := of_decide_eq_true hd1
              have h0n : 0 < i := hi1
              have h0i : (0 : Int) < (i : Int) := by omega
              obtain ⟨k, hk⟩ : ∃ k, i - 1 = k := ⟨_, rfl⟩
              have g0 := HHC.out k (by have := HLT.out; omega)
              rw [← Below.cell HB.out.2 (cell_lt g0)] at g0
              rw [HPE.out, hk] at hd2
              obtain ⟨q, hq⟩ : ∃ q, l.getD k default = q := ⟨_, rfl⟩
              rw [hq] at g0 hd2
              obtain ⟨a2, b2'⟩ := q
              have hle' : (Go.Op.bytesLess a.toList a2.toList || (a.toList == a2.toList)) = true := hd2
              have hk0 : (0 : Int) ≤ (k : Int) := by omega
              have hsubw : IntKind.i64.wrap ((i : Int) - 1) = (k : Int) := by rw [IntKind.wrap_i64]; omega
              have hsub : (i : Int) - 1 = (k : Int) := by omega
              have hkn : (k : Int) < (n : Int) := by omega
              clear hd1 hd2 hi1 hk hq
              go_quiet (fail)
              go_wp2_with fail
              go_ret
              exact ⟨by rw [HV.out]; rfl, HB.out.2.drewN _⟩
            | false =>
              have HD := Lib.hid hd
              obtain ⟨wc, hwc⟩ : ∃ wc : Nat → World, wc = fun q => wb.drewN q := ⟨_, rfl⟩
              rcases Nat.eq_zero_or_pos i with h0 | h0
              · subst h0
                clear hd
                go_quiet (fail)
                have HB2 : Hid (Row (wb.drewN nq) g 48 #[.string a, .string b'] ∧ Past w (wb.drewN nq)) := Lib.hid ⟨HB.out.1, HB.out.2.drewN _⟩
                obtain ⟨wk, hwk⟩ : ∃ wk, wk = wb.drewN nq := ⟨_, rfl⟩
                rw [← hwk] at HB2 ⊢
                clear hwk x0 x1 hwc HB
                have x0 : wk.cell? ⟨g, 0, none⟩ = some (.string a) := HB2.out.1.cell 0
                have x1 : wk.cell? ⟨g, 1, none⟩ = some (.string b') := HB2.out.1.cell 1
                go_wp2_with fail
                go_loopg [5] a.size (fun q s5 wx => ∃ m : Nat, m ≤ a.size ∧ q = a.size - m ∧ s5 = .int .i64 (m : Int) ∧ wk = wx ∧ Hid (∀ j, j < m → letB ((ints a).getD j 0) = true))
                case atStart => exact ⟨0, Nat.zero_le _, rfl, rfl, rfl, Lib.hid fun j hj => absurd hj (Nat.not_lt_zero j)⟩
                case round =>
                  obtain ⟨m, hm, hgk, rfl, rfl, HM⟩ := hrel
                  have HGK2 := Lib.hid hgk
                  clear hgk
                  by_cases hmz : m < a.size
                  · have hmi : (m : Int) < (a.size : Int) := by omega
                    have hm0 : (0 : Int) ≤ (m : Int) := by omega
                    have HMZ := Lib.hid hmz
                    have hx := fun w => HIX.out a m (hmz) w
                    obtain ⟨x, hxe⟩ : ∃ x, (ints a).getD m 0 = x := ⟨_, rfl⟩
                    rw [hxe] at hx
                    have HXE := Lib.hid hxe
                    have HCX := Lib.hid (HLe.out x)
                    clear hmz hm hxe
                    cases hq2 : letB x with
                    | true =>
                      rw [hq2] at HCX
                      have HR : Hid (∀ j, j < m + 1 → letB ((ints a).getD j 0) = true) := Lib.hid fun j hj => by
                        by_cases hji : j = m
                        · rw [hji, HXE.out]; exact hq2
                        · exact HM.out j (by omega)
                      clear hq2
                      go_wp2_with fail
                      refine (HCX.out _).mono ?_
                      rintro e w' ⟨rfl, rfl⟩
                      go_wp2_with fail
                      go_roundg (a.size - (m + 1))
                      case rel => exact ⟨m + 1, by have := HMZ.out; omega, rfl, by go_num, rfl, HR⟩
                      case measure => have := HGK2.out; have := HMZ.out; omega
                    | false =>
                      rw [hq2] at HCX
                      have HV : Hid (vldP l = false) := Lib.hid (vld_pair (i := 0) (by rw [HL.out]; exact HLT.out) (by
                        rw [HPE.out, HPB.out, all_bad (f := letB) (i := m) (by rw [ints_len]; exact HMZ.out) (by rw [HXE.out]; exact hq2)]
                        rfl))
                      clear hq2
                      go_wp2_with fail
                      refine (HCX.out _).mono ?_
                      rintro e w' ⟨rfl, rfl⟩
                      go_wp2_with fail
                      go_ret
                      exact ⟨by rw [HV.out]; rfl, HB2.out.2⟩
                  · obtain rfl : m = a.size := by omega
                    have hmi : ¬ (a.size : Int) < (a.size : Int) := by omega
                    have HAL : Hid ((ints a).all letB = true) := Lib.hid (all_at fun j hj => HM.out j (by rw [ints_len] at hj; exact hj))
                    clear hmz hm
                    go_wp2_with fail
                    go_loopg [6] b'.size (fun q s6 wx => ∃ k : Nat, k ≤ b'.size ∧ q = b'.size - k ∧ s6 = .int .i64 (k : Int) ∧ wk = wx ∧ Hid (∀ j, j < k → plainB ((ints b').getD j 0) = true))
                    case atStart => exact ⟨0, Nat.zero_le _, rfl, rfl, rfl, Lib.hid fun j hj => absurd hj (Nat.not_lt_zero j)⟩
                    case round =>
                      obtain ⟨kk, hk, hgk, rfl, rfl, HK⟩ := hrel
                      have HGK3 := Lib.hid hgk
                      clear hgk
                      by_cases hkz : kk < b'.size
                      · have hki : (kk : Int) < (b'.size : Int) := by omega
                        have hkk0 : (0 : Int) ≤ (kk : Int) := by omega
                        have HKZ := Lib.hid hkz
                        have hx := fun w => HIX.out b' kk (hkz) w
                        obtain ⟨x, hxe⟩ : ∃ x, (ints b').getD kk 0 = x := ⟨_, rfl⟩
                        rw [hxe] at hx
                        have HXE := Lib.hid hxe
                        have HCX := Lib.hid (HPl.out x)
                        clear hkz hk hxe
                        cases hq2 : plainB x with
                        | true =>
                          rw [hq2] at HCX
                          have HR : Hid (∀ j, j < kk + 1 → plainB ((ints b').getD j 0) = true) := Lib.hid fun j hj => by
                            by_cases hji : j = kk
                            · rw [hji, HXE.out]; exact hq2
                            · exact HK.out j (by omega)
                          clear hq2
                          go_wp2_with fail
                          refine (HCX.out _).mono ?_
                          rintro e w' ⟨rfl, rfl⟩
                          go_wp2_with fail
                          go_roundg (b'.size - (kk + 1))
                          case rel => exact ⟨kk + 1, by have := HKZ.out; omega, rfl, by go_num, rfl, HR⟩
                          case measure => have := HGK3.out; have := HKZ.out; omega
                        | false =>
                          rw [hq2] at HCX
                          have HV : Hid (vldP l = false) := Lib.hid (vld_pair (i := 0) (by rw [HL.out]; exact HLT.out) (by
                            rw [HPE.out, HPB.out, all_bad (f := plainB) (i := kk) (by rw [ints_len]; exact HKZ.out) (by rw [HXE.out]; exact hq2), Bool.and_false]))
                          clear hq2
                          go_wp2_with fail
                          refine (HCX.out _).mono ?_
                          rintro e w' ⟨rfl, rfl⟩
                          go_wp2_with fail
                          go_ret
                          exact ⟨by rw [HV.out]; rfl, HB2.out.2⟩
                      · obtain rfl : kk = b'.size := by omega
                        have hki : ¬ (b'.size : Int) < (b'.size : Int) := by omega
                        have HR : Hid (∀ j, j < 0 + 1 → isPairB (l.getD j default) = true ∧ descB l j = false) := Lib.hid fun j hj => by
                          by_cases hji : j = 0
                          · subst hji
                            refine ⟨?_, HD.out⟩
                            rw [HPE.out, HPB.out, HAL.out, all_at (f := plainB) fun j hj => HK.out j (by rw [ints_len] at hj; exact hj)]
                            rfl
                          · exact HQ.out.1 j (by omega)
                        clear hkz hk
                        go_wp2_with fail
                        go_roundg (n - (0 + 1))
                        case rel => exact ⟨0 + 1, by have := HLT.out; omega, rfl, by go_num, Lib.hid ⟨HR.out, HB2.out.2⟩⟩
                        case measure => have := HGK.out; have := HLT.out; omega
              · have h0i : (0 : Int) < (i : Int) := by omega
                have h0n : 0 < i := by omega
                obtain ⟨k, hk⟩ : ∃ k, i - 1 = k := ⟨_, rfl⟩
                have g0 := HHC.out k (by have := HLT.out; omega)
                rw [← Below.cell HB.out.2 (cell_lt g0)] at g0
                unfold descB at hd
                rw [decide_eq_true (by omega), Bool.true_and, HPE.out, hk] at hd
                obtain ⟨q, hq⟩ : ∃ q, l.getD k default = q := ⟨_, rfl⟩
                rw [hq] at g0 hd
                obtain ⟨a2, b2'⟩ := q
                have hle' : (Go.Op.bytesLess a.toList a2.toList || (a.toList == a2.toList)) = false := hd
                have hk0 : (0 : Int) ≤ (k : Int) := by omega
                have hsubw : IntKind.i64.wrap ((i : Int) - 1) = (k : Int) := by rw [IntKind.wrap_i64]; omega
                have hsub : (i : Int) - 1 = (k : Int) := by omega
                have hkn : (k : Int) < (n : Int) := by omega
                clear hd h0 hk hq
                go_quiet (fail)
                have HB2 : Hid (Row (wb.drewN nq) g 48 #[.string a, .string b'] ∧ Past w (wb.drewN nq)) := Lib.hid ⟨HB.out.1, HB.out.2.drewN _⟩
                obtain ⟨wk, hwk⟩ : ∃ wk, wk = wb.drewN nq := ⟨_, rfl⟩
                rw [← hwk] at HB2 ⊢
                clear hwk x0 x1 hwc HB
                have x0 : wk.cell? ⟨g, 0, none⟩ = some (.string a) := HB2.out.1.cell 0
                have x1 : wk.cell? ⟨g, 1, none⟩ = some (.string b') := HB2.out.1.cell 1
                go_wp2_with fail
                go_loopg [5] a.size (fun q s5 wx => ∃ m : Nat, m ≤ a.size ∧ q = a.size - m ∧ s5 = .int .i64 (m : Int) ∧ wk = wx ∧ Hid (∀ j, j < m → letB ((ints a).getD j 0) = true))
                case atStart => exact ⟨0, Nat.zero_le _, rfl, rfl, rfl, Lib.hid fun j hj => absurd hj (Nat.not_lt_zero j)⟩
                case round =>
                  obtain ⟨m, hm, hgk, rfl, rfl, HM⟩ := hrel
                  have HGK2 := Lib.hid hgk
                  clear hgk
                  by_cases hmz : m < a.size
                  · have hmi : (m : Int) < (a.size : Int) := by omega
                    have hm0 : (0 : Int) ≤ (m : Int) := by omega
                    have HMZ := Lib.hid hmz
                    have hx := fun w => HIX.out a m (hmz) w
                    obtain ⟨x, hxe⟩ : ∃ x, (ints a).getD m 0 = x := ⟨_, rfl⟩
                    rw [hxe] at hx
                    have HXE := Lib.hid hxe
                    have HCX := Lib.hid (HLe.out x)
                    clear hmz hm hxe
                    cases hq2 : letB x with
                    | true =>
                      rw [hq2] at HCX
                      have HR : Hid (∀ j, j < m + 1 → letB ((ints a).getD j 0) = true) := Lib.hid fun j hj => by
                        by_cases hji : j = m
                        · rw [hji, HXE.out]; exact hq2
                        · exact HM.out j (by omega)
                      clear hq2
                      go_wp2_with fail
                      refine (HCX.out _).mono ?_
                      rintro e w' ⟨rfl, rfl⟩
                      go_wp2_with fail
                      go_roundg (a.size - (m + 1))
                      case rel => exact ⟨m + 1, by have := HMZ.out; omega, rfl, by go_num, rfl, HR⟩
                      case measure => have := HGK2.out; have := HMZ.out; omega
                    | false =>
                      rw [hq2] at HCX
                      have HV : Hid (vldP l = false) := Lib.hid (vld_pair (i := i) (by rw [HL.out]; exact HLT.out) (by
                        rw [HPE.out, HPB.out, all_bad (f := letB) (i := m) (by rw [ints_len]; exact HMZ.out) (by rw [HXE.out]; exact hq2)]
                        rfl))
                      clear hq2
                      go_wp2_with fail
                      refine (HCX.out _).mono ?_
                      rintro e w' ⟨rfl, rfl⟩
                      go_wp2_with fail
                      go_ret
                      exact ⟨by rw [HV.out]; rfl, HB2.out.2⟩
                  · obtain rfl : m = a.size := by omega
                    have hmi : ¬ (a.size : Int) < (a.size : Int) := by omega
                    have HAL : Hid ((ints a).all letB = true) := Lib.hid (all_at fun j hj => HM.out j (by rw [ints_len] at hj; exact hj))
                    clear hmz hm
                    go_wp2_with fail
                    go_loopg [6] b'.size (fun q s6 wx => ∃ k : Nat, k ≤ b'.size ∧ q = b'.size - k ∧ s6 = .int .i64 (k : Int) ∧ wk = wx ∧ Hid (∀ j, j < k → plainB ((ints b').getD j 0) = true))
                    case atStart => exact ⟨0, Nat.zero_le _, rfl, rfl, rfl, Lib.hid fun j hj => absurd hj (Nat.not_lt_zero j)⟩
                    case round =>
                      obtain ⟨kk, hk, hgk, rfl, rfl, HK⟩ := hrel
                      have HGK3 := Lib.hid hgk
                      clear hgk
                      by_cases hkz : kk < b'.size
                      · have hki : (kk : Int) < (b'.size : Int) := by omega
                        have hkk0 : (0 : Int) ≤ (kk : Int) := by omega
                        have HKZ := Lib.hid hkz
                        have hx := fun w => HIX.out b' kk (hkz) w
                        obtain ⟨x, hxe⟩ : ∃ x, (ints b').getD kk 0 = x := ⟨_, rfl⟩
                        rw [hxe] at hx
                        have HXE := Lib.hid hxe
                        have HCX := Lib.hid (HPl.out x)
                        clear hkz hk hxe
                        cases hq2 : plainB x with
                        | true =>
                          rw [hq2] at HCX
                          have HR : Hid (∀ j, j < kk + 1 → plainB ((ints b').getD j 0) = true) := Lib.hid fun j hj => by
                            by_cases hji : j = kk
                            · rw [hji, HXE.out]; exact hq2
                            · exact HK.out j (by omega)
                          clear hq2
                          go_wp2_with fail
                          refine (HCX.out _).mono ?_
                          rintro e w' ⟨rfl, rfl⟩
                          go_wp2_with fail
                          go_roundg (b'.size - (kk + 1))
                          case rel => exact ⟨kk + 1, by have := HKZ.out; omega, rfl, by go_num, rfl, HR⟩
                          case measure => have := HGK3.out; have := HKZ.out; omega
                        | false =>
                          rw [hq2] at HCX
                          have HV : Hid (vldP l = false) := Lib.hid (vld_pair (i := i) (by rw [HL.out]; exact HLT.out) (by
                            rw [HPE.out, HPB.out, all_bad (f := plainB) (i := kk) (by rw [ints_len]; exact HKZ.out) (by rw [HXE.out]; exact hq2), Bool.and_false]))
                          clear hq2
                          go_wp2_with fail
                          refine (HCX.out _).mono ?_
                          rintro e w' ⟨rfl, rfl⟩
                          go_wp2_with fail
                          go_ret
                          exact ⟨by rw [HV.out]; rfl, HB2.out.2⟩
                      · obtain rfl : kk = b'.size := by omega
                        have hki : ¬ (b'.size : Int) < (b'.size : Int) := by omega
                        have HR : Hid (∀ j, j < i + 1 → isPairB (l.getD j default) = true ∧ descB l j = false) := Lib.hid fun j hj => by
                          by_cases hji : j = i
                          · subst hji
                            refine ⟨?_, HD.out⟩
                            rw [HPE.out, HPB.out, HAL.out, all_at (f := plainB) fun j hj => HK.out j (by rw [ints_len] at hj; exact hj)]
                            rfl
                          · exact HQ.out.1 j (by omega)
                        clear hkz hk
                        go_wp2_with fail
                        go_roundg (n - (i + 1))
                        case rel => exact ⟨i + 1, by have := HLT.out; omega, rfl, by go_num, Lib.hid ⟨HR.out, HB2.out.2⟩⟩
                        case measure => have := HGK.out; have := HLT.out; omega
      · obtain rfl : i = n := by omega
        have hli : ¬ (i : Int) < (i : Int) := by omega
        have HV : Hid (vldP l = decide (lenL l ≤ 1048576)) := Lib.hid (vld_ok H20.out (fun j hj => (HQ.out.1 j (by rw [HL.out] at hj; exact hj)).1) (fun j hj => (HQ.out.1 j (by rw [HL.out] at hj; exact hj)).2))
        clear hlt hi
        obtain ⟨T, hT⟩ : ∃ T, textP l = T := ⟨_, rfl⟩
        rw [hT] at HT HTS
        clear hT
        by_cases hz : lenL l ≤ 1048576
        · have hzi : (T.size : Int) ≤ 1048576 := by have := HTS.out; omega
          rw [decide_eq_true hz] at HV
          clear hz
          go_wp2_with fail
          refine (HT.out _ (HP.out.past HQ.out.2)).mono ?_
          rintro e w' ⟨rfl, q, rfl⟩
          go_wp2_with fail
          go_ret
          exact ⟨by rw [HV.out]; rfl, HQ.out.2.drewN _⟩
        · have hzi : ¬ (T.size : Int) ≤ 1048576 := by have := HTS.out; omega
          have hzb : decide ((T.size : Int) ≤ 1048576) = false := decide_eq_false hzi
          rw [decide_eq_false hz] at HV
          clear hz
          go_wp2_with fail
          refine (HT.out _ (HP.out.past HQ.out.2)).mono ?_
          rintro e w' ⟨rfl, q, rfl⟩
          go_wp2_with fail
          go_ret
          exact ⟨by rw [HV.out]; rfl, HQ.out.2.drewN _⟩

end Go.Proofs.YtclnoblcdaimiaaDoor
