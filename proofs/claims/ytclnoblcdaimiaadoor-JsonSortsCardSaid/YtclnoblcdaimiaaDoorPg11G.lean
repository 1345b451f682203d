/- Whether a pair is one; whether pairs are an object. -/
import Derived.Test.YtclnoblcdaimiaaDoorPg11F
namespace Go.Proofs.YtclnoblcdaimiaaDoor
open Go.RowKit
set_option linter.unusedVariables false

def nonB (a : ByteArray) : Bool := !a.toList.isEmpty
def isPairB (p : P2) : Bool := nonB p.1 && !longB p && (ints p.1).all letB && (ints p.2).all plainB
theorem alloc_row {w w1 w2 : World} {t : TypeId} {cs : Array Value} (h1 : w1 = w.alloc (.cells cs t)) (hp : Past w1 w2) : Row w2 w.heap.size t cs ∧ Past w w2 := by
  subst h1
  exact ⟨(Row.new w t cs).past hp, (past_alloc8 _ _).trans' hp⟩

set_option maxHeartbeats 2000000 in
theorem isPair_any (a b : ByteArray) (w : World) (ha : a.size ≤ 100000000) (hb : b.size ≤ 100000000) : Calls Tryd.prog 31 #[.agg #[.string a, .string b]] w fun e w' => e = .returned (.bool (isPairB (a, b))) ∧ Past w w' := by
  have HLo := Lib.hid (fun w => long_any a b w)
  have HLe := Lib.hid (fun w => allL_any a ha w)
  have HPl := Lib.hid (fun w => allT_any b hb w)
  have HB : Hid (isPairB (a, b) = (nonB a && !longB (a, b) && (ints a).all letB && (ints b).all plainB)) := Lib.hid rfl
  obtain ⟨g, hg⟩ : ∃ g, w.heap.size = g := ⟨_, rfl⟩
  obtain ⟨w1, hw1⟩ : ∃ w1, w1 = w.alloc (.cells #[.string a, .string b] 54) := ⟨_, rfl⟩
  have H1 : Hid (Row w1 g 54 #[.string a, .string b] ∧ Past w w1) := Lib.hid (by rw [← hg]; exact alloc_row hw1 (Below.refl _ _))
  have HW1 := Lib.hid hw1
  have HG := Lib.hid hg
  clear ha hb hw1 hg
  cases hn : nonB a with
  | false =>
    rw [hn] at HB
    have hn' : a.toList.isEmpty = true := by
      unfold nonB at hn
      cases h : a.toList.isEmpty with
      | true => rfl
      | false => rw [h] at hn; cases hn
    clear hn
    go_enter Tryd.func31, Tryd.ntmps31
    go_wp2_with fail
    go_ret
    exact ⟨by rw [HB.out]; rfl, past_alloc8 _ _⟩
  | true =>
    rw [hn] at HB
    have hn' : a.toList.isEmpty = false := by
      unfold nonB at hn
      cases h : a.toList.isEmpty with
      | false => rfl
      | true => rw [h] at hn; cases hn
    clear hn
    go_enter Tryd.func31, Tryd.ntmps31
    go_upto_region 1 with (fail)
    rw [← HW1.out]
    try rw [HG.out]
    clear HW1 HG
    have f0 : w1.cell? ⟨g, 0, none⟩ = some (.string a) := H1.out.1.cell 0
    have f1 : w1.cell? ⟨g, 1, none⟩ = some (.string b) := H1.out.1.cell 1
    go_wp2_with fail
    refine (HLo.out _).mono ?_
    rintro e w2 ⟨rfl, hp⟩
    have H2 : Hid (Row w2 g 54 #[.string a, .string b] ∧ Past w w2) := Lib.hid ⟨H1.out.1.past hp, H1.out.2.trans' hp⟩
    clear hp f0 f1 H1
    have f0 : w2.cell? ⟨g, 0, none⟩ = some (.string a) := H2.out.1.cell 0
    have f1 : w2.cell? ⟨g, 1, none⟩ = some (.string b) := H2.out.1.cell 1
    cases hl : longB (a, b) with
    | true =>
      rw [hl] at HB
      clear hl
      go_wp2_with fail
      go_ret
      exact ⟨by rw [HB.out]; rfl, H2.out.2⟩
    | false =>
      rw [hl] at HB
      clear hl
      go_wp2_with fail
      refine (HLe.out _).mono ?_
      rintro e w3 ⟨rfl, hp⟩
      have H3 : Hid (Row w3 g 54 #[.string a, .string b] ∧ Past w w3) := Lib.hid ⟨H2.out.1.past hp, H2.out.2.trans' hp⟩
      clear hp f0 f1 H2
      have f0 : w3.cell? ⟨g, 0, none⟩ = some (.string a) := H3.out.1.cell 0
      have f1 : w3.cell? ⟨g, 1, none⟩ = some (.string b) := H3.out.1.cell 1
      cases hl : (ints a).all letB with
      | false =>
        rw [hl] at HB
        clear hl
        go_wp2_with fail
        go_ret
        exact ⟨by rw [HB.out]; rfl, H3.out.2⟩
      | true =>
        rw [hl] at HB
        clear hl
        go_wp2_with fail
        refine (HPl.out _).mono ?_
        rintro e w4 ⟨rfl, hp⟩
        have H4 : Hid (Past w w4) := Lib.hid (H3.out.2.trans' hp)
        clear hp f0 f1 H3
        cases hl : (ints b).all plainB with
        | false =>
          rw [hl] at HB
          clear hl
          go_wp2_with fail
          go_ret
          exact ⟨by rw [HB.out]; rfl, H4.out⟩
        | true =>
          rw [hl] at HB
          clear hl
          go_wp2_with fail
          go_ret
          exact ⟨by rw [HB.out]; rfl, H4.out⟩

/-- Whether pairs are an object. -/
def vldP (l : List P2) : Bool := decide (l.length ≤ 20) && decide (lenL l ≤ 1048576) && l.all isPairB && (fDesc l).isNone
theorem plenN_le (l : List P2) (i : Nat) (hi : i < l.length) : plenN (l.getD i default) ≤ lenL l := by
  have h := lenP_mono l (i + 1) (l.length - (i + 1))
  rw [show i + 1 + (l.length - (i + 1)) = l.length by omega] at h
  have h2 : lenP l (i + 1) = lenP l i + plenN (l.getD i default) := rfl
  unfold lenL
  omega
theorem all_getD {l : List P2} {f : P2 → Bool} (h : ∀ j, j < l.length → f (l.getD j default) = true) : l.all f = true := by
  rw [List.all_eq_true]
  intro x hx
  obtain ⟨j, hj, rfl⟩ := List.getElem_of_mem hx
  have := h j hj
  rwa [List.getD_eq_getElem?_getD, List.getElem?_eq_getElem hj] at this
theorem all_not {l : List P2} {f : P2 → Bool} {i : Nat} (hi : i < l.length) (h : f (l.getD i default) = false) : l.all f = false := by
  rw [List.all_eq_false]
  refine ⟨l[i], List.getElem_mem hi, ?_⟩
  rw [List.getD_eq_getElem?_getD, List.getElem?_eq_getElem hi] at h
  rw [show f l[i] = false from h]
  decide
set_option maxHeartbeats 2000000 in
theorem valid11_any (A : Option Addr) (n c : Nat) (l : List P2) (w : World) (h : Ps w A n c l) (hs : lenL l ≤ 100000000) : Calls Tryd.prog 17 #[.slice A n c] w fun e w' => e = .returned (.bool (vldP l)) ∧ Past w w' := by
  have HP := Lib.hid h
  have HL := Lib.hid h.len
  have hbig : (n : Int) ≤ 9223372036854775807 := by
    have h1 := h.cap
    have h2 := h.big
    unfold maxLen at h2
    omega
  have HSZ := Lib.hid hs
  by_cases h20 : 20 < n
  · have hi20 : (20 : Int) < (n : Int) := by omega
    have HV : Hid (vldP l = false) := Lib.hid (by
      unfold vldP
      rw [decide_eq_false (by rw [h.len]; omega)]
      rfl)
    clear h hs h20
    go_enter Tryd.func17, Tryd.ntmps17
    go_wp2_with fail
    go_ret
    exact ⟨by rw [HV.out]; rfl, Below.refl _ _⟩
  · have hi20 : ¬ (20 : Int) < (n : Int) := by omega
    have HLe := Lib.hid (fun w h => length_any A n c l w h hs (by omega))
    have HDe := Lib.hid (fun w h => descent_any A n c l w h (by omega))
    have HD1 : Hid (decide (l.length ≤ 20) = true) := Lib.hid (decide_eq_true (by rw [h.len]; omega))
    have hn20 : n ≤ 20 := by omega
    obtain ⟨L, hL⟩ : ∃ L, lenL l = L := ⟨_, rfl⟩
    rw [hL] at HLe hs
    have HLL := Lib.hid hL
    clear h h20 hL
    by_cases hbg : 1048576 < L
    · have hbi : (1048576 : Int) < (L : Int) := by omega
      have HV : Hid (vldP l = false) := Lib.hid (by
        unfold vldP
        rw [decide_eq_false (show ¬ lenL l ≤ 1048576 by rw [HLL.out]; omega), Bool.and_false]
        rfl)
      clear hbg
      go_enter Tryd.func17, Tryd.ntmps17
      go_wp2_with fail
      refine (HLe.out _ HP.out).mono ?_
      rintro e w1 ⟨rfl, hp⟩
      have H1 := Lib.hid hp
      clear hp
      go_wp2_with fail
      go_ret
      exact ⟨by rw [HV.out]; rfl, H1.out⟩
    · have hbi : ¬ (1048576 : Int) < (L : Int) := by omega
      have HD2 : Hid (decide (lenL l ≤ 1048576) = true) := Lib.hid (decide_eq_true (by rw [HLL.out]; omega))
      clear hbg
      go_enter Tryd.func17, Tryd.ntmps17
      go_wp2_with fail
      refine (HLe.out _ HP.out).mono ?_
      rintro e w1 ⟨rfl, hp⟩
      have H1 := Lib.hid hp
      clear hp
      go_wp2_with fail
      go_loopg [4, 15] n (fun q s4 s15 wx => ∃ i : Nat, i ≤ n ∧ q = n - i ∧ s15 = .int .i64 (i : Int) ∧ Hid ((∀ j, j < i → isPairB (l.getD j default) = true) ∧ Past w wx))
      case atStart => exact ⟨0, Nat.zero_le _, rfl, rfl, Lib.hid ⟨fun j hj => absurd hj (Nat.not_lt_zero j), H1.out⟩⟩
      case round =>
        obtain ⟨i, hi, hgk, rfl, HQ⟩ := hrel
        have HGK := Lib.hid hgk
        clear hgk
        by_cases hlt : i < n
        · have hli : (i : Int) < (n : Int) := by omega
          obtain ⟨b, o, rfl, hc⟩ := HP.out.cells (by omega)
          obtain ⟨f0, f1⟩ := hc i (by omega)
          rw [← Below.cell HQ.out.2 (cell_lt f0)] at f0
          rw [← Below.cell HQ.out.2 (cell_lt f1)] at f1
          have HLT := Lib.hid hlt
          have hi0 : (0 : Int) ≤ (i : Int) := by omega
          have hpl := plenN_le l i (by rw [HL.out]; exact hlt)
          have hsz := HSZ.out
          obtain ⟨p, hp⟩ : ∃ p, l.getD i default = p := ⟨_, rfl⟩
          rw [hp] at f0 f1 hpl
          obtain ⟨a, b'⟩ := p
          have hpe : plenN (a, b') = 5 + a.size + b'.size := rfl
          have HC := Lib.hid (fun w => isPair_any a b' w (by omega) (by omega))
          have HPE := Lib.hid hp
          clear hc hlt hp hpl hpe hsz hi
          cases hq : isPairB (a, b') with
          | false =>
            rw [hq] at HC
            have HV : Hid (vldP l = false) := Lib.hid (by
              unfold vldP
              rw [all_not (f := isPairB) (i := i) (by rw [HL.out]; exact HLT.out) (by rw [HPE.out]; exact hq), Bool.and_false]
              rfl)
            clear hq
            go_wp2_with fail
            refine (HC.out _).mono ?_
            rintro e w' ⟨rfl, hp'⟩
            have HP' : Hid (Past w w') := Lib.hid ((HQ.out.2.trans' (past_alloc8 _ _)).trans' hp')
            clear hp'
            go_wp2_with fail
            go_ret
            exact ⟨by rw [HV.out]; rfl, HP'.out⟩
          | true =>
            rw [hq] at HC
            have HR : Hid (∀ j, j < i + 1 → isPairB (l.getD j default) = true) := Lib.hid fun j hj => by
              by_cases hji : j = i
              · rw [hji, HPE.out]; exact hq
              · exact HQ.out.1 j (by omega)
            clear hq
            go_wp2_with fail
            refine (HC.out _).mono ?_
            rintro e w' ⟨rfl, hp'⟩
            have HP' : Hid (Past w w') := Lib.hid ((HQ.out.2.trans' (past_alloc8 _ _)).trans' hp')
            clear hp'
            go_wp2_with fail
            go_roundg (n - (i + 1))
            case rel => exact ⟨i + 1, by have := HLT.out; omega, rfl, by go_num, Lib.hid ⟨HR.out, HP'.out⟩⟩
            case measure => have := HGK.out; have := HLT.out; omega
        · obtain rfl : i = n := by omega
          have hli : ¬ (i : Int) < (i : Int) := by omega
          have HV : Hid (vldP l = (fDesc l).isNone) := Lib.hid (by
            unfold vldP
            rw [all_getD (f := isPairB) fun j hj => HQ.out.1 j (by rw [HL.out] at hj; exact hj), HD1.out, HD2.out]
            rfl)
          clear hlt hi
          cases hd : fDesc l with
          | none =>
            rw [hd] at HV HDe
            clear hd
            go_wp2_with fail
            refine (HDe.out _ (HP.out.past HQ.out.2)).mono ?_
            rintro e w' ⟨rfl, hp'⟩
            rw [show badI none = -1 from rfl]
            have HP' : Hid (Past w w') := Lib.hid (HQ.out.2.trans' hp')
            clear hp'
            go_wp2_with fail
            go_ret
            exact ⟨by rw [HV.out]; rfl, HP'.out⟩
          | some d =>
            rw [hd] at HV HDe
            clear hd
            have hd0 : ¬ (d : Int) < 0 := by omega
            go_wp2_with fail
            refine (HDe.out _ (HP.out.past HQ.out.2)).mono ?_
            rintro e w' ⟨rfl, hp'⟩
            rw [show badI (some d) = (d : Int) from rfl]
            have HP' : Hid (Past w w') := Lib.hid (HQ.out.2.trans' hp')
            clear hp'
            go_wp2_with fail
            go_ret
            exact ⟨by rw [HV.out]; rfl, HP'.out⟩

end Go.Proofs.YtclnoblcdaimiaaDoor
