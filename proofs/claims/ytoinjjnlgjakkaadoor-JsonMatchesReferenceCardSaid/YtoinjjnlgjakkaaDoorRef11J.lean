/- The reference's Parse where the whole string was read. -/
import Derived.Test.YtoinjjnlgjakkaaDoorRef11I
import Derived.Deep.Cut
import Derived.Laws.Cover1
namespace Go.Proofs.YtoinjjnlgjakkaaDoor
open Go.RowKit
set_option linter.unusedVariables false

theorem Ps.setRow {W : World} {g : Nat} {A : Option Addr} {n c : Nat} {l : List P2} {t : TypeId} {a1 a2 : Option Addr} {n1 c1 n2 c2 : Nat} {x y : Int} (h : Ps W A n c l) (hr : Row W g t #[.slice a1 n1 c1, .slice a2 n2 c2, .int .i64 x, .int .i64 y]) (cs : Array Value) : Ps (W.setRow g cs) A n c l := by
  refine ⟨h.len, h.cap, h.big, fun hn => ?_, h.nilz⟩
  obtain ⟨b, o, e, hc⟩ := h.cells hn
  refine ⟨b, o, e, fun i hi => ?_⟩
  obtain ⟨h1, h2⟩ := hc i hi
  have hb : b ≠ g := by
    rintro rfl
    rw [hr.cell] at h1
    have : o + i * 2 = 0 ∨ o + i * 2 = 1 ∨ o + i * 2 = 2 ∨ o + i * 2 = 3 ∨ 4 ≤ o + i * 2 := by omega
    rcases this with e | e | e | e | e
    · rw [e] at h1; cases h1
    · rw [e] at h1; cases h1
    · rw [e] at h1; cases h1
    · rw [e] at h1; cases h1
    · rw [Array.getElem?_eq_none (by simpa using e)] at h1; cases h1
  exact ⟨(World.cell?_of_block (a := ⟨b, o + i * 2, none⟩) (setRow_other W g b cs hb)).trans h1, (World.cell?_of_block (a := ⟨b, o + i * 2 + 1, none⟩) (setRow_other W g b cs hb)).trans h2⟩

set_option maxHeartbeats 8000000 in
set_option maxRecDepth 100000 in
theorem rparse_ok (A : Option Addr) (n c : Nat) (l : List P2) (w : World) (hn : n ≤ 1000000) (hm1 : l.length ≤ 1000000)
    (hR : ∀ W, Past w W → Calls Tryd.prog 22 #[.slice A n c] W fun e w' => (∃ A1 c1 A2 n2 c2, e = .returned (.agg #[.slice A1 l.length c1, .slice A2 n2 c2, .int .i64 0, .int .i64 (n : Int)]) ∧ Ps w' A1 l.length c1 l ∧
      (∀ (i : Nat), i < l.length → ∃ b, A2 = some ⟨b, 0, none⟩ ∧ n2 = l.length ∧ w'.cell? ⟨b, i, none⟩ = some (.int .i64 (nmP l i : Int)))) ∧ Past W w') :
    Calls Tryd.prog 7 #[.slice A n c] w (RokP w l) := by
  have HR := Lib.hid hR
  have hi : ¬ (1048576 : Int) < (n : Int) := by omega
  have HM1 := Lib.hid hm1
  obtain ⟨m, hm⟩ : ∃ m, l.length = m := ⟨_, rfl⟩
  have HM := Lib.hid hm
  rw [hm] at HR HM1
  clear hR hn hm1 hm
  have hmb : (m : Int) ≤ 1000000 := by have := HM1.out; omega
  obtain ⟨g, hg⟩ : ∃ g, w.heap.size = g := ⟨_, rfl⟩
  have HG := Lib.hid hg
  go_enter Tryd.func7, Tryd.ntmps7
  go_wp2_with fail
  try rw [hg]
  obtain ⟨w1, hw1⟩ : ∃ w1, w1 = w.alloc (.cells #[.slice none 0 0, .slice none 0 0, .int .i64 0, .int .i64 0] 32) := ⟨_, rfl⟩
  have H1 : Hid (Past w w1 ∧ Row w1 g 32 #[.slice none 0 0, .slice none 0 0, .int .i64 0, .int .i64 0]) := Lib.hid ⟨by rw [hw1]; exact past_alloc8 _ _, by rw [hw1, ← hg]; exact Row.new _ _ _⟩
  rw [← hw1]
  clear hw1 hg
  refine (HR.out w1 H1.out.1).mono ?_
  rintro e w2 ⟨⟨A1, c1, A2, n2, c2, rfl, hps, hnm⟩, hp⟩
  obtain ⟨h, hh⟩ : ∃ h, w2.heap.size = h := ⟨_, rfl⟩
  obtain ⟨W, hW⟩ : ∃ W, W = w2.alloc (.cells #[.slice A1 m c1, .slice A2 n2 c2, .int .i64 0, .int .i64 (n : Int)] 32) := ⟨_, rfl⟩
  have hpW : Past w2 W := by rw [hW]; exact past_alloc8 _ _
  have HPW : Hid (Past w W) := Lib.hid ((H1.out.1.trans' hp).trans' hpW)
  have HRG : Hid (Row W g 32 #[.slice none 0 0, .slice none 0 0, .int .i64 0, .int .i64 0]) := Lib.hid ((H1.out.2.past hp).past hpW)
  have HRH : Hid (Row W h 32 #[.slice A1 m c1, .slice A2 n2 c2, .int .i64 0, .int .i64 (n : Int)]) := Lib.hid (by rw [hW, ← hh]; exact Row.new _ _ _)
  have HPS : Hid (Ps W A1 m c1 l) := Lib.hid (hps.past hpW)
  have HNM : Hid (∀ (i : Nat), i < m → ∃ b, A2 = some ⟨b, 0, none⟩ ∧ n2 = m ∧ W.cell? ⟨b, i, none⟩ = some (.int .i64 (nmP l i : Int))) := Lib.hid fun i hi => by
    obtain ⟨b, e1, e2, e3⟩ := hnm i hi
    exact ⟨b, e1, e2, by rw [Below.cell hpW (cell_lt e3)]; exact e3⟩
  have HWW := Lib.hid hW
  clear hp H1 HR hps hnm hpW hW
  go_wp2_with fail
  rw [← HWW.out]
  clear HWW
  go_loopg [4] m (fun q s4 wx => ∃ i : Nat, i ≤ m ∧ q = m - i ∧ s4 = .int .i64 (i : Int) ∧ Hid (∀ j, j < i → longB (l.getD j default) = false) ∧ Hid (Past W wx))
  case atStart => exact ⟨0, Nat.zero_le _, rfl, rfl, Lib.hid fun j hj => absurd hj (Nat.not_lt_zero j), Lib.hid (Below.refl _ _)⟩
  case round =>
    obtain ⟨i, hi, hgk, rfl, HQ, HWR⟩ := hrel
    have HGK := Lib.hid hgk
    clear hgk
    have y0 : wr.cell? ⟨h, 0, none⟩ = some (.slice A1 m c1) := (HRH.out.past HWR.out).cell 0
    have y1 : wr.cell? ⟨h, 1, none⟩ = some (.slice A2 n2 c2) := (HRH.out.past HWR.out).cell 1
    by_cases hlt : i < m
    · have hli : (i : Int) < (m : Int) := by omega
      have hi0 : (0 : Int) ≤ (i : Int) := by omega
      obtain ⟨b, o, rfl, hc⟩ := HPS.out.cells (by omega)
      obtain ⟨f0, f1⟩ := hc i hlt
      rw [← Below.cell HWR.out (cell_lt f0)] at f0
      have HLT := Lib.hid hlt
      obtain ⟨p, hp⟩ : ∃ p, l.getD i default = p := ⟨_, rfl⟩
      rw [hp] at f0
      have HPE := Lib.hid hp
      obtain ⟨a, b'⟩ := p
      clear hc hlt hi hp f1
      simp only at f0
      by_cases h20 : 20 < a.size
      · have h20i : (20 : Int) < (a.size : Int) := by omega
        have HC : Hid (chk l = some (5, nmP l i)) := Lib.hid (chk_long (firstF_some (by rw [HM.out]; exact HLT.out) (by rw [HPE.out]; exact decide_eq_true h20) HQ.out))
        obtain ⟨b2, rfl, rfl, f2⟩ := HNM.out i HLT.out
        rw [← Below.cell HWR.out (cell_lt f2)] at f2
        clear h20
        have hrow := HRG.out.past HWR.out
        go_wp2_with (refine wpList_store_row rfl 32 _ _ rfl g _ rfl rfl _ _ hrow (res4 _ rfl) rfl (by simp [Value.oneCell']) ?_)
        refine bodyPost_ret (results_cell_row rfl _ _ g _ _ _ _ rfl (setRow_heap _ g _ _ _ _ hrow) Tryd.underlying32 rfl (res4 _ rfl)) rfl ?_
        exact ⟨fun c a hc => by
          rw [HC.out] at hc
          injection hc with hc
          injection hc with e1 e2
          subst e1 e2
          rfl, fun hc => by (rw [HC.out] at hc; cases hc), past_row (HPW.out.trans' HWR.out) (by rw [HG.out]; exact Nat.le_refl _) _⟩
      · have h20i : ¬ (20 : Int) < (a.size : Int) := by omega
        have HR : Hid (∀ j, j < i + 1 → longB (l.getD j default) = false) := Lib.hid fun j hj => by
          by_cases hji : j = i
          · rw [hji, HPE.out]; exact decide_eq_false h20
          · exact HQ.out j (by omega)
        clear h20 HQ
        go_wp2_with fail
        go_roundg (m - (i + 1))
        case measure => have := HGK.out; have := HLT.out; omega
        case rel => exact ⟨i + 1, by have := HLT.out; omega, rfl, by go_num, HR, HWR⟩
    · obtain rfl : i = m := by omega
      have HFL : Hid (fLong l = none) := Lib.hid (firstF_none fun j hj => HQ.out j (by rw [HM.out] at hj; exact hj))
      have hli : ¬ (i : Int) < (i : Int) := by omega
      clear HQ hlt hi HGK
      go_wp2_with fail
      obtain ⟨V, hV⟩ : ∃ V, wr = V := ⟨_, rfl⟩
      have HWV := HWR
      rw [hV] at HWV ⊢
      clear hV y0 y1 HWR
      go_loopg [5] i (fun q s5 wx => ∃ k : Nat, 1 ≤ k ∧ k ≤ i + 1 ∧ q = i + 1 - k ∧ s5 = .int .i64 (k : Int) ∧ Hid (∀ j, j < k → descB l j = false) ∧ Hid (Past W wx))
      case atStart => exact ⟨1, Nat.le_refl _, by omega, by omega, rfl, Lib.hid fun j hj => by
        obtain rfl : j = 0 := by omega
        rfl, HWV⟩
      case round =>
        obtain ⟨k, hk1, hkn, hgk, rfl, HQ, HWR⟩ := hrel
        have HGK := Lib.hid hgk
        clear hgk
        have y0 : wr.cell? ⟨h, 0, none⟩ = some (.slice A1 i c1) := (HRH.out.past HWR.out).cell 0
        have y1 : wr.cell? ⟨h, 1, none⟩ = some (.slice A2 n2 c2) := (HRH.out.past HWR.out).cell 1
        by_cases hlt : k < i
        · have hli2 : (k : Int) < (i : Int) := by omega
          have hk0 : (0 : Int) ≤ (k : Int) := by omega
          obtain ⟨b, o, rfl, hc⟩ := HPS.out.cells (by omega)
          obtain ⟨f0, f1⟩ := hc k hlt
          obtain ⟨g0, g1⟩ := hc (k - 1) (by omega)
          rw [← Below.cell HWR.out (cell_lt f0)] at f0
          rw [← Below.cell HWR.out (cell_lt g0)] at g0
          obtain ⟨k', hk'⟩ : ∃ k', k - 1 = k' := ⟨_, rfl⟩
          have hsub : (k : Int) - 1 = (k' : Int) := by omega
          have hk'0 : (0 : Int) ≤ (k' : Int) := by omega
          have hsubw : IntKind.i64.wrap ((k : Int) - 1) = (k' : Int) := by rw [IntKind.wrap_i64]; omega
          have hk'n : (k' : Int) < (i : Int) := by omega
          have HLT := Lib.hid (And.intro hlt hk1)
          obtain ⟨p, hp⟩ : ∃ p, l.getD k default = p := ⟨_, rfl⟩
          obtain ⟨q, hq⟩ : ∃ q, l.getD (k - 1) default = q := ⟨_, rfl⟩
          rw [hp] at f0
          rw [hq] at g0
          rw [hk'] at g0
          obtain ⟨a, b'⟩ := p
          obtain ⟨a2, b2'⟩ := q
          have HD : Hid (descB l k = leB a a2) := Lib.hid (by unfold descB; rw [hp, hq, decide_eq_true hk1]; rfl)
          simp only at f0 g0
          clear hc hp hq hlt hk' f1 g1 hkn hk1
          cases hle : leB a a2 with
          | true =>
            have HC : Hid (chk l = some (7, nmP l k)) := Lib.hid (chk_desc HFL.out (firstF_some (by rw [HM.out]; exact HLT.out.1) (by rw [HD.out]; exact hle) HQ.out))
            have hle' : (Go.Op.bytesLess a.toList a2.toList || (a.toList == a2.toList)) = true := hle
            obtain ⟨b2, rfl, rfl, f2⟩ := HNM.out k HLT.out.1
            rw [← Below.cell HWR.out (cell_lt f2)] at f2
            clear hle HQ
            go_upto_region 16 with (fail)
            go_quiet (fail)
            obtain ⟨U, hU⟩ : ∃ U, U = wr.drewN nq := ⟨_, rfl⟩
            have HU : Hid (Past W U) := Lib.hid (by rw [hU]; exact HWR.out.drewN nq)
            replace f2 : U.cell? ⟨b2, k, none⟩ = some (.int .i64 (nmP l k : Int)) := by rw [hU]; exact f2
            replace y1 : U.cell? ⟨h, 1, none⟩ = some (.slice (some ⟨b2, 0, none⟩) n2 c2) := by rw [hU]; exact y1
            rw [← hU]
            clear hU
            have hrow := HRG.out.past HU.out
            go_wp2_with (refine wpList_store_row rfl 32 _ _ rfl g _ rfl rfl _ _ hrow (res4 _ rfl) rfl (by simp [Value.oneCell']) ?_)
            refine bodyPost_ret (results_cell_row rfl _ _ g _ _ _ _ rfl (setRow_heap _ g _ _ _ _ hrow) Tryd.underlying32 rfl (res4 _ rfl)) rfl ?_
            exact ⟨fun c a hc => by
              rw [HC.out] at hc
              injection hc with hc
              injection hc with e1 e2
              subst e1 e2
              rfl, fun hc => by (rw [HC.out] at hc; cases hc), past_row (HPW.out.trans' HU.out) (by rw [HG.out]; exact Nat.le_refl _) _⟩
          | false =>
            have HR : Hid (∀ j, j < k + 1 → descB l j = false) := Lib.hid fun j hj => by
              by_cases hji : j = k
              · rw [hji, HD.out]; exact hle
              · exact HQ.out j (by omega)
            have hle' : (Go.Op.bytesLess a.toList a2.toList || (a.toList == a2.toList)) = false := hle
            clear hle HQ
            go_upto_region 16 with (fail)
            go_quiet (fail)
            go_wp2_with fail
            go_roundg (i + 1 - (k + 1))
            case measure => have := HGK.out; have := HLT.out.1; omega
            case rel => exact ⟨k + 1, by omega, by have := HLT.out.1; omega, rfl, by go_num, HR, Lib.hid (HWR.out.drewN _)⟩
        · have hli2 : ¬ (k : Int) < (i : Int) := by omega
          have HFD : Hid (fDesc l = none) := Lib.hid (firstF_none fun j hj => HQ.out j (by rw [HM.out] at hj; omega))
          clear HQ hlt hkn hk1 HGK
          by_cases h20 : 20 < i
          · have h20i : (20 : Int) < (i : Int) := by omega
            have HC : Hid (chk l = some (5, nmP l 20)) := Lib.hid (chk_many HFL.out HFD.out (by rw [HM.out]; exact h20))
            obtain ⟨b2, rfl, rfl, f2⟩ := HNM.out 20 h20
            rw [← Below.cell HWR.out (cell_lt f2)] at f2
            clear h20
            have hrow := HRG.out.past HWR.out
            go_wp2_with (refine wpList_store_row rfl 32 _ _ rfl g _ rfl rfl _ _ hrow (res4 _ rfl) rfl (by simp [Value.oneCell']) ?_)
            refine bodyPost_ret (results_cell_row rfl _ _ g _ _ _ _ rfl (setRow_heap _ g _ _ _ _ hrow) Tryd.underlying32 rfl (res4 _ rfl)) rfl ?_
            exact ⟨fun c a hc => by
              rw [HC.out] at hc
              injection hc with hc
              injection hc with e1 e2
              subst e1 e2
              rfl, fun hc => by (rw [HC.out] at hc; cases hc), past_row (HPW.out.trans' HWR.out) (by rw [HG.out]; exact Nat.le_refl _) _⟩
          · have h20i : ¬ (20 : Int) < (i : Int) := by omega
            have HC : Hid (chk l = none) := Lib.hid (chk_ok HFL.out HFD.out (by rw [HM.out]; exact h20))
            have hrowh := HRH.out.past HWR.out
            clear h20
            have hrow := HRG.out.past HWR.out
            go_wp2_with (first
              | (refine wpList_load_row rfl 32 _ rfl h rfl _ _ _ _ hrowh Tryd.underlying32 rfl (res4 _ rfl) ?_)
              | (refine wpList_store_row rfl 32 _ _ rfl g _ rfl rfl _ _ hrow (res4 _ rfl) rfl (by simp [Value.oneCell']) ?_))
            refine bodyPost_ret (results_cell_row rfl _ _ g _ _ _ _ rfl (setRow_heap _ g _ _ _ _ hrow) Tryd.underlying32 rfl (res4 _ rfl)) rfl ?_
            exact ⟨fun c a hc => by (rw [HC.out] at hc; cases hc), fun _ => ⟨A1, i, c1, A2, n2, c2, n, rfl, (HPS.out.past HWR.out).setRow hrow _⟩, past_row (HPW.out.trans' HWR.out) (by rw [HG.out]; exact Nat.le_refl _) _⟩
end Go.Proofs.YtoinjjnlgjakkaaDoor
