/- The reference's Same: lists of pairs are compared. -/
import Derived.Test.YtclnoblcdaimiaaDoorRef11A
import Derived.Deep.Cut
import Derived.WideShapes
import Derived.Lib.Bytes
import Derived.Deep.DeepCutAuto
namespace Go.Proofs.YtclnoblcdaimiaaDoor
open Go.RowKit
set_option linter.unusedVariables false

instance : DecidableEq P2 := inferInstanceAs (DecidableEq (ByteArray × ByteArray))
theorem toList_inj11 {a b : ByteArray} (h : a.toList = b.toList) : a = b := by
  rw [Lib.toList_data, Lib.toList_data] at h
  exact Go.WideShapes.bytes_inj h
theorem bneS {a b : ByteArray} (h : ¬ a = b) : (a.toList == b.toList) = false := by
  simp only [beq_eq_false_iff_ne, ne_eq]
  exact fun e => h (toList_inj11 e)
def sameP (l k : List P2) : Bool := decide (l = k)
theorem same_all {l k : List P2} (hl : l.length = k.length) (h : ∀ j, j < l.length → l.getD j default = k.getD j default) : l = k := by
  refine List.ext_getElem hl fun i h1 h2 => ?_
  have := h i h1
  rwa [List.getD_eq_getElem?_getD, List.getD_eq_getElem?_getD, List.getElem?_eq_getElem h1, List.getElem?_eq_getElem h2] at this

set_option maxHeartbeats 2000000 in
theorem rsame11_any (A B : Option Addr) (n c m d : Nat) (l k : List P2) (w : World) (h : Ps w A n c l) (h2 : Ps w B m d k) : Calls Tryd.prog 12 #[.slice A n c, .slice B m d] w fun e w' => e = .returned (.bool (sameP l k)) ∧ ∃ q, w' = w.drewN q := by
  have hbig : (n : Int) ≤ 9223372036854775807 := by
    have h1 := h.cap
    have h2 := h.big
    unfold maxLen at h2
    omega
  by_cases hnm : n = m
  · subst hnm
    have HL := Lib.hid (And.intro h.len h2.len)
    have HP := Lib.hid h
    have HP2 := Lib.hid h2
    clear h h2
    go_enter Tryd.func12, Tryd.ntmps12
    go_wp2_with fail
    go_loopg [5] n (fun q s5 wx => ∃ i : Nat, i ≤ n ∧ q = n - i ∧ s5 = .int .i64 (i : Int) ∧ Hid ((∃ q, wx = w.drewN q) ∧ ∀ j, j < i → l.getD j default = k.getD j default))
    case atStart => exact ⟨0, Nat.zero_le _, rfl, rfl, Lib.hid ⟨⟨0, rfl⟩, fun j hj => absurd hj (Nat.not_lt_zero j)⟩⟩
    case round =>
      obtain ⟨i, hi, hgk, rfl, HQ⟩ := hrel
      have HGK := Lib.hid hgk
      clear hgk
      by_cases hlt : i < n
      · have hli : (i : Int) < (n : Int) := by omega
        obtain ⟨b, o, rfl, hc⟩ := HP.out.cells (by omega)
        obtain ⟨b2, o2, rfl, hc2⟩ := HP2.out.cells (by omega)
        obtain ⟨f0, f1⟩ := hc i hlt
        obtain ⟨g0, g1⟩ := hc2 i hlt
        have HLT := Lib.hid hlt
        obtain ⟨p, hp⟩ : ∃ p, l.getD i default = p := ⟨_, rfl⟩
        obtain ⟨p2, hp2⟩ : ∃ p, k.getD i default = p := ⟨_, rfl⟩
        rw [hp] at f0 f1
        rw [hp2] at g0 g1
        have HPP := Lib.hid (And.intro hp hp2)
        obtain ⟨q0, hq0⟩ := HQ.out.1
        have HQ2 := Lib.hid HQ.out.2
        subst hq0
        clear hc hc2 hlt hi hp hp2 HQ
        replace f0 : (w.drewN q0).cell? ⟨b, o + i * 2, none⟩ = some (.string p.1) := f0
        replace f1 : (w.drewN q0).cell? ⟨b, o + i * 2 + 1, none⟩ = some (.string p.2) := f1
        replace g0 : (w.drewN q0).cell? ⟨b2, o2 + i * 2, none⟩ = some (.string p2.1) := g0
        replace g1 : (w.drewN q0).cell? ⟨b2, o2 + i * 2 + 1, none⟩ = some (.string p2.2) := g1
        obtain ⟨wr, hwr⟩ : ∃ wr, w.drewN q0 = wr := ⟨_, rfl⟩
        rw [hwr] at f0 f1 g0 g1 ⊢
        have HWR := Lib.hid hwr
        clear hwr
        obtain ⟨a, b'⟩ := p
        obtain ⟨a2, b2'⟩ := p2
        by_cases h1 : a = a2
        · subst h1
          by_cases h3 : b' = b2'
          · subst h3
            go_upto_region 6 with (fail)
            go_quiet (fail)
            go_wp2_with fail
            go_roundg (n - (i + 1))
            case rel => exact ⟨i + 1, by have := HLT.out; omega, rfl, by go_num, Lib.hid ⟨⟨_, by rw [← HWR.out, World.drewN_drewN]⟩, fun j hj => by
              by_cases hji : j = i
              · rw [hji, HPP.out.1, HPP.out.2]
              · exact HQ2.out j (by omega)⟩⟩
            case measure => have := HGK.out; have := HLT.out; omega
          · have HN : Hid (sameP l k = false) := Lib.hid (decide_eq_false fun e => h3 (by have := HPP.out.1; rw [e, HPP.out.2] at this; injection this with t1 t2; exact t2.symm))
            have hbb := bneS h3
            go_upto_region 6 with (fail)
            go_quiet (fail)
            go_wp2_with fail
            go_ret
            rw [HN.out]
            exact ⟨rfl, _, by rw [← HWR.out, World.drewN_drewN]⟩
        · have HN : Hid (sameP l k = false) := Lib.hid (decide_eq_false fun e => h1 (by have := HPP.out.1; rw [e, HPP.out.2] at this; injection this with t1 t2; exact t1.symm))
          have hbb := bneS h1
          go_upto_region 6 with (fail)
          go_quiet (fail)
          go_wp2_with fail
          go_ret
          rw [HN.out]
          exact ⟨rfl, _, by rw [← HWR.out, World.drewN_drewN]⟩
      · obtain rfl : i = n := by omega
        have hli : ¬ (i : Int) < (i : Int) := by omega
        have HE : Hid (sameP l k = true) := Lib.hid (decide_eq_true (same_all (by rw [HL.out.1, HL.out.2]) fun j hj => HQ.out.2 j (by rw [HL.out.1] at hj; exact hj)))
        obtain ⟨q0, hq0⟩ := HQ.out.1
        have HW := Lib.hid hq0
        clear hlt hi hq0
        go_wp2_with fail
        go_ret
        rw [HE.out]
        exact ⟨rfl, q0, HW.out⟩
  · have hni : ¬ (n : Int) = (m : Int) := by omega
    have hnb : ((n : Int) != (m : Int)) = true := by simp; omega
    have HN : Hid (sameP l k = false) := Lib.hid (decide_eq_false fun e => hnm (by rw [← h.len, ← h2.len, e]))
    clear h h2 hnm
    go_enter Tryd.func12, Tryd.ntmps12
    go_wp2_with fail
    go_ret
    rw [HN.out]
    exact ⟨rfl, 0, rfl⟩

end Go.Proofs.YtclnoblcdaimiaaDoor
