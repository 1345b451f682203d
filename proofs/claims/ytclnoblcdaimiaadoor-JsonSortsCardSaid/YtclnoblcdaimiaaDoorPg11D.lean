/- The program's searches over pairs. -/
import Derived.Test.YtclnoblcdaimiaaDoorPg11C
import Derived.Test.YtclnoblcdaimiaaDoorErrM1
import Derived.Shelf.Abstract
import Derived.Laws.Cover1
namespace Go.Proofs.YtclnoblcdaimiaaDoor
open Go.RowKit
set_option linter.unusedVariables false

def longB (p : P2) : Bool := decide (20 < p.1.size)
theorem long_any (a b : ByteArray) (w : World) : Calls Tryd.prog 45 #[.agg #[.string a, .string b]] w fun e w' => e = .returned (.bool (longB (a, b))) ∧ Past w w' := by
  by_cases h : 20 < a.size
  · have hi : (20 : Int) < (a.size : Int) := by omega
    have hb : longB (a, b) = true := decide_eq_true h
    rw [hb]
    clear hb h
    go_enter Tryd.func45, Tryd.ntmps45
    go_wp2_with fail
    go_ret
    exact ⟨rfl, past_alloc8 _ _⟩
  · have hi : ¬ (20 : Int) < (a.size : Int) := by omega
    have hb : longB (a, b) = false := decide_eq_false h
    rw [hb]
    clear hb h
    go_enter Tryd.func45, Tryd.ntmps45
    go_wp2_with fail
    go_ret
    exact ⟨rfl, past_alloc8 _ _⟩
/-- Where the first long name stands. -/
def fLong (l : List P2) : Option Nat := firstF (fun i => longB (l.getD i default)) l.length

abbrev longF : Value := .func (.func 45) #[] #[]
set_option maxHeartbeats 2000000 in
theorem indexLong_any (A : Option Addr) (n c : Nat) (l : List P2) (w : World) (h : Ps w A n c l) (hn : n ≤ 100000000) :
    Calls Tryd.prog 44 #[.slice A n c, longF] w fun e w' => e = .returned (.int .i64 (badI (fLong l))) ∧ Past w w' := by
  have HC := Lib.hid (fun a b w => long_any a b w)
  have HS := Lib.hid h
  have HL := Lib.hid h.len
  have hbig : (n : Int) ≤ 100000000 := by omega
  have eg : ∀ args w, (callFunc 45 args).run Tryd.prog w = .ok (.enter 45 args) w := enters_of Tryd.func45 (by kernel_rfl) rfl
  clear h
  go_enter Tryd.func44, Tryd.ntmps44
  go_wp2
  go_loopg [5, 8] n (fun k _ s8 wr => ∃ i : Nat, i ≤ n ∧ k = n - i ∧ s8 = .int .i64 (i : Int) ∧ Hid (∀ j, j < i → longB (l.getD j default) = false) ∧ Hid (Past w wr))
  case atStart => exact ⟨0, Nat.zero_le _, rfl, rfl, Lib.hid fun j hj => absurd hj (Nat.not_lt_zero j), Lib.hid (Below.refl _ _)⟩
  case round =>
    obtain ⟨i, hin, hgk, rfl, HW, hwr⟩ := hrel
    have HGK := Lib.hid hgk
    clear hgk
    by_cases hlt : i < n
    · obtain ⟨b, o, rfl, hc⟩ := HS.out.cells (by omega)
      obtain ⟨f0, f1⟩ := hc i hlt
      rw [← Below.cell hwr.out (cell_lt f0)] at f0
      rw [← Below.cell hwr.out (cell_lt f1)] at f1
      have hi0 : (0 : Int) ≤ (i : Int) := by omega
      have hin1 : (i : Int) < (n : Int) := by omega
      have HLT := Lib.hid hlt
      obtain ⟨p, hp⟩ : ∃ p, l.getD i default = p := ⟨_, rfl⟩
      rw [hp] at f0 f1
      obtain ⟨a, b'⟩ := p
      have HPE := Lib.hid hp
      clear hc hp hlt
      have HCX := Lib.hid (HC.out a b')
      cases hq : longB (a, b') with
      | true =>
        rw [hq] at HCX
        have HR : Hid (fLong l = some i) := Lib.hid (firstF_some (by rw [HL.out]; exact HLT.out) (by rw [HPE.out]; exact hq) HW.out)
        clear hq HW HC
        go_wp2_with fail
        refine (HCX.out _).mono ?_
        rintro e w' ⟨rfl, hp'⟩
        have HP' : Hid (Past w w') := Lib.hid (hwr.out.trans' hp')
        clear hp'
        go_wp2_with fail
        go_ret
        exact ⟨by rw [HR.out]; rfl, HP'.out⟩
      | false =>
        rw [hq] at HCX
        have HR : Hid (∀ j, j < i + 1 → longB (l.getD j default) = false) := Lib.hid fun j hj => by
          by_cases hji : j = i
          · rw [hji, HPE.out]; exact hq
          · exact HW.out j (by omega)
        clear hq HW
        go_wp2_with fail
        refine (HCX.out _).mono ?_
        rintro e w' ⟨rfl, hp'⟩
        have HP' : Hid (Past w w') := Lib.hid (hwr.out.trans' hp')
        clear hp'
        go_wp2_with fail
        go_roundg (n - (i + 1))
        case measure => have := HGK.out; have := HLT.out; omega
        case rel => exact ⟨i + 1, by have := HLT.out; omega, rfl, by go_num, HR, HP'⟩
    · obtain rfl : i = n := by omega
      have HR : Hid (fLong l = none) := Lib.hid (firstF_none fun j hj => HW.out j (by rw [HL.out] at hj; exact hj))
      clear HW
      go_wp2_with fail
      go_ret
      exact ⟨by rw [HR.out]; rfl, hwr.out⟩

/-- Names in order, as the program compares them. -/
def ltB (a b : ByteArray) : Bool := Go.Op.bytesLess a.toList b.toList
def leB (a b : ByteArray) : Bool := ltB a b || (a.toList == b.toList)
def descB (l : List P2) (i : Nat) : Bool := decide (1 ≤ i) && leB (l.getD i default).1 (l.getD (i - 1) default).1
def fDesc (l : List P2) : Option Nat := firstF (descB l) l.length

set_option maxHeartbeats 2000000 in
theorem descent_any (A : Option Addr) (n c : Nat) (l : List P2) (w : World) (h : Ps w A n c l) (hn : n ≤ 100000000) :
    Calls Tryd.prog 32 #[.slice A n c] w fun e w' => e = .returned (.int .i64 (badI (fDesc l))) ∧ Past w w' := by
  have HS := Lib.hid h
  have HL := Lib.hid h.len
  have hbig : (n : Int) ≤ 100000000 := by omega
  clear h
  go_enter Tryd.func32, Tryd.ntmps32
  go_wp2
  go_loopg [3] n (fun k s3 wr => ∃ i : Nat, 1 ≤ i ∧ i ≤ n + 1 ∧ k = n + 1 - i ∧ s3 = .int .i64 (i : Int) ∧ Hid (∀ j, j < i → descB l j = false) ∧ Hid (Past w wr))
  case atStart => exact ⟨1, Nat.le_refl _, by omega, by omega, rfl, Lib.hid fun j hj => by
    obtain rfl : j = 0 := by omega
    rfl, Lib.hid (Below.refl _ _)⟩
  case round =>
    obtain ⟨i, hi1, hin, hgk, rfl, HW, hwr⟩ := hrel
    have HGK := Lib.hid hgk
    clear hgk
    by_cases hlt : i < n
    · obtain ⟨b, o, rfl, hc⟩ := HS.out.cells (by omega)
      obtain ⟨f0, f1⟩ := hc i hlt
      obtain ⟨g0, g1⟩ := hc (i - 1) (by omega)
      rw [← Below.cell hwr.out (cell_lt f0)] at f0
      rw [← Below.cell hwr.out (cell_lt g0)] at g0
      have hi0 : (0 : Int) ≤ (i : Int) := by omega
      have hin1 : (i : Int) < (n : Int) := by omega
      obtain ⟨k, hk⟩ : ∃ k, i - 1 = k := ⟨_, rfl⟩
      have hsub : (i : Int) - 1 = (k : Int) := by omega
      have hk0 : (0 : Int) ≤ (k : Int) := by omega
      have hsubw : IntKind.i64.wrap ((i : Int) - 1) = (k : Int) := by rw [IntKind.wrap_i64]; omega
      have hkn : (k : Int) < (n : Int) := by omega
      have HLT := Lib.hid (And.intro hlt hi1)
      obtain ⟨p, hp⟩ : ∃ p, l.getD i default = p := ⟨_, rfl⟩
      obtain ⟨q, hq⟩ : ∃ q, l.getD (i - 1) default = q := ⟨_, rfl⟩
      rw [hp] at f0
      rw [hq] at g0
      rw [hk] at g0
      obtain ⟨a, b'⟩ := p
      obtain ⟨a2, b2'⟩ := q
      have HD : Hid (descB l i = leB a a2) := Lib.hid (by unfold descB; rw [hp, hq, decide_eq_true hi1]; rfl)
      clear hc hp hq hlt hk f1 g1 hin hi1
      cases hle : leB a a2 with
      | true =>
        have HR : Hid (fDesc l = some i) := Lib.hid (firstF_some (by rw [HL.out]; exact HLT.out.1) (by rw [HD.out]; exact hle) HW.out)
        have hle' : (Go.Op.bytesLess a.toList a2.toList || (a.toList == a2.toList)) = true := hle
        clear hle HW
        go_upto_region 4 with (fail)
        go_quiet (fail)
        go_wp2_with fail
        go_ret
        exact ⟨by rw [HR.out]; rfl, hwr.out.drewN _⟩
      | false =>
        have HR : Hid (∀ j, j < i + 1 → descB l j = false) := Lib.hid fun j hj => by
          by_cases hji : j = i
          · rw [hji, HD.out]; exact hle
          · exact HW.out j (by omega)
        have hle' : (Go.Op.bytesLess a.toList a2.toList || (a.toList == a2.toList)) = false := hle
        clear hle HW
        go_upto_region 4 with (fail)
        go_quiet (fail)
        go_wp2_with fail
        go_roundg (n + 1 - (i + 1))
        case measure => have := HGK.out; have := HLT.out.1; omega
        case rel => exact ⟨i + 1, by omega, by have := HLT.out.1; omega, rfl, by go_num, HR, Lib.hid (hwr.out.drewN _)⟩
    · have hin1 : ¬ (i : Int) < (n : Int) := by omega
      have HR : Hid (fDesc l = none) := Lib.hid (firstF_none fun j hj => HW.out j (by rw [HL.out] at hj; omega))
      clear HW hlt
      go_wp2_with fail
      go_ret
      exact ⟨by rw [HR.out]; rfl, hwr.out⟩

set_option maxHeartbeats 2000000 in
theorem length_any (A : Option Addr) (n c : Nat) (l : List P2) (w : World) (h : Ps w A n c l) (hs : lenL l ≤ 100000000) (hn : n ≤ 100000000) : Calls Tryd.prog 30 #[.slice A n c] w fun e w' => e = .returned (.int .i64 (lenL l : Int)) ∧ Past w w' := by
  have HP := Lib.hid h
  have HL := Lib.hid h.len
  have HS : Hid (∀ i, i ≤ n → lenP l i ≤ 100000000) := Lib.hid fun i hi => by
    have h2 := lenP_mono l i (n - i)
    rw [show i + (n - i) = n by omega] at h2
    unfold lenL at hs
    rw [HL.out] at hs
    omega
  have hkb : (n : Int) ≤ 100000000 := by omega
  have HZ0 : Hid ((lenP l 0 : Int) = 2 + max 0 ((n : Int) - 1)) := Lib.hid (by
    show ((2 + (l.length - 1) : Nat) : Int) = _
    rw [HL.out]
    omega)
  clear h hs
  go_enter Tryd.func30, Tryd.ntmps30
  go_wp2_with fail
  all_goals
    go_loopg [3, 5, 13] n (fun q s3 s5 s13 wx => ∃ i : Nat, i ≤ n ∧ q = n - i ∧ s3 = .int .i64 (lenP l i : Int) ∧ s13 = .int .i64 (i : Int) ∧ Hid (Past w wx))
    case atStart => exact ⟨0, Nat.zero_le _, rfl, by rw [HZ0.out]; congr 1; omega, rfl, Lib.hid (Below.refl _ _)⟩
    case round =>
      obtain ⟨i, hi, hgk, rfl, rfl, HQ⟩ := hrel
      have HGK := Lib.hid hgk
      clear hgk
      by_cases hlt : i < n
      · have hli : (i : Int) < (n : Int) := by omega
        obtain ⟨b, o, rfl, hc⟩ := HP.out.cells (by omega)
        obtain ⟨f0, f1⟩ := hc i (by omega)
        rw [← Below.cell HQ.out (cell_lt f0)] at f0
        rw [← Below.cell HQ.out (cell_lt f1)] at f1
        have HLT := Lib.hid hlt
        have hi0 : (0 : Int) ≤ (i : Int) := by omega
        have hz := HS.out (i + 1) (by omega)
        have hz2 : lenP l (i + 1) = lenP l i + plenN (l.getD i default) := rfl
        obtain ⟨p, hp⟩ : ∃ p, l.getD i default = p := ⟨_, rfl⟩
        rw [hp] at f0 f1 hz2
        obtain ⟨a, b'⟩ := p
        have hpl : plenN (a, b') = 5 + a.size + b'.size := rfl
        have HC := Lib.hid (fun w => plen_any a b' w (by omega) (by omega))
        obtain ⟨m, hm⟩ : ∃ m, plenN (a, b') = m := ⟨_, rfl⟩
        rw [hm] at HC hz2
        obtain ⟨z, hzz⟩ : ∃ z, lenP l i = z := ⟨_, rfl⟩
        have HZ : Hid (lenP l (i + 1) = z + m) := Lib.hid (by rw [← hzz]; exact hz2)
        rw [hzz] at hz2 ⊢
        have hzb : (z : Int) ≤ 200000000 := by omega
        have hmb : (m : Int) ≤ 200000000 := by omega
        have hz0 : (0 : Int) ≤ (z : Int) := by omega
        have hm0 : (0 : Int) ≤ (m : Int) := by omega
        clear hc hlt hp hz hz2 hpl hm hzz hi
        go_wp2_with fail
        refine (HC.out _).mono ?_
        rintro e w' ⟨rfl, hp'⟩
        have HP' : Hid (Past w w') := Lib.hid ((HQ.out.trans' (past_alloc8 _ _)).trans' hp')
        clear hp'
        go_wp2_with fail
        go_roundg (n - (i + 1))
        case rel => exact ⟨i + 1, by have := HLT.out; omega, rfl, by rw [HZ.out]; go_num, by go_num, HP'⟩
        case measure => have := HGK.out; have := HLT.out; omega
      · obtain rfl : i = n := by omega
        have hli : ¬ (i : Int) < (i : Int) := by omega
        have HF : Hid (lenP l i = lenL l) := Lib.hid (by unfold lenL; rw [HL.out])
        clear hlt hi
        go_wp2_with fail
        go_ret
        exact ⟨by rw [HF.out]; rfl, HQ.out⟩

end Go.Proofs.YtclnoblcdaimiaaDoor
