/- The program's check of pairs that have been read. -/
import Derived.Test.YtclnoblcdaimiaaDoorPg11D
namespace Go.Proofs.YtclnoblcdaimiaaDoor
open Go.RowKit
set_option linter.unusedVariables false

/-- The error of pairs that have been read, if there is one. -/
def chk (l : List P2) : Option (Nat × Nat) :=
  match fLong l with
  | some i => some (5, nmP l i)
  | none => match fDesc l with
    | some i => some (7, nmP l i)
    | none => if 20 < l.length then some (5, nmP l 20) else none
def errV : Option (Nat × Nat) → Value
  | none => .nilIface
  | some (c, a) => (Ch.flt (c : Int) (a : Int)).val
theorem chk_long {l : List P2} {i : Nat} (h : fLong l = some i) : chk l = some (5, nmP l i) := by
  unfold chk
  rw [h]
theorem chk_desc {l : List P2} {i : Nat} (h : fLong l = none) (h2 : fDesc l = some i) : chk l = some (7, nmP l i) := by
  unfold chk
  rw [h, h2]
theorem chk_many {l : List P2} (h : fLong l = none) (h2 : fDesc l = none) (h3 : 20 < l.length) : chk l = some (5, nmP l 20) := by
  unfold chk
  rw [h, h2]
  exact if_pos h3
theorem chk_ok {l : List P2} (h : fLong l = none) (h2 : fDesc l = none) (h3 : ¬ 20 < l.length) : chk l = none := by
  unfold chk
  rw [h, h2]
  exact if_neg h3

set_option maxHeartbeats 2000000 in
theorem check_any (A : Option Addr) (n c : Nat) (l : List P2) (w : World) (h : Ps w A n c l) (hs : lenL l ≤ 100000000) (hn : n ≤ 100000000) :
    Calls Tryd.prog 26 #[.slice A n c] w fun e w' => e = .returned (errV (chk l)) ∧ Past w w' := by
  have HP := Lib.hid h
  have HL := Lib.hid h.len
  have HI := Lib.hid (fun w h => indexLong_any A n c l w h hn)
  have HD := Lib.hid (fun w h => descent_any A n c l w h hn)
  have HN := Lib.hid (fun k w h hk => nameAt_any A n c l k w h hk hs hn)
  have HNew := Lib.hid (fun c a w => new_any c a w)
  simp only [valFlt] at HNew
  clear h hs
  cases hl : fLong l with
  | some i =>
    have HC : Hid (chk l = some (5, nmP l i)) := Lib.hid (chk_long hl)
    have hin : i ≤ n := by
      have := (firstF_lt hl).1
      rw [HL.out] at this
      omega
    rw [hl] at HI
    have HIN := Lib.hid hin
    have hi0 : (0 : Int) ≤ (i : Int) := by omega
    clear hl HD hin
    go_enter Tryd.func26, Tryd.ntmps26
    go_wp2_with fail
    refine (HI.out _ HP.out).mono ?_
    rintro e w1 ⟨rfl, hp⟩
    have HP1 := Lib.hid hp
    clear hp
    rw [show badI (some i) = (i : Int) from rfl]
    go_wp2_with fail
    refine (HN.out i _ (HP.out.past HP1.out) HIN.out).mono ?_
    rintro e w2 ⟨rfl, hp⟩
    have HP2 := Lib.hid (HP1.out.trans' hp)
    clear hp
    go_wp2_with fail
    refine (HNew.out _ _ _).mono ?_
    rintro e w3 ⟨rfl, hp⟩
    have HP3 := Lib.hid (HP2.out.trans' hp)
    clear hp
    go_wp2_with fail
    go_ret
    exact ⟨by rw [HC.out]; rfl, HP3.out⟩
  | none =>
    rw [hl] at HI
    cases hd : fDesc l with
    | some i =>
      have HC : Hid (chk l = some (7, nmP l i)) := Lib.hid (chk_desc hl hd)
      have hin : i ≤ n := by
        have := (firstF_lt hd).1
        rw [HL.out] at this
        omega
      rw [hd] at HD
      have HIN := Lib.hid hin
      have hi0 : (0 : Int) ≤ (i : Int) := by omega
      clear hl hd hin
      go_enter Tryd.func26, Tryd.ntmps26
      go_wp2_with fail
      refine (HI.out _ HP.out).mono ?_
      rintro e w1 ⟨rfl, hp⟩
      have HP1 := Lib.hid hp
      clear hp
      rw [show badI none = -1 from rfl]
      go_wp2_with fail
      refine (HD.out _ (HP.out.past HP1.out)).mono ?_
      rintro e w2 ⟨rfl, hp⟩
      have HP2 := Lib.hid (HP1.out.trans' hp)
      clear hp
      rw [show badI (some i) = (i : Int) from rfl]
      go_wp2_with fail
      refine (HN.out i _ (HP.out.past HP2.out) HIN.out).mono ?_
      rintro e w3 ⟨rfl, hp⟩
      have HP3 := Lib.hid (HP2.out.trans' hp)
      clear hp
      go_wp2_with fail
      refine (HNew.out _ _ _).mono ?_
      rintro e w4 ⟨rfl, hp⟩
      have HP4 := Lib.hid (HP3.out.trans' hp)
      clear hp
      go_wp2_with fail
      go_ret
      exact ⟨by rw [HC.out]; rfl, HP4.out⟩
    | none =>
      rw [hd] at HD
      by_cases h20 : 20 < n
      · have HC : Hid (chk l = some (5, nmP l 20)) := Lib.hid (chk_many hl hd (by rw [HL.out]; exact h20))
        have hi20 : (20 : Int) < (n : Int) := by omega
        have HIN := Lib.hid (show 20 ≤ n by omega)
        clear hl hd h20
        go_enter Tryd.func26, Tryd.ntmps26
        go_wp2_with fail
        refine (HI.out _ HP.out).mono ?_
        rintro e w1 ⟨rfl, hp⟩
        have HP1 := Lib.hid hp
        clear hp
        rw [show badI none = -1 from rfl]
        go_wp2_with fail
        refine (HD.out _ (HP.out.past HP1.out)).mono ?_
        rintro e w2 ⟨rfl, hp⟩
        have HP2 := Lib.hid (HP1.out.trans' hp)
        clear hp
        go_wp2_with fail
        refine (HN.out 20 _ (HP.out.past HP2.out) HIN.out).mono ?_
        rintro e w3 ⟨rfl, hp⟩
        have HP3 := Lib.hid (HP2.out.trans' hp)
        clear hp
        go_wp2_with fail
        refine (HNew.out _ _ _).mono ?_
        rintro e w4 ⟨rfl, hp⟩
        have HP4 := Lib.hid (HP3.out.trans' hp)
        clear hp
        go_wp2_with fail
        go_ret
        exact ⟨by rw [HC.out]; rfl, HP4.out⟩
      · have HC : Hid (chk l = none) := Lib.hid (chk_ok hl hd (by rw [HL.out]; exact h20))
        have hi20 : ¬ (20 : Int) < (n : Int) := by omega
        clear hl hd h20
        go_enter Tryd.func26, Tryd.ntmps26
        go_wp2_with fail
        refine (HI.out _ HP.out).mono ?_
        rintro e w1 ⟨rfl, hp⟩
        have HP1 := Lib.hid hp
        clear hp
        rw [show badI none = -1 from rfl]
        go_wp2_with fail
        refine (HD.out _ (HP.out.past HP1.out)).mono ?_
        rintro e w2 ⟨rfl, hp⟩
        have HP2 := Lib.hid (HP1.out.trans' hp)
        clear hp
        go_wp2_with fail
        go_ret
        exact ⟨by rw [HC.out]; rfl, HP2.out⟩

end Go.Proofs.YtclnoblcdaimiaaDoor
