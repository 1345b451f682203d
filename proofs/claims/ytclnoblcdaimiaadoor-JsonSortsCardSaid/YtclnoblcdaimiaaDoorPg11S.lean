/- The program's copy of pairs; Sorted at one pair. -/
import Derived.Test.YtclnoblcdaimiaaDoorPg11J
namespace Go.Proofs.YtclnoblcdaimiaaDoor
open Go.RowKit
set_option linter.unusedVariables false

theorem pcells_one (l : List P2) : ∀ u ∈ pcells l, u.oneCell' = true := by
  intro u hu
  unfold pcells at hu
  obtain ⟨p, _, hp⟩ := List.mem_flatMap.1 hu
  simp at hp
  rcases hp with rfl | rfl <;> rfl
theorem Ps.cells_at {w : World} {A : Option Addr} {n c : Nat} {l : List P2} (h : Ps w A n c l) {b o : Nat} (hA : A = some ⟨b, o, none⟩) : ∀ j u, (pcells l)[j]? = some u → w.cell? ((⟨b, o, none⟩ : Addr).add j) = some u := by
  intro j u hj
  have hjl : j < (pcells l).length := (List.getElem?_eq_some_iff.1 hj).1
  rw [pcells_len, h.len] at hjl
  obtain ⟨b', o', e, hc⟩ := h.cells (by omega)
  rw [hA] at e
  injection e with e
  injection e with e1 e2
  subst e1 e2
  rw [add_none]
  obtain ⟨q1, q2⟩ := pcells_at l (j / 2) (by rw [h.len]; omega)
  obtain ⟨c1, c2⟩ := hc (j / 2) (by omega)
  rcases Nat.mod_two_eq_zero_or_one j with hm | hm
  · have ej : j / 2 * 2 = j := by omega
    rw [ej, hj] at q1
    rw [ej] at c1
    rw [c1, ← q1]
  · have ej : j / 2 * 2 + 1 = j := by omega
    rw [ej, hj] at q2
    rw [Nat.add_assoc, ej] at c2
    rw [c2, ← q2]
theorem eqnil_none (w : World) : (binOp .eql 24 (.slice none 0 0) (.slice none 0 0)).run Tryd.prog w = .ok (.bool true) w := by kernel_rfl
theorem eqnil_some (ad : Addr) (n c : Nat) (w : World) : (binOp .eql 24 (.slice (some ad) n c) (.slice none 0 0)).run Tryd.prog w = .ok (.bool false) w := by kernel_rfl
/-- What Clone makes: pairs of its own. -/
def CloP (n : Nat) (l : List P2) (w : World) (e : Ending) (w' : World) : Prop :=
  ∃ A c, e = .returned (.slice A n c) ∧ w'.ownsRow w.heap.size 54 2 (.slice A n c) n (pcells l) ∧ Past w w'
set_option maxRecDepth 100000 in
set_option maxHeartbeats 2000000 in
theorem clone_any (A : Option Addr) (n c : Nat) (l : List P2) (w : World) (h : Ps w A n c l) (hn : n ≤ 2000000) : Calls Tryd.prog 36 #[.slice A n c] w (CloP n l w) := by
  cases A with
  | none =>
    have hc := h.nilz rfl
    have hn0 : n = 0 := by have := h.cap; omega
    subst hc hn0
    have hl : l = [] := List.eq_nil_of_length_eq_zero h.len
    subst hl
    clear h
    have hq := eqnil_none
    go_enter Tryd.func36, Tryd.ntmps36
    go_wp2_with fail
    go_ret
    exact ⟨none, 0, rfl, World.ownsRow_nil _ _ _ _, Below.refl _ _⟩
  | some ad =>
    have HP := Lib.hid h
    have hcs : Hid (∀ j u, (pcells l)[j]? = some u → (w.alloc (.cells #[] 54)).cell? (ad.add j) = some u) := Lib.hid fun j u hj => by
      rcases Nat.eq_zero_or_pos n with h0 | h0
      · have : l = [] := List.eq_nil_of_length_eq_zero (by rw [HP.out.len, h0])
        subst this
        cases hj
      · obtain ⟨b, o, e, hc⟩ := HP.out.cells h0
        injection e with e
        subst e
        have := HP.out.cells_at (b := b) (o := o) rfl j u hj
        rw [Below.cell (past_alloc8 w _) (cell_lt this)]
        exact this
    have hlen : Hid ((pcells l).length = n * 2) := Lib.hid (by rw [pcells_len, h.len])
    have HO : Hid ((w.alloc (.cells #[] 54)).ownsRow w.heap.size 54 2 (.slice (some ⟨w.heap.size, 0, none⟩) 0 0) 0 []) := Lib.hid (World.ownsRow_made w #[] 0 (Nat.le_refl _) (Nat.zero_le _) rfl)
    obtain ⟨i, hi, hz, hsz, hby⟩ := info_parts infoP
    have HI := Lib.hid (And.intro hi (And.intro hz (And.intro hsz hby)))
    clear h hi hz hsz hby
    have hb1 : 0 + n ≤ maxLen := by unfold maxLen; omega
    have hb2 : (0 + n) * 32 ≤ 140737488355328 := by omega
    have hb3 : w.heap.size ≤ (w.alloc (.cells #[] 54)).heap.size := by simp
    have hq := eqnil_some ad n c
    go_enter Tryd.func36, Tryd.ntmps36
    go_wp2_with (at_builtin; refine wpList_append_own _ rfl _ _ 24 rfl w.heap.size 54 i _ 2 32 Tryd.underlying24 HI.out.1 HI.out.2.1 HI.out.2.2.1 HI.out.2.2.2 rfl (by decide) _ 0 [] rfl HO.out ad n c (pcells l) rfl hlen.out hcs.out (pcells_one l) hb1 hb2 hb3 ?_; intro v' w' hown hgrow _)
    have hpw : Past w w' := (past_alloc8 w (.cells #[] 54)).grown hgrow (by simp) (fun k e => by injection e with e; rw [← e]; exact Nat.le_refl _)
    rw [Nat.zero_add, List.nil_append] at hown
    obtain ⟨A2, c2, rfl⟩ := own_slice hown
    go_ret
    exact ⟨A2, c2, rfl, hown, hpw⟩

abbrev cmpV : Value := .func (.func 38) #[] #[]
theorem insert1_any (v : Value) (w : World) : Calls Tryd.prog 65 #[v, .int .i64 0, .int .i64 1, cmpV] w fun e w' => (∃ x, e = .returned x) ∧ w' = w := by
  go_enter Tryd.func65, Tryd.ntmps65
  go_wp2_with fail
  go_loopg [8, 9] 0 (fun q s8 s9 wx => q = 0 ∧ s8 = .int .i64 1 ∧ w = wx)
  case atStart => exact ⟨rfl, rfl, rfl⟩
  case round =>
    obtain ⟨_, rfl, rfl⟩ := hrel
    go_wp2_with fail
    go_end0
    exact ⟨⟨_, rfl⟩, rfl⟩
theorem stable1_any (v : Value) (w : World) : Calls Tryd.prog 55 #[v, .int .i64 1, cmpV] w fun e w' => (∃ x, e = .returned x) ∧ w' = w := by
  have HI := Lib.hid (insert1_any v w)
  go_enter Tryd.func55, Tryd.ntmps55
  go_wp2_with fail
  go_loopg [7, 8] 0 (fun q s7 s8 wx => q = 0 ∧ s7 = .int .i64 0 ∧ s8 = .int .i64 20 ∧ w = wx)
  case atStart => exact ⟨rfl, rfl, rfl, rfl⟩
  case round =>
    obtain ⟨_, rfl, rfl, rfl⟩ := hrel
    go_wp2_with fail
    refine HI.out.mono ?_
    rintro e w' ⟨⟨x, rfl⟩, rfl⟩
    go_wp2_with fail
    go_loopg [6, 7, 8, 9] 0 (fun q s6 s7 s8 s9 wx => q = 0 ∧ s6 = .int .i64 20 ∧ wx = w')
    case atStart => exact ⟨rfl, rfl, rfl⟩
    case round =>
      obtain ⟨_, rfl, rfl⟩ := hrel
      go_wp2_with fail
      go_end0
      exact ⟨⟨_, rfl⟩, rfl⟩
theorem sort1_any (A : Option Addr) (c : Nat) (w : World) : Calls Tryd.prog 37 #[.slice A 1 c, cmpV] w fun e w' => (∃ x, e = .returned x) ∧ w' = w := by
  have HI := Lib.hid (stable1_any (.slice A 1 c) w)
  go_enter Tryd.func37, Tryd.ntmps37
  go_wp2_with fail
  refine HI.out.mono ?_
  rintro e w' ⟨⟨x, rfl⟩, rfl⟩
  go_wp2_with fail
  go_end0
  exact ⟨⟨_, rfl⟩, rfl⟩
/-- Sorted at one pair. -/
theorem sorted1_any (A : Option Addr) (c : Nat) (l : List P2) (w : World) (h : Ps w A 1 c l) : Calls Tryd.prog 21 #[.slice A 1 c] w fun e w' => ∃ A' c', e = .returned (.slice A' 1 c') ∧ Past w w' := by
  have HC := Lib.hid (clone_any A 1 c l w h (by omega))
  have HS := Lib.hid (fun A c w => sort1_any A c w)
  clear h
  go_enter Tryd.func21, Tryd.ntmps21
  go_wp2_with fail
  refine HC.out.mono ?_
  rintro e w1 ⟨A', c', rfl, _, hp⟩
  have HP := Lib.hid hp
  clear hp
  go_wp2_with fail
  refine (HS.out _ _ _).mono ?_
  rintro e w' ⟨⟨x, rfl⟩, rfl⟩
  go_wp2_with fail
  go_ret
  exact ⟨A', c', rfl, HP.out⟩

end Go.Proofs.YtclnoblcdaimiaaDoor
