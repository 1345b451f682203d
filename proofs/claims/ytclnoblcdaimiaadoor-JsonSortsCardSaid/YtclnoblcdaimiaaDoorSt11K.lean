/- The program's Sorted at up to 40 pairs. -/
import Derived.Test.YtclnoblcdaimiaaDoorSt11J
import Derived.Test.YtclnoblcdaimiaaDoorPg11S
namespace Go.Proofs.YtclnoblcdaimiaaDoor
open Go.RowKit Go.Sort Go.Shelf Go.Lib
set_option linter.unusedVariables false

theorem getD_arr (d : Array P2) (i : Nat) (h : i < d.size) : d.toList.getD i default = d[i]! := by
  rw [getD_at _ _ (by simpa using h), getElem!_pos d i h]
  simp
/-- The list sorted: no later name is less; the same pairs of each name, in the same order. -/
structure SrtOf (l m : List P2) : Prop where
  len : m.length = l.length
  asc : ∀ a b, a < b → b < m.length → ltOf cfP (m.getD b default) (m.getD a default) = false
  same : ∀ t, flt clsP t m = flt clsP t l
theorem SrtOf.of {l : List P2} {d' : Array P2} (h1 : Stb clsP l.toArray d') (h2 : SortedIn (ltOf cfP) 0 l.toArray.size d') : SrtOf l d'.toList := by
  have hs : d'.size = l.length := by have := h1.1; simpa using this
  refine ⟨by simpa using hs, fun a b hab hb => ?_, fun t => ?_⟩
  · have hb : b < d'.size := by simpa using hb
    rw [getD_arr d' b hb, getD_arr d' a (by omega)]
    exact h2 a b (Nat.zero_le _) hab (by simp; omega)
  · have := h1.2 t
    simpa [flt] using this
theorem SrtOf.nil : SrtOf [] [] := ⟨rfl, fun a b _ h => absurd h (Nat.not_lt_zero _), fun _ => rfl⟩
/-- What Clone has made is a row that can be sorted. -/
theorem own_holds {w : World} {B g n c : Nat} {l : List P2} (h : w.ownsRow B 54 2 (.slice (some ⟨g, 0, none⟩) n c) n (pcells l)) :
    l.length = n ∧ B ≤ g ∧ g < w.heap.size ∧ n ≤ c ∧ c ≤ maxLen ∧ HoldsK encP 2 w g 0 l.toArray := by
  have hl : l.length = n := by have := h.1; rw [pcells_len] at this; omega
  rcases h.2 with ⟨e1, e2⟩ | ⟨g', cap, cur, e1, e2, e3, e4, e5, e6, e7⟩
  · cases e1
  · injection e1 with a1 a2 a3
    injection a1 with a1
    injection a1 with a1 _ _
    subst a1 a3
    refine ⟨hl, e2, (Array.getElem?_eq_some_iff.1 e3).1, e4, e5, fun j hj => ?_⟩
    have hj2 : j < l.length * 2 := by simpa using hj
    refine ⟨?_, by simp [World.frozen?, e3]⟩
    have e : (pcells l)[j]? = some ((flatK encP 2 l.toArray)[j]!) := by
      rw [get_flatK _ _ _ _ (by simpa using hj2)]
      have hd : j / 2 < l.length := by omega
      have e0 : (l.toArray)[j / 2]! = l.getD (j / 2) default := by
        rw [getElem!_pos _ _ (by simpa using hd), getD_at _ _ hd]
        simp
      obtain ⟨q1, q2⟩ := pcells_at l (j / 2) hd
      rw [e0]
      rcases Nat.mod_two_eq_zero_or_one j with hm | hm
      · rw [hm]
        rw [show j / 2 * 2 = j by omega] at q1
        rw [q1]
        rfl
      · rw [hm]
        rw [show j / 2 * 2 + 1 = j by omega] at q2
        rw [q2]
        rfl
    rw [Nat.zero_add, show w.cell? ⟨g, j, none⟩ = cur[j]? from cell_of_row w g j cur _ (0, 0) e3]
    have h1 : cur.toList[j]? = (pcells l)[j]? := by
      rw [← e7, List.getElem?_take_of_lt (by omega)]
    rw [← Array.getElem?_toList, h1, e]
    rfl
theorem ps_of_holds {w : World} {g n c : Nat} {d : Array P2} (h : HoldsK encP 2 w g 0 d) (hn : d.size = n) (hc : n ≤ c) (hm : c ≤ maxLen) : Ps w (some ⟨g, 0, none⟩) n c d.toList := by
  refine ⟨by simpa using hn, hc, hm, fun _ => ⟨g, 0, rfl, fun i hi => ?_⟩, fun e => by cases e⟩
  rw [getD_arr d i (by omega)]
  obtain ⟨h1, h2, _, _⟩ := holdsP h i (by omega)
  exact ⟨h1, h2⟩
theorem insert0_any (v : Value) (w : World) : Calls Tryd.prog 65 #[v, .int .i64 0, .int .i64 0, cmpV] w fun e w' => (∃ x, e = .returned x) ∧ w' = w := by
  go_enter Tryd.func65, Tryd.ntmps65
  go_wp2_with fail
  go_loopg [8, 9] 0 (fun q s8 s9 wx => q = 0 ∧ s8 = .int .i64 1 ∧ w = wx)
  case atStart => exact ⟨rfl, rfl, rfl⟩
  case round =>
    obtain ⟨_, rfl, rfl⟩ := hrel
    go_wp2_with fail
    go_end0
    exact ⟨⟨_, rfl⟩, rfl⟩
theorem stable0_any (v : Value) (w : World) : Calls Tryd.prog 55 #[v, .int .i64 0, cmpV] w fun e w' => (∃ x, e = .returned x) ∧ w' = w := by
  have HI := Lib.hid (insert0_any v w)
  go_enter Tryd.func55, Tryd.ntmps55
  go_wp2_with fail
  go_loopg [7, 8] 0 (fun q s7 s8 wx => q = 0 ∧ s7 = .int .i64 0 ∧ s8 = .int .i64 20 ∧ w = wx)
  case atStart => exact ⟨rfl, rfl, rfl, rfl⟩
  case round =>
    obtain ⟨_, rfl, rfl, rfl⟩ := hrel
    go_wp2_with fail
    refine HI.out.mono ?_
    rintro e w' ⟨⟨x, rfl⟩, rfl⟩
    go_wp2_with fail
    go_loopg [6, 7, 8, 9] 0 (fun q s6 s7 s8 s9 wx => q = 0 ∧ s6 = .int .i64 20 ∧ wx = w')
    case atStart => exact ⟨rfl, rfl, rfl⟩
    case round =>
      obtain ⟨_, rfl, rfl⟩ := hrel
      go_wp2_with fail
      go_end0
      exact ⟨⟨_, rfl⟩, rfl⟩
theorem sort_of {P : Value → World → Prop} (A : Option Addr) (n c : Nat) (w : World) (h : Calls Tryd.prog 55 #[.slice A n c, .int .i64 (n : Int), cmpV] w fun e w' => ∃ x, e = .returned x ∧ P x w') :
    Calls Tryd.prog 37 #[.slice A n c, cmpV] w fun e w' => ∃ x y, e = .returned x ∧ P y w' := by
  have HI := Lib.hid h
  clear h
  go_enter Tryd.func37, Tryd.ntmps37
  go_wp2_with fail
  refine HI.out.mono ?_
  rintro e w' ⟨x, rfl, hp⟩
  have HP := Lib.hid hp
  clear hp
  go_wp2_with fail
  go_end0
  exact ⟨_, x, rfl, HP.out⟩
theorem sort_any (A : Option Addr) (n c B : Nat) (l : List P2) (w0 w : World) (hb : w0.heap.size ≤ B) (hp : Past w0 w) (h : w.ownsRow B 54 2 (.slice A n c) n (pcells l)) (hn : n ≤ 40) :
    Calls Tryd.prog 37 #[.slice A n c, cmpV] w fun e w' => (∃ x, e = .returned x) ∧ ∃ m, Ps w' A n c m ∧ SrtOf l m ∧ Past w0 w' := by
  rcases Nat.eq_zero_or_pos n with h0 | h0
  · subst h0
    have hl : l = [] := List.eq_nil_of_length_eq_zero (by have := h.1; rw [pcells_len] at this; omega)
    subst hl
    have hps : Ps w A 0 c [] := Ps.of_own h
    refine (sort_of (P := fun _ w' => w' = w) A 0 c w ((stable0_any _ w).mono ?_)).mono ?_
    · rintro e w' ⟨⟨x, rfl⟩, rfl⟩
      exact ⟨x, rfl, rfl⟩
    · rintro e w' ⟨x, _, rfl, rfl⟩
      exact ⟨⟨x, rfl⟩, [], hps, SrtOf.nil, hp⟩
  · obtain ⟨g, rfl⟩ : ∃ g, A = some ⟨g, 0, none⟩ := by
      rcases h.2 with ⟨_, e2⟩ | ⟨g', cap, cur, e1, _⟩
      · omega
      · injection e1 with a1 _ _
        exact ⟨g', a1⟩
    obtain ⟨hl, q1, q2, q3, q4, q5⟩ := own_holds h
    have hsz : l.toArray.size = n := by simpa using hl
    have hc := stable_any g 0 c l.toArray w q5 q2 (by omega)
    rw [hsz] at hc
    refine (sort_of (P := fun _ w' => ∃ d', SWK encP 2 w g 0 d' w' ∧ Stb clsP l.toArray d' ∧ SortedIn (ltOf cfP) 0 n d') _ n c w (hc.mono ?_)).mono ?_
    · rintro e w' ⟨rfl, hd⟩
      exact ⟨_, rfl, hd⟩
    · rintro e w' ⟨x, _, rfl, d', h1, h2, h3⟩
      have hs : d'.size = n := by rw [h2.1, hsz]
      exact ⟨⟨x, rfl⟩, d'.toList, ps_of_holds (h1.holds q2 q5 (by rw [hs, hsz])) hs q3 q4, SrtOf.of h2 (by rw [hsz]; exact h3), swk_past hp (by omega) h1⟩
theorem sorted_any (A : Option Addr) (n c : Nat) (l : List P2) (w : World) (h : Ps w A n c l) (hn : n ≤ 40) : Calls Tryd.prog 21 #[.slice A n c] w fun e w' => ∃ A' c' m, e = .returned (.slice A' n c') ∧ Ps w' A' n c' m ∧ SrtOf l m ∧ Past w w' := by
  have HC := Lib.hid (clone_any A n c l w h (by omega))
  have HS := Lib.hid (fun A c w1 hp h => sort_any A n c w.heap.size l w w1 (Nat.le_refl _) hp h hn)
  clear h
  go_enter Tryd.func21, Tryd.ntmps21
  go_wp2_with fail
  refine HC.out.mono ?_
  rintro e w1 ⟨A', c', rfl, ho, hp⟩
  have HP := Lib.hid (And.intro hp ho)
  clear hp ho
  go_wp2_with fail
  refine (HS.out _ _ _ HP.out.1 HP.out.2).mono ?_
  rintro e w' ⟨⟨x, rfl⟩, m, h1, h2, h3⟩
  have HF := Lib.hid (And.intro h1 (And.intro h2 h3))
  clear h1 h2 h3
  go_wp2_with fail
  go_ret
  exact ⟨A', c', m, rfl, HF.out⟩
end Go.Proofs.YtclnoblcdaimiaaDoor
