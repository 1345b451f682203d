/- Contracts of the small functions of package wire: word sizes, At, Left and the cut that Take and Word share. Contracts of package wire: the cut that Take and Word share. Contracts of package wire: Clone (of the library), New, Take, Rest. Contracts of package wire: Rest and Word. Contracts of Put: the one of package wire. Contract of Same of package pyxref01. Contracts of Same and Join of package wire. -/
import Derived.Test.YtmhgpdfllpgjpaaDoorTree10
import Derived.Deep.QuietTactic
import Derived.BigQuiet
import Derived.Lib.SliceRun
import Derived.Test.YtmhgpdfllpgjpaaDoorNum
import Derived.Test.YtmhgpdfllpgjpaaDoorRef10E
import Derived.Test.YtmhgpdfllpgjpaaDoorShelf
namespace Go.Proofs.YtmhgpdfllpgjpaaDoor
open Go.RowKit

def ws (n : Int) : Bool := decide (n = 1 ∨ n = 2 ∨ n = 4 ∨ n = 8)
theorem ws_nat {n : Int} (h : ws n = true) : n = 1 ∨ n = 2 ∨ n = 4 ∨ n = 8 := by simpa [ws] using h
theorem ws_no {n : Int} (h : ws n = false) : n ≠ 1 ∧ n ≠ 2 ∧ n ≠ 4 ∧ n ≠ 8 := by simpa [ws] using h

theorem isWord_any (n : Int) (w : World) :
    Calls Tryd.prog 78 #[.int .i64 n] w fun e w' => e = .returned (.bool (ws n)) ∧ w = w' := by
  cases hr : ws n with
  | true =>
    rcases ws_nat hr with rfl | rfl | rfl | rfl
    all_goals
      clear hr
      go_enter Tryd.func78, Tryd.ntmps78
      go_wp2
      go_ret
      exact ⟨rfl, rfl⟩
  | false =>
    obtain ⟨h1, h2, h4, h8⟩ := ws_no hr
    clear hr
    have e1 : (n == 1) = false := by simpa using h1
    have e2 : (n == 2) = false := by simpa using h2
    have e4 : (n == 4) = false := by simpa using h4
    have e8 : (n == 8) = false := by simpa using h8
    go_enter Tryd.func78, Tryd.ntmps78
    go_wp2
    go_ret
    exact ⟨rfl, rfl⟩

/-- Block g is a reader over the bytes at A (n of them, capacity c) with the offset k. -/
def Rdr (w : World) (g : Nat) (A : Option Addr) (n c k : Nat) : Prop := w.heap[g]? = some (.cells #[.slice A n c, .int .i64 (k : Int)] 89 (0, 0))

section
variable {w w' : World} {g : Nat} {A : Option Addr} {n c k : Nat}
theorem Rdr.c0 (h : Rdr w g A n c k) : w.cell? ⟨g, 0, none⟩ = some (.slice A n c) := cell_of_row w g 0 _ _ (0, 0) h
theorem Rdr.c1 (h : Rdr w g A n c k) : w.cell? ⟨g, 1, none⟩ = some (.int .i64 (k : Int)) := cell_of_row w g 1 _ _ (0, 0) h
theorem Rdr.fr (h : Rdr w g A n c k) (i : Nat) : w.frozen? ⟨g, i, none⟩ = false := by
  unfold Rdr at h
  simp [World.frozen?, h]
theorem Rdr.lt (h : Rdr w g A n c k) : g < w.heap.size := cell_lt h.c0
theorem Rdr.drewN (h : Rdr w g A n c k) (m : Nat) : Rdr (w.drewN m) g A n c k := h
theorem Rdr.past (h : Rdr w g A n c k) (hb : Past w w') : Rdr w' g A n c k := (hb.block g h.lt).trans h
theorem Rdr.set1 (h : Rdr w g A n c k) (m : Nat) : Rdr (w.setCell ⟨g, 1, none⟩ (.int .i64 (m : Int))) g A n c m := by
  unfold Rdr at h ⊢
  simp [World.setCell, Array.getElem?_modify, h]
/-- No byte lies in a reader's block. -/
theorem Rdr.nobyte (h : Rdr w g A n c k) (p : Addr) (x : Int) (hp : p.block = g) : w.cell? p ≠ some (.int .u8 x) := by
  intro hc
  obtain ⟨b, o, s⟩ := p
  subst hp
  unfold Rdr at h
  simp only [World.cell?, h] at hc
  revert hc
  cases s <;> simp
  rcases o with _ | _ | o <;> simp
end

theorem wat_nil (w : World) : Calls Tryd.prog 33 #[.pointer none] w fun e w' => e = .returned (.int .i64 0) ∧ w = w' := by
  go_enter Tryd.func33, Tryd.ntmps33
  go_wp2
  go_ret
  exact ⟨rfl, rfl⟩
theorem wat_any (w : World) (g : Nat) (A : Option Addr) (n c k : Nat) (h : Rdr w g A n c k) :
    Calls Tryd.prog 33 #[.pointer (some ⟨g, 0, none⟩)] w fun e w' => e = .returned (.int .i64 (k : Int)) ∧ w = w' := by
  have h1 := h.c1
  clear h
  go_enter Tryd.func33, Tryd.ntmps33
  go_wp2
  go_ret
  exact ⟨rfl, rfl⟩

theorem left_nil (w : World) : Calls Tryd.prog 32 #[.pointer none] w fun e w' => e = .returned (.int .i64 0) ∧ ∃ m, w' = w.drewN m := by
  go_enter Tryd.func32, Tryd.ntmps32
  go_wp2
  go_ret
  exact ⟨rfl, 0, rfl⟩
theorem left_any (w : World) (g : Nat) (A : Option Addr) (n c k : Nat) (h : Rdr w g A n c k) (hk : k ≤ n) (hn : n ≤ 9223372036854775807) :
    Calls Tryd.prog 32 #[.pointer (some ⟨g, 0, none⟩)] w fun e w' => e = .returned (.int .i64 ((n - k : Nat) : Int)) ∧ ∃ m, w' = w.drewN m := by
  have h0 := h.c0
  have h1 := h.c1
  have e : ((n - k : Nat) : Int) = (n : Int) - (k : Int) := by omega
  rw [e]
  clear h e
  go_enter Tryd.func32, Tryd.ntmps32
  go_wp2
  go_quiet (fail)
  go_wp2
  go_ret
  exact ⟨rfl, _, rfl⟩

end Go.Proofs.YtmhgpdfllpgjpaaDoor

namespace Go.Proofs.YtmhgpdfllpgjpaaDoor
open Go.RowKit

theorem next_nil (n : Int) (w : World) :
    Calls Tryd.prog 79 #[.pointer none, .int .i64 n] w fun e w' => e = .returned (.tuple #[.slice none 0 0, .bool false]) ∧ w = w' := by
  go_enter Tryd.func79, Tryd.ntmps79
  go_wp2
  go_ret2
  exact ⟨rfl, rfl⟩

theorem next_neg (n : Int) (w : World) (a : Addr) (hn : n < 0) :
    Calls Tryd.prog 79 #[.pointer (some a), .int .i64 n] w fun e w' => e = .returned (.tuple #[.slice none 0 0, .bool false]) ∧ w = w' := by
  go_enter Tryd.func79, Tryd.ntmps79
  go_wp2
  go_ret2
  exact ⟨rfl, rfl⟩

theorem next_far (n : Int) (w : World) (g : Nat) (A : Option Addr) (l c k : Nat) (h : Rdr w g A l c k) (hk : k ≤ l) (hl : l ≤ 9223372036854775807) (hn : ((l - k : Nat) : Int) < n) :
    Calls Tryd.prog 79 #[.pointer (some ⟨g, 0, none⟩), .int .i64 n] w fun e w' => e = .returned (.tuple #[.slice none 0 0, .bool false]) ∧ ∃ m, w' = w.drewN m := by
  have hc := fun W (hW : Rdr W g A l c k) => left_any W g A l c k hW hk hl
  have H := Lib.hid h
  clear h
  have hn0 : 0 ≤ n := by omega
  go_enter Tryd.func79, Tryd.ntmps79
  go_wp2_with fail
  refine (hc _ H.out).mono ?_
  rintro e w' ⟨rfl, m, rfl⟩
  go_wp2_with fail
  go_ret2
  exact ⟨rfl, m, rfl⟩

theorem next_ok (n : Nat) (w : World) (g : Nat) (A : Option Addr) (l c k : Nat) (h : Rdr w g A l c k) (hk : k ≤ l) (hlc : l ≤ c) (hl : c ≤ 9223372036854775807) (hn : n ≤ l - k) :
    Calls Tryd.prog 79 #[.pointer (some ⟨g, 0, none⟩), .int .i64 (n : Int)] w fun e w' =>
      e = .returned (.tuple #[.slice (if n = 0 then A else A.map (·.add k)) n n, .bool true]) ∧ ∃ m, w' = (w.drewN m).setCell ⟨g, 1, none⟩ (.int .i64 ((k + n : Nat) : Int)) := by
  have hc := fun W (hW : Rdr W g A l c k) => left_any W g A l c k hW hk (by omega)
  have h0 := h.c0
  have h1 := h.c1
  have hf := h.fr 1
  have H := Lib.hid h
  clear h
  have hn0 : (0 : Int) ≤ (n : Int) := by omega
  have hk0 : (0 : Int) ≤ (k : Int) := by omega
  have hkn : (k : Int) + (n : Int) ≤ (c : Int) := by omega
  have hle : (n : Int) ≤ ((l - k : Nat) : Int) := by omega
  go_enter Tryd.func79, Tryd.ntmps79
  go_wp2_with fail
  refine (hc _ H.out).mono ?_
  rintro e w' ⟨rfl, m, rfl⟩
  go_wp2_with fail
  have e1 : ((k : Int) + (n : Int)).toNat = k + n := by omega
  go_quiet (fail)
  clear e1
  go_wp2_with fail
  all_goals
    go_ret2
    exact ⟨rfl, _, rfl⟩

end Go.Proofs.YtmhgpdfllpgjpaaDoor

namespace Go.Proofs.YtmhgpdfllpgjpaaDoor
open Go.RowKit

theorem clone_any (A : Option Addr) (n c : Nat) (xs : List Int) (w : World) (h : Sl w A n c xs) (hbig : n ≤ 140737488355328) :
    Calls Tryd.prog 44 #[.slice A n c] w (Fresh 5 w xs) := by
  have hx := h.len
  rcases A with _ | ad
  · have hn : n = 0 := by
      rcases Nat.eq_zero_or_pos n with h0 | h0
      · exact h0
      · obtain ⟨b, o, e, _⟩ := h.bytes h0
        cases e
    subst hn
    have hxs : xs = [] := List.eq_nil_of_length_eq_zero hx
    subst hxs
    clear h hx hbig
    have q22 : ∀ (w : World) (a : Option Addr) (n c n' c' : Nat), (binOp .eql 22 (.slice a n c) (.slice none n' c')).run Tryd.prog w = .ok (.bool a.isNone) w := fun w a n c n' c' => Lib.run_eql_slice_nil w _ _ a n c n' c' Tryd.underlying22
    go_enter Tryd.func44, Tryd.ntmps44
    go_wp2
    go_ret
    exact ⟨none, 0, rfl, World.ownsRow_nil _ _ _ _, Below.refl _ _⟩
  · have hcell : ∀ j u, (xs.map (Value.int .u8))[j]? = some u → w.cell? (ad.add j) = some u := by
      intro j u hj
      have hjn : j < n := by
        have := (List.getElem?_eq_some_iff.1 hj).1
        simp at this
        omega
      obtain ⟨b, o, e, hc⟩ := h.bytes (by omega)
      injection e with e
      subst e
      rw [add_none, hc j hjn, ← hj]
      simp [List.getD, List.getElem?_eq_getElem (show j < xs.length by omega)]
    have H := Lib.hid hcell
    have HX := Lib.hid hx
    clear h hcell hx
    obtain ⟨i0, hi, hz0, hz1, hz2⟩ := info_parts info8
    have q22 : ∀ (w : World) (a : Option Addr) (n c n' c' : Nat), (binOp .eql 22 (.slice a n c) (.slice none n' c')).run Tryd.prog w = .ok (.bool a.isNone) w := fun w a n c n' c' => Lib.run_eql_slice_nil w _ _ a n c n' c' Tryd.underlying22
    go_enter Tryd.func44, Tryd.ntmps44
    go_wp2_with (at_builtin; refine wpList_append_own _ rfl _ _ 22 rfl w.heap.size 5 i0 (.int .u8 0) 1 1 Tryd.underlying22 hi hz0 hz1 hz2 rfl (by decide) _ _ _ rfl (World.ownsRow_made w #[] 0 (Nat.le_refl _) (Nat.zero_le _) rfl) ad n c (xs.map (Value.int .u8)) rfl ?qc1 ?qc2 ?qc3 ?qc4 ?qc5 ?qc6 ?_)
    case qc1 => simp [HX.out]
    case qc2 => intro j u hj; exact Lib.cell?_alloc_some _ (H.out j u hj)
    case qc3 => intro u hu; obtain ⟨x, _, rfl⟩ := List.mem_map.1 hu; rfl
    case qc4 => unfold maxLen; omega
    case qc5 => omega
    case qc6 => simp
    intro v' w1 hown hgrow hnil
    go_wp2
    go_ret
    have hp : Past w w1 := ((Below.refl _ w).alloc (Nat.le_refl _) _).grown hgrow (by simp) (by intro k hk; simp [Value.ownBlock] at hk; omega)
    have hn := HX.out
    subst hn
    rcases hown.2 with ⟨rfl, e2⟩ | ⟨g', cap, cur, rfl, _⟩
    · exact absurd rfl hnil
    · exact ⟨_, _, rfl, hown, hp⟩

theorem Fresh.out {w w' : World} {xs : List Int} {e : Ending} (h : Fresh 5 w xs e w') (hr : ∀ x ∈ xs, 0 ≤ x ∧ x < 256) :
    ∃ A c, e = .returned (.slice A xs.length c) ∧ Sl w' A xs.length c xs ∧ w'.ownsRow w.heap.size 5 1 (.slice A xs.length c) xs.length (xs.map (Value.int .u8)) ∧ Past w w' := by
  obtain ⟨A, c, he, ho, hp⟩ := h
  exact ⟨A, c, he, Sl.of_own ho hr, ho, hp⟩

/-- A new reader. -/
def MadeRdr (w : World) (xs : List Int) (e : Ending) (w' : World) : Prop :=
  ∃ g A c, e = .returned (.pointer (some ⟨g, 0, none⟩)) ∧ Rdr w' g A xs.length c 0 ∧ Sl w' A xs.length c xs ∧ w.heap.size ≤ g ∧ Past w w'

theorem wnew_any (A : Option Addr) (n c : Nat) (xs : List Int) (w : World) (h : Sl w A n c xs) (hbig : n ≤ 140737488355328) :
    Calls Tryd.prog 30 #[.slice A n c] w (MadeRdr w xs) := by
  have hc := fun W (hW : Sl W A n c xs) => clone_any A n c xs W hW hbig
  have H := Lib.hid h
  clear h
  go_enter Tryd.func30, Tryd.ntmps30
  go_wp2_with fail
  refine (hc _ H.out).mono ?_
  intro e w1 hf
  obtain ⟨A1, c1, rfl, hs, ho, hp⟩ := hf.out H.out.rng
  clear hf
  have HO := Lib.hid ho
  have HS := Lib.hid hs
  have HP := Lib.hid hp
  clear ho hs hp
  go_wp2_with fail
  go_ret
  exact ⟨w1.heap.size, A1, c1, rfl, heap_alloc_new w1 _, HS.out.past ((Below.refl _ _).alloc (Nat.le_refl _) _), HP.out.size, HP.out.trans' ((Below.refl _ _).alloc (Nat.le_refl _) _)⟩

theorem take_nil (n : Int) (w : World) :
    Calls Tryd.prog 64 #[.pointer none, .int .i64 n] w fun e w' => e = .returned (.tuple #[.slice none 0 0, .bool false]) ∧ w = w' := by
  have q22 : ∀ (w : World) (a : Option Addr) (n c n' c' : Nat), (binOp .eql 22 (.slice a n c) (.slice none n' c')).run Tryd.prog w = .ok (.bool a.isNone) w := fun w a n c n' c' => Lib.run_eql_slice_nil w _ _ a n c n' c' Tryd.underlying22
  go_enter Tryd.func64, Tryd.ntmps64
  go_wp2_with fail
  refine (next_nil n _).mono ?_
  rintro e w' ⟨rfl, rfl⟩
  go_wp2
  go_ret2
  exact ⟨rfl, rfl⟩

theorem take_no (n : Int) (w : World) (g : Nat) (A : Option Addr) (l c k : Nat) (h : Rdr w g A l c k) (hk : k ≤ l) (hl : l ≤ 9223372036854775807) (hn : n < 0 ∨ ((l - k : Nat) : Int) < n) :
    Calls Tryd.prog 64 #[.pointer (some ⟨g, 0, none⟩), .int .i64 n] w fun e w' => e = .returned (.tuple #[.slice none 0 0, .bool false]) ∧ ∃ m, w' = w.drewN m := by
  have q22 : ∀ (w : World) (a : Option Addr) (n c n' c' : Nat), (binOp .eql 22 (.slice a n c) (.slice none n' c')).run Tryd.prog w = .ok (.bool a.isNone) w := fun w a n c n' c' => Lib.run_eql_slice_nil w _ _ a n c n' c' Tryd.underlying22
  have H := Lib.hid h
  have HN := Lib.hid hn
  clear h hn
  go_enter Tryd.func64, Tryd.ntmps64
  go_wp2_with fail
  rcases HN.out with hn | hn
  · refine (next_neg n _ _ hn).mono ?_
    rintro e w' ⟨rfl, rfl⟩
    go_wp2
    go_ret2
    exact ⟨rfl, 0, rfl⟩
  · refine (next_far n _ g A l c k H.out hk hl hn).mono ?_
    rintro e w' ⟨rfl, m, rfl⟩
    go_wp2
    go_ret2
    exact ⟨rfl, m, rfl⟩

/-- What Take returns when there are enough bytes: ys in memory of its own; the offset is k afterwards; of what is old only the reader has changed. -/
def Took (w : World) (g : Nat) (A : Option Addr) (l c k : Nat) (ys : List Int) (e : Ending) (w' : World) : Prop :=
  ∃ A1 c1, e = .returned (.tuple #[.slice A1 ys.length c1, .bool true]) ∧ Rdr w' g A l c k ∧ Sl w' A1 ys.length c1 ys ∧
    w'.ownsRow w.heap.size 5 1 (.slice A1 ys.length c1) ys.length (ys.map (Value.int .u8)) ∧ w.grownBy w' (some g)

theorem take_ok (n : Nat) (w : World) (g : Nat) (A : Option Addr) (l c k : Nat) (xs : List Int) (h : Rdr w g A l c k) (hs : Sl w A l c xs) (hk : k ≤ l) (hl : l ≤ 140737488355328) (hn : n ≤ l - k) :
    Calls Tryd.prog 64 #[.pointer (some ⟨g, 0, none⟩), .int .i64 (n : Int)] w (Took w g A l c (k + n) ((xs.drop k).take n)) := by
  have hcp := hs.cap
  have hbg := hs.big
  unfold maxLen at hbg
  have hlen : ((xs.drop k).take n).length = n := by have := hs.len; simp; omega
  have hcl := fun W m (hW : W = (w.drewN m).setCell ⟨g, 1, none⟩ (.int .i64 ((k + n : Nat) : Int))) => clone_any (if n = 0 then A else A.map (·.add k)) n n ((xs.drop k).take n) W (by
    subst hW
    exact ((hs.cut (by omega)).drewN m).setCell (w := w.drewN m) (h.drewN m).c1 (by intro x hx; cases hx)) (by omega)
  have hrng : ∀ x ∈ (xs.drop k).take n, 0 ≤ x ∧ x < 256 := (hs.cut (i := k) (m := n) (by omega)).rng
  generalize (xs.drop k).take n = ys at hlen hcl hrng ⊢
  have HR := Lib.hid hrng
  have H := Lib.hid h
  have HC := Lib.hid hcl
  clear h hs hcl hrng hlen
  go_enter Tryd.func64, Tryd.ntmps64
  go_wp2_with fail
  refine (next_ok n _ g A l c k H.out hk hcp (by omega) hn).mono ?_
  rintro e w' ⟨rfl, m, rfl⟩
  generalize hA : (if n = 0 then A else A.map (·.add k)) = A' at HC ⊢
  have HA := Lib.hid hA
  clear hA
  go_wp2_with fail
  refine (HC.out _ m rfl).mono ?_
  intro e w1 hf
  obtain ⟨A1, c1, rfl, hs, ho, hp⟩ := hf.out HR.out
  clear hf
  have HO := Lib.hid ho
  have HS := Lib.hid hs
  have HP := Lib.hid hp
  clear ho hs hp
  go_wp2_with fail
  go_ret2
  have hset : Rdr ((w.drewN m).setCell ⟨g, 1, none⟩ (.int .i64 ((k + n : Nat) : Int))) g A l c (k + n) := (H.out.drewN m).set1 (k + n)
  exact ⟨A1, c1, rfl, hset.past HP.out, HS.out, by simpa using HO.out,
    only_trans (only_setCell (only_drewN (World.grownBy.refl w (some g)) m) (.inl rfl) _) (only_of_past HP.out _)⟩

end Go.Proofs.YtmhgpdfllpgjpaaDoor

namespace Go.Proofs.YtmhgpdfllpgjpaaDoor
open Go.RowKit

theorem word_ok (n : Nat) (w : World) (g : Nat) (A : Option Addr) (l c k : Nat) (xs : List Int) (h : Rdr w g A l c k) (hs : Sl w A l c xs) (hk : k ≤ l) (hn : n ≤ l - k) (hw : ws (n : Int) = true) :
    Calls Tryd.prog 62 #[.pointer (some ⟨g, 0, none⟩), .int .i64 (n : Int)] w fun e w' => e = .returned (.tuple #[.int .u64 (beI ((xs.drop k).take n)), .bool true]) ∧
      ∃ m, w' = (w.drewN m).setCell ⟨g, 1, none⟩ (.int .i64 ((k + n : Nat) : Int)) := by
  have hcp := hs.cap
  have hbg := hs.big
  unfold maxLen at hbg
  have hn8 : n ≤ 8 := by rcases ws_nat hw with h | h | h | h <;> omega
  have hn1 : 1 ≤ n := by rcases ws_nat hw with h | h | h | h <;> omega
  have hlen : ((xs.drop k).take n).length = n := by have := hs.len; simp; omega
  have hcut := hs.cut (i := k) (m := n) (by omega)
  have hrng := hcut.rng
  obtain ⟨b, o, hA, hc⟩ := hcut.bytes (by omega)
  have hcells : ∀ m i, i < n → ((w.drewN m).setCell ⟨g, 1, none⟩ (.int .i64 ((k + n : Nat) : Int))).cell? ⟨b, o + i, none⟩ = some (.int .u8 (((xs.drop k).take n).getD i 0)) := by
    intro m i hi
    rw [World.cell?_setCell_other]
    · exact hc i hi
    · intro e
      have e2 := hc i hi
      rw [← e, h.c1] at e2
      injection e2 with e2
      injection e2 with e2
      cases e2
  generalize (xs.drop k).take n = ys at hlen hcells hrng ⊢
  have HW := Lib.hid hw
  have HC := Lib.hid hcells
  have HL := Lib.hid hlen
  have HR := Lib.hid hrng
  have H := Lib.hid h
  clear h hs hcells hrng hlen hw hcut hc
  have hw' := isWord_any (n : Int)
  rw [HW.out] at hw'
  have hnx := fun W (hW : W = w) => next_ok n W g A l c k (by subst hW; exact H.out) hk hcp (by omega) hn
  rw [hA] at hnx
  have HN := Lib.hid hnx
  have HI := Lib.hid hw'
  clear hnx hw' hA
  go_enter Tryd.func62, Tryd.ntmps62
  go_wp2_with fail
  refine (HI.out _).mono ?_
  rintro e w' ⟨rfl, rfl⟩
  go_wp2_with fail
  refine (HN.out _ rfl).mono ?_
  rintro e W ⟨rfl, hW⟩
  have HX : Hid (∀ i, i < n → W.cell? ⟨b, o + i, none⟩ = some (.int .u8 (ys.getD i 0))) := by
    obtain ⟨m, rfl⟩ := hW
    exact HC.out m
  have HW2 := Lib.hid hW
  clear hW
  go_wp2_with fail
  go_loop [8, 22] (fun x i => ∃ j : Nat, j ≤ n ∧ i = .int .i64 j ∧ x = .int .u64 (beI (ys.take j))) (fun _ i => n - (intOf i).toNat)
  case atStart => exact ⟨0, Nat.zero_le _, rfl, rfl⟩
  case round =>
    obtain ⟨j, hj, rfl, rfl⟩ := hrel
    by_cases hlt : j < n
    · have hcell := HX.out j hlt
      go_wp2
      go_round
      case rel => exact ⟨j + 1, by omega, by go_num, by rw [word_step ys j (by have := HL.out; omega) (by have := HL.out; omega) HR.out]⟩
      case measure => simp [intOf]; omega
    · go_wp2
      go_ret2
      exact ⟨by rw [List.take_of_length_le (by have := HL.out; omega)]; rfl, HW2.out⟩

/-- Word where there is no word: a wrong size. -/
theorem word_bad (n : Int) (w : World) (p : Option Addr) (hw : ws n = false) :
    Calls Tryd.prog 62 #[.pointer p, .int .i64 n] w fun e w' => e = .returned (.tuple #[.int .u64 0, .bool false]) ∧ w = w' := by
  have hw' := isWord_any n
  rw [hw] at hw'
  have HI := Lib.hid hw'
  clear hw hw'
  go_enter Tryd.func62, Tryd.ntmps62
  go_wp2_with fail
  refine (HI.out _).mono ?_
  rintro e w' ⟨rfl, rfl⟩
  go_wp2_with fail
  go_ret2
  exact ⟨rfl, rfl⟩

/-- A nil reader has no word. -/
theorem word_nil (n : Int) (w : World) (hw : ws n = true) :
    Calls Tryd.prog 62 #[.pointer none, .int .i64 n] w fun e w' => e = .returned (.tuple #[.int .u64 0, .bool false]) ∧ w = w' := by
  have hw' := isWord_any n
  rw [hw] at hw'
  have HI := Lib.hid hw'
  clear hw hw'
  go_enter Tryd.func62, Tryd.ntmps62
  go_wp2_with fail
  refine (HI.out _).mono ?_
  rintro e w' ⟨rfl, rfl⟩
  go_wp2_with fail
  refine (next_nil n _).mono ?_
  rintro e w' ⟨rfl, rfl⟩
  go_wp2_with fail
  go_loop [8, 22] (fun x i => x = .int .u64 0 ∧ i = .int .i64 0) (fun _ _ => 0)
  case atStart => exact ⟨rfl, rfl⟩
  case round =>
    obtain ⟨rfl, rfl⟩ := hrel
    go_wp2
    go_ret2
    exact ⟨rfl, rfl⟩

/-- A word of a right size where there are too few bytes. -/
theorem word_far (n : Int) (w : World) (g : Nat) (A : Option Addr) (l c k : Nat) (h : Rdr w g A l c k) (hk : k ≤ l) (hl : l ≤ 9223372036854775807) (hw : ws n = true) (hn : ((l - k : Nat) : Int) < n) :
    Calls Tryd.prog 62 #[.pointer (some ⟨g, 0, none⟩), .int .i64 n] w fun e w' => e = .returned (.tuple #[.int .u64 0, .bool false]) ∧ ∃ m, w' = w.drewN m := by
  have hw' := isWord_any n
  rw [hw] at hw'
  have HI := Lib.hid hw'
  have H := Lib.hid h
  clear hw hw' h
  go_enter Tryd.func62, Tryd.ntmps62
  go_wp2_with fail
  refine (HI.out _).mono ?_
  rintro e w' ⟨rfl, rfl⟩
  go_wp2_with fail
  refine (next_far n _ g A l c k H.out hk hl hn).mono ?_
  rintro e w' ⟨rfl, m, rfl⟩
  go_wp2_with fail
  go_loop [8, 22] (fun x i => x = .int .u64 0 ∧ i = .int .i64 0) (fun _ _ => 0)
  case atStart => exact ⟨rfl, rfl⟩
  case round =>
    obtain ⟨rfl, rfl⟩ := hrel
    go_wp2
    go_ret2
    exact ⟨rfl, m, rfl⟩

end Go.Proofs.YtmhgpdfllpgjpaaDoor

namespace Go.Proofs.YtmhgpdfllpgjpaaDoor
open Go.RowKit

theorem put_bad (n : Int) (x : Int) (w : World) (hw : ws n = false) :
    Calls Tryd.prog 73 #[.int .i64 n, .int .u64 x] w fun e w' => e = .returned (.tuple #[.slice none 0 0, .bool false]) ∧ w = w' := by
  have hw' := isWord_any n
  rw [hw] at hw'
  have HI := Lib.hid hw'
  clear hw hw'
  go_enter Tryd.func73, Tryd.ntmps73
  go_wp2_with fail
  refine (HI.out _).mono ?_
  rintro e w' ⟨rfl, rfl⟩
  go_wp2_with fail
  go_ret2
  exact ⟨rfl, rfl⟩

theorem put_big (n : Nat) (x : Int) (w : World) (hw : ws (n : Int) = true) (hx : (x / 2 ^ (8 * n) != 0) = true) :
    Calls Tryd.prog 73 #[.int .i64 (n : Int), .int .u64 x] w fun e w' => e = .returned (.tuple #[.slice none 0 0, .bool false]) ∧ w = w' := by
  have hn8 : n ≤ 8 := by rcases ws_nat hw with h | h | h | h <;> omega
  have hw' := isWord_any (n : Int)
  rw [hw] at hw'
  have HI := Lib.hid hw'
  clear hw hw'
  go_enter Tryd.func73, Tryd.ntmps73
  go_wp2_with fail
  refine (HI.out _).mono ?_
  rintro e w' ⟨rfl, rfl⟩
  go_wp2_with fail
  go_ret2
  exact ⟨rfl, rfl⟩

/-- What Put returns where the number fits. -/
def FreshT (w : World) (xs : List Int) (e : Ending) (w' : World) : Prop :=
  ∃ A c, e = .returned (.tuple #[.slice A xs.length c, .bool true]) ∧ w'.ownsRow w.heap.size 5 1 (.slice A xs.length c) xs.length (xs.map (Value.int .u8)) ∧ Past w w'

theorem put_ok (n : Nat) (x : Int) (w : World) (hw : ws (n : Int) = true) (hx : (x / 2 ^ (8 * n) != 0) = false) :
    Calls Tryd.prog 73 #[.int .i64 (n : Int), .int .u64 x] w (FreshT w (beB n x)) := by
  have hn8 : n ≤ 8 := by rcases ws_nat hw with h | h | h | h <;> omega
  have hn1 : 1 ≤ n := by rcases ws_nat hw with h | h | h | h <;> omega
  have hw' := isWord_any (n : Int)
  rw [hw] at hw'
  have HI := Lib.hid hw'
  clear hw hw'
  obtain ⟨i0, hi, hz0, hz1, hz2⟩ := info_parts info8
  go_enter Tryd.func73, Tryd.ntmps73
  go_wp2_with fail
  refine (HI.out _).mono ?_
  rintro e w' ⟨rfl, rfl⟩
  go_wp2_with (at_make; refine wpList_make_full _ rfl _ _ 22 rfl w.heap.size 5 i0 (.int .u8 0) 1 Tryd.underlying22 hi hz0 hz1 .i64 .i64 (n : Int) (n : Int) n rfl rfl rfl rfl (by rw [hz2]; omega) (by unfold maxLen; omega) (Nat.le_refl _) ?_; intro w1 hown hgrow)
  have HO : Hid (w1.ownsRow w.heap.size 5 1 (.slice (some ⟨w.heap.size, 0, none⟩) n n) n (List.replicate (n - 0) (Value.int .u8 0) ++ (beB 0 x).map (Value.int .u8))) := by
    have e : (madeCells (Value.int .u8 0).cells (n * 1)).toList = List.replicate (n - 0) (Value.int .u8 0) ++ (beB 0 x).map (Value.int .u8) := by
      simp [beB, Value.cells, toList_madeCells_one]
    rw [e] at hown
    exact hown
  have HP : Hid (Past w w1) := (Below.refl _ w).grown hgrow (Nat.le_refl _) (by intro k hk; cases hk)
  clear hown hgrow
  go_wp2_with fail
  go_loopw [22] (fun i wr => ∃ j : Nat, j ≤ n ∧ i = .int .i64 j ∧ wr.ownsRow w.heap.size 5 1 (.slice (some ⟨w.heap.size, 0, none⟩) n n) n (List.replicate (n - j) (Value.int .u8 0) ++ (beB j x).map (Value.int .u8)) ∧ Past w wr) (fun i _ => n - (intOf i).toNat)
  case atStart => exact ⟨0, Nat.zero_le _, rfl, HO.out, HP.out⟩
  case round =>
    obtain ⟨j, hj, rfl, ho, hp⟩ := hrel
    by_cases hlt : j < n
    · have hfz := ho.frozenAt (n - 1 - j)
      have hcl : ∃ v, wr.cell? ⟨w.heap.size, n - 1 - j, none⟩ = some v := by
        rw [ho.cellAt (n - 1 - j) (by omega)]
        exact ⟨_, List.getElem?_eq_getElem (by have := ho.1; omega)⟩
      obtain ⟨v, hcl⟩ := hcl
      have G := Lib.hid ho
      have GP := Lib.hid hp
      clear ho hp
      go_wp2
      go_roundw
      case rel =>
        have hst := (G.out.stored (n - 1 - j) (.int .u8 (x / 2 ^ (8 * j) % 256))).1
        rw [two_eight, put_step n j x hlt] at hst
        refine ⟨j + 1, by omega, by go_num, ?_, Below.setCell GP.out (Nat.le_refl _) _⟩
        rw [two_eight]
        exact hst
      case measure => simp [intOf]; omega
    · obtain rfl : j = n := by omega
      have G := Lib.hid ho
      have GP := Lib.hid hp
      clear ho hp
      go_wp2
      go_ret2
      have ho := G.out
      rw [Nat.sub_self, List.replicate_zero, List.nil_append] at ho
      have hl := beB_len j x
      refine ⟨some ⟨w.heap.size, 0, none⟩, j, ?_, ?_, GP.out⟩
      · rw [hl]; rfl
      · rw [hl]; exact ho

end Go.Proofs.YtmhgpdfllpgjpaaDoor

namespace Go.Proofs.YtmhgpdfllpgjpaaDoor
open Go.RowKit

theorem take_snoc' (l : List Int) (k : Nat) (h : k < l.length) : l.take (k + 1) = l.take k ++ [l.getD k 0] := by
  rw [List.take_succ_eq_append_getElem h]
  simp [List.getD, List.getElem?_eq_getElem h]

def sameB (xs ys : List Int) : Bool := decide (xs = ys)
theorem sameB_refl (xs : List Int) : sameB xs xs = true := by simp [sameB]
theorem sameB_true {xs ys : List Int} (h : sameB xs ys = true) : xs = ys := by simpa [sameB] using h

theorem sameB_at {xs ys : List Int} (j : Nat) (h : xs.getD j 0 ≠ ys.getD j 0) : sameB xs ys = false := by
  simp only [sameB, decide_eq_false_iff_not]
  rintro rfl
  exact h rfl
theorem sameB_len {xs ys : List Int} (h : xs.length ≠ ys.length) : sameB xs ys = false := by
  simp only [sameB, decide_eq_false_iff_not]
  rintro rfl
  exact h rfl

theorem rsame_any (A1 A2 : Option Addr) (n1 n2 c1 c2 : Nat) (xs ys : List Int) (w : World) (h1 : Sl w A1 n1 c1 xs) (h2 : Sl w A2 n2 c2 ys) :
    Calls Tryd.prog 15 #[.slice A1 n1 c1, .slice A2 n2 c2] w fun e w' => e = .returned (.bool (sameB xs ys)) ∧ ∃ m, w' = w.drewN m := by
  have hn1 := h1.cap
  have hb1 := h1.big
  unfold maxLen at hb1
  by_cases hl : n1 = n2
  · subst hl
    have H1 := Lib.hid h1
    have H2 := Lib.hid h2
    clear h1 h2
    go_enter Tryd.func15, Tryd.ntmps15
    go_wp2
    go_loopw [5] (fun i wr => ∃ j : Nat, j ≤ n1 ∧ i = .int .i64 j ∧ Hid (xs.take j = ys.take j) ∧ Hid (∃ m, wr = w.drewN m)) (fun i _ => n1 - (intOf i).toNat)
    case atStart => exact ⟨0, Nat.zero_le _, rfl, rfl, ⟨0, rfl⟩⟩
    case round =>
      obtain ⟨j, hj, rfl, ht, m, rfl⟩ := hrel
      by_cases hlt : j < n1
      · obtain ⟨b1, o1, rfl, hc1⟩ := H1.out.bytes (by omega)
        obtain ⟨b2, o2, rfl, hc2⟩ := H2.out.bytes (by omega)
        have g1 := hc1 j hlt
        have g2 := hc2 j hlt
        clear hc1 hc2
        generalize hx : xs.getD j 0 = x at g1
        generalize hy : ys.getD j 0 = y at g2
        have HX := Lib.hid hx
        have HY := Lib.hid hy
        clear hx hy
        have hj0 : (0 : Int) ≤ (j : Int) := by omega
        have hjl : (j : Int) < (n1 : Int) := by omega
        by_cases hxy : x = y
        · subst hxy
          go_wp2
          go_quiet (fail)
          go_wp2
          go_roundw
          case rel =>
            refine ⟨j + 1, by omega, by go_num, ?_, ⟨_, rfl⟩⟩
            show xs.take (j + 1) = ys.take (j + 1)
            rw [take_snoc' xs j (by rw [H1.out.len]; exact hlt), take_snoc' ys j (by rw [H2.out.len]; exact hlt), ht.out, HX.out, HY.out]
          case measure => simp [intOf]; omega
        · have hne : (x != y) = true := by simpa using hxy
          have HN := Lib.hid hxy
          clear hxy
          go_wp2
          go_quiet (fail)
          go_wp2
          go_ret
          exact ⟨by rw [sameB_at j (by rw [HX.out, HY.out]; exact HN.out)]; rfl, _, by first | rfl | rw [World.drewN_drewN]⟩
      · obtain rfl : j = n1 := by omega
        have HT := Lib.hid ht
        clear ht
        go_wp2
        go_ret
        have e : xs = ys := by
          have h := HT.out.out
          rwa [List.take_of_length_le (by rw [H1.out.len]; exact Nat.le_refl _), List.take_of_length_le (by rw [H2.out.len]; exact Nat.le_refl _)] at h
        exact ⟨by rw [e, sameB_refl]; rfl, _, rfl⟩
  · have hne : (n1 != n2) = true := by simpa using hl
    have hne2 : ((n1 : Int) != (n2 : Int)) = true := by simp; omega
    have HE : Hid (sameB xs ys = false) := sameB_len (by rw [h1.len, h2.len]; exact hl)
    clear h1 h2 hl
    go_enter Tryd.func15, Tryd.ntmps15
    go_wp2
    go_ret
    exact ⟨by rw [HE.out]; rfl, 0, rfl⟩

theorem rsame_self (A1 A2 : Option Addr) (n c1 c2 : Nat) (xs : List Int) (w : World) (h1 : Sl w A1 n c1 xs) (h2 : Sl w A2 n c2 xs) :
    Calls Tryd.prog 15 #[.slice A1 n c1, .slice A2 n c2] w fun e w' => e = .returned (.bool true) ∧ ∃ m, w' = w.drewN m := by
  have h := rsame_any A1 A2 n n c1 c2 xs xs w h1 h2
  rwa [sameB_refl] at h
theorem rsame_nil (w : World) : Calls Tryd.prog 15 #[.slice none 0 0, .slice none 0 0] w fun e w' => e = .returned (.bool true) ∧ ∃ m, w' = w.drewN m :=
  rsame_self none none 0 0 0 [] w (Sl.nil w) (Sl.nil w)

end Go.Proofs.YtmhgpdfllpgjpaaDoor

namespace Go.Proofs.YtmhgpdfllpgjpaaDoor
open Go.RowKit

/-- Equal bytes have equal strings. -/
theorem bytesOf_sameB (xs ys : List Int) (hx : ∀ x ∈ xs, 0 ≤ x ∧ x < 256) (hy : ∀ x ∈ ys, 0 ≤ x ∧ x < 256) : (Lib.bytesOf xs == Lib.bytesOf ys) = sameB xs ys := by
  rw [Bool.eq_iff_iff]
  simp only [sameB, beq_iff_eq, decide_eq_true_eq, Lib.bytesOf]
  constructor
  · intro h
    induction xs generalizing ys with
    | nil => cases ys <;> simp_all
    | cons x xs ih =>
      cases ys with
      | nil => simp at h
      | cons y ys =>
        simp only [List.map_cons, List.cons.injEq] at h
        obtain ⟨hx0, hx1⟩ := hx x (by simp)
        obtain ⟨hy0, hy1⟩ := hy y (by simp)
        have e := congrArg UInt8.toNat h.1
        simp only [UInt8.toNat_ofNat'] at e
        have exy : x = y := by omega
        rw [exy, ih ys (fun z hz => hx z (by simp [hz])) (fun z hz => hy z (by simp [hz])) h.2]
  · rintro rfl
    rfl
theorem same_any (A1 A2 : Option Addr) (n1 n2 c1 c2 : Nat) (xs ys : List Int) (w : World) (h1 : Sl w A1 n1 c1 xs) (h2 : Sl w A2 n2 c2 ys) :
    Calls Tryd.prog 60 #[.slice A1 n1 c1, .slice A2 n2 c2] w fun e w' => e = .returned (.bool (sameB xs ys)) ∧ w = w' := by
  have hc := Tryd.bytes_Equal_all A1 A2 n1 c1 n2 c2 xs ys w h1.len h2.len h1.bytes h2.bytes
  rw [bytesOf_sameB xs ys h1.rng h2.rng] at hc
  generalize sameB xs ys = r at hc ⊢
  have H := Lib.hid hc
  clear hc h1 h2
  go_enter Tryd.func60, Tryd.ntmps60
  go_wp2_with fail
  refine H.out.mono ?_
  rintro e w' ⟨rfl, rfl⟩
  go_wp2
  go_ret
  exact ⟨rfl, rfl⟩

/-- A slice of n slices of bytes: part i lies at V i, with the capacity C i, and has the bytes X i. -/
structure Sls (w : World) (P : Option Addr) (n c : Nat) (V : Nat → Option Addr) (C : Nat → Nat) (X : Nat → List Int) : Prop where
  cap : n ≤ c
  big : c ≤ maxLen
  nil0 : P = none → c = 0
  cells : 0 < n → ∃ b o, P = some ⟨b, o, none⟩ ∧ ∀ i, i < n → w.cell? ⟨b, o + i, none⟩ = some (.slice (V i) (X i).length (C i)) ∧ Sl w (V i) (X i).length (C i) (X i)

theorem Sls.past {w w' : World} {P : Option Addr} {n c : Nat} {V : Nat → Option Addr} {C : Nat → Nat} {X : Nat → List Int} (h : Sls w P n c V C X) (hp : Past w w') : Sls w' P n c V C X :=
  ⟨h.cap, h.big, h.nil0, fun hn => by
    obtain ⟨b, o, rfl, hc⟩ := h.cells hn
    exact ⟨b, o, rfl, fun i hi => ⟨by rw [Below.cell hp (cell_lt (hc i hi).1)]; exact (hc i hi).1, (hc i hi).2.past hp⟩⟩⟩
theorem Past.ofDrewN (w : World) (m : Nat) : Past w (w.drewN m) := Past.drewN (Below.refl _ w) m

/-- The bytes of the first n parts, in order. -/
def cat (X : Nat → List Int) (n : Nat) : List Int := ((List.range n).map X).flatten
theorem cat_zero (X : Nat → List Int) : cat X 0 = [] := rfl
theorem cat_succ (X : Nat → List Int) (n : Nat) : cat X (n + 1) = cat X n ++ X n := by simp [cat, List.range_succ]
theorem cat_rng (X : Nat → List Int) (n : Nat) (h : ∀ i, i < n → ∀ x ∈ X i, 0 ≤ x ∧ x < 256) : ∀ x ∈ cat X n, 0 ≤ x ∧ x < 256 := by
  intro x hx
  simp only [cat, List.mem_flatten, List.mem_map, List.mem_range] at hx
  obtain ⟨l, ⟨i, hi, rfl⟩, hl⟩ := hx
  exact h i hi x hl
theorem cat_len_mono (X : Nat → List Int) {i n : Nat} (h : i ≤ n) : (cat X i).length ≤ (cat X n).length := by
  induction n with
  | zero => obtain rfl : i = 0 := by omega
            exact Nat.le_refl _
  | succ n ih =>
    rcases Nat.lt_or_ge n i with h1 | h1
    · obtain rfl : i = n + 1 := by omega
      exact Nat.le_refl _
    · rw [cat_succ, List.length_append]
      have := ih h1
      omega
theorem Sls.rng {w : World} {P : Option Addr} {n c : Nat} {V : Nat → Option Addr} {C : Nat → Nat} {X : Nat → List Int} (h : Sls w P n c V C X) : ∀ i, i < n → ∀ x ∈ X i, 0 ≤ x ∧ x < 256 := by
  intro i hi
  obtain ⟨b, o, rfl, hc⟩ := h.cells (by omega)
  exact (hc i hi).2.rng

/-- What a joining call returns: the bytes ys in new memory that may be written. -/
def Joined (w : World) (ys : List Int) (e : Ending) (w' : World) : Prop :=
  ∃ A c, e = .returned (.slice A ys.length c) ∧ Sl w' A ys.length c ys ∧ Past w w' ∧
    (0 < ys.length → ∃ g, A = some ⟨g, 0, none⟩ ∧ w.heap.size ≤ g ∧ ∀ i, i < ys.length → w'.frozen? ⟨g, i, none⟩ = false)

theorem join_nil_sep (ls : List (List UInt8)) : Lib.join ls [] = ls.flatten := by
  unfold Lib.join List.intercalate
  cases ls with
  | nil => rfl
  | cons a ls =>
    induction ls generalizing a with
    | nil => simp
    | cons b ls ih =>
      have h := ih b
      simp only [List.intersperse_cons_cons, List.flatten_cons, List.nil_append] at h ⊢
      rw [h]
theorem bytesOf_cat (X : Nat → List Int) (n : Nat) : ((List.range n).map fun i => Lib.bytesOf (X i)).flatten = Lib.bytesOf (cat X n) := by
  unfold Lib.bytesOf cat
  rw [List.map_flatten, List.map_map]
  rfl

theorem bytesOf_inj {xs ys : List Int} (hx : ∀ x ∈ xs, 0 ≤ x ∧ x < 256) (hy : ∀ x ∈ ys, 0 ≤ x ∧ x < 256) (h : Lib.bytesOf xs = Lib.bytesOf ys) : xs = ys := by
  have e := bytesOf_sameB xs ys hx hy
  rw [h] at e
  exact sameB_true (by rw [← e]; simp)

theorem joined_of_fresh {w w' : World} {v : Value} {ys : List Int} (hr : ∀ x ∈ ys, 0 ≤ x ∧ x < 256) (h : Lib.FreshBytes w.heap.size w' v (Lib.bytesOf ys)) (hp : Past w w') : Joined w ys (.returned v) w' := by
  obtain ⟨g, cap, zs, rfl, hg, hlc, hcm, hz, hzr, hb, hc, hf⟩ := h
  rw [Lib.bytesOf_length] at *
  have e : zs.take ys.length = ys := bytesOf_inj (fun x hx => hzr x (List.mem_of_mem_take hx)) hr hb
  refine ⟨_, cap, rfl, ⟨rfl, hlc, hcm, fun hn => ⟨g, 0, rfl, fun i hi => ?_⟩, hr, fun e => by cases e⟩, hp, fun hn => ⟨g, rfl, hg, fun i hi => hf i (by omega)⟩⟩
  rw [Nat.zero_add, hc i (by omega)]
  congr 2
  rw [← e]
  simp [List.getD, hi]

theorem holds_part {w : World} {A : Option Addr} {n c : Nat} {xs : List Int} (h : Sl w A n c xs) : Lib.HoldsBytes w (.slice A n c) (Lib.bytesOf xs) := by
  refine ⟨A, c, by rw [Lib.bytesOf_length, h.len], fun e => ?_, fun a ha i x hx => ?_⟩
  · have h0 := h.nil0 e
    have h1 := h.cap
    have h2 := h.len
    rw [List.eq_nil_of_length_eq_zero (l := xs) (by omega)]
    rfl
  · subst ha
    have hi : i < xs.length := by
      have := (List.getElem?_eq_some_iff.1 hx).1
      rwa [Lib.bytesOf_length] at this
    have hc := h.cells i (.int .u8 xs[i]) (by simp [List.getElem?_eq_getElem hi])
    rw [hc]
    have hr := h.rng xs[i] (List.getElem_mem hi)
    have e : Lib.bytesOf xs = xs.map fun n => UInt8.ofNat n.toNat := rfl
    rw [e, List.getElem?_map, List.getElem?_eq_getElem hi] at hx
    simp only [Option.map_some, Option.some.injEq] at hx
    rw [← hx, UInt8.toNat_ofNat']
    congr 2
    omega

theorem join_any (P : Option Addr) (n c : Nat) (V : Nat → Option Addr) (C : Nat → Nat) (X : Nat → List Int) (w : World) (h : Sls w P n c V C X) (hn47 : n ≤ 140737488355328) (hlen : (cat X n).length ≤ 140737488355328) :
    Calls Tryd.prog 58 #[.slice P n c] w (Joined w (cat X n)) := by
  have key : Calls Tryd.prog 76 #[.slice P n c, .slice none 0 0] w (Joined w (cat X n)) := by
    have hrng := cat_rng X n h.rng
    rcases Nat.lt_or_ge n 1 with h0 | h1
    · obtain rfl : n = 0 := by omega
      refine (Tryd.bytes_Join_none P c (.slice none 0 0) w).mono ?_
      rintro e w' ⟨rfl, rfl⟩
      exact ⟨_, 0, rfl, ⟨rfl, Nat.le_refl _, Nat.zero_le _, BIn.nil _ _ _, hrng, fun e => by cases e⟩, (Below.refl _ w).alloc (Nat.le_refl _) _, fun hn => absurd hn (by simp [cat_zero])⟩
    · obtain ⟨b, o, rfl, hc⟩ := h.cells h1
      rcases Nat.lt_or_ge n 2 with h2 | h2
      · obtain rfl : n = 1 := by omega
        obtain ⟨hcell, hs⟩ := hc 0 (by omega)
        have e1 : cat X 1 = X 0 := by simp [cat]
        rw [Nat.add_zero] at hcell
        rcases Nat.eq_zero_or_pos (X 0).length with hz | hz
        · rw [hz] at hcell
          refine (Tryd.bytes_Join_one_empty b o c (V 0) (C 0) (.slice none 0 0) w hcell).mono ?_
          rintro e w' ⟨rfl, rfl⟩
          have e2 : X 0 = [] := List.eq_nil_of_length_eq_zero hz
          rw [e1, e2]
          exact ⟨none, 0, rfl, Sl.nil _, Below.refl _ _, fun hn => absurd hn (by simp)⟩
        · obtain ⟨b0, o0, hV, _⟩ := hs.bytes hz
          have hh := holds_part hs
          obtain ⟨p, cp, e, _, hcs⟩ := hh
          injection e with e3 e4 e5
          subst e3 e5
          rw [e4, hV] at hcell
          refine (Tryd.bytes_Join_one b o c ⟨b0, o0, none⟩ (C 0) (Lib.bytesOf (X 0)) (.slice none 0 0) w hcell (hcs _ hV) (by rw [Lib.bytesOf_length]; exact hz) (by rw [Lib.bytesOf_length, ← e1]; exact hlen)).mono ?_
          rintro e w' ⟨v', rfl, hf, hp⟩
          rw [← e1] at hf
          exact joined_of_fresh hrng hf hp
      · refine (Tryd.bytes_Join_many b o n c ((List.range n).map fun i => .slice (V i) (X i).length (C i)) ((List.range n).map fun i => Lib.bytesOf (X i)) (.slice none 0 0) [] w (by simp) h2 ⟨by simp, ?_, ?_⟩ h.cap ⟨none, 0, rfl, fun _ => rfl, fun a ha => by cases ha⟩ hn47 ?_).mono ?_
        · intro i v hv
          have hi : i < n := by simpa using (List.getElem?_eq_some_iff.1 hv).1
          rw [add_none, (hc i hi).1, ← hv]
          simp [hi]
        · intro i v l hv hl
          have hi : i < n := by simpa using (List.getElem?_eq_some_iff.1 hv).1
          simp [hi] at hv hl
          subst hv hl
          exact holds_part (hc i hi).2
        · have e : Lib.lens ((List.range n).map fun i => Lib.bytesOf (X i)) = (cat X n).length := by
            rw [← Lib.bytesOf_length (cat X n), ← bytesOf_cat, List.length_flatten]
            rfl
          rw [e]
          simpa using hlen
        · rintro e w' ⟨v', rfl, hf, hp⟩
          rw [join_nil_sep, bytesOf_cat] at hf
          exact joined_of_fresh hrng hf hp
  have H := Lib.hid key
  clear key h
  go_enter Tryd.func58, Tryd.ntmps58
  go_wp2_with fail
  refine H.out.mono ?_
  rintro e w' ⟨A, d, rfl, hs, hp, hw⟩
  have HJ : Hid (Joined w (cat X n) (.returned (.slice A (cat X n).length d)) w') := ⟨A, d, rfl, hs, hp, hw⟩
  clear hs hp hw H
  generalize (cat X n).length = k at HJ ⊢
  go_wp2
  go_ret
  exact HJ.out

end Go.Proofs.YtmhgpdfllpgjpaaDoor
