/- Contracts of package wire: Clone (of the library), New, Take, Rest. -/
import Derived.Test.YtdpnfojpeafdhaaDoorWire2
import Derived.Lib.SliceRun
namespace Go.Proofs.YtdpnfojpeafdhaaDoor
open Go.RowKit

theorem clone_any (A : Option Addr) (n c : Nat) (xs : List Int) (w : World) (h : Sl w A n c xs) (hbig : n ≤ 140737488355328) :
    Calls Tryd.prog 38 #[.slice A n c] w (Fresh 5 w xs) := by
  have hx := h.len
  rcases A with _ | ad
  · have hn : n = 0 := by
      rcases Nat.eq_zero_or_pos n with h0 | h0
      · exact h0
      · obtain ⟨b, o, e, _⟩ := h.bytes h0
        cases e
    subst hn
    have hxs : xs = [] := List.eq_nil_of_length_eq_zero hx
    subst hxs
    clear h hx hbig
    have q22 : ∀ (w : World) (a : Option Addr) (n c n' c' : Nat), (binOp .eql 22 (.slice a n c) (.slice none n' c')).run Tryd.prog w = .ok (.bool a.isNone) w := fun w a n c n' c' => Lib.run_eql_slice_nil w _ _ a n c n' c' Tryd.underlying22
    go_enter Tryd.func38, Tryd.ntmps38
    go_wp2
    go_ret
    exact ⟨none, 0, rfl, World.ownsRow_nil _ _ _ _, Below.refl _ _⟩
  · have hcell : ∀ j u, (xs.map (Value.int .u8))[j]? = some u → w.cell? (ad.add j) = some u := by
      intro j u hj
      have hjn : j < n := by
        have := (List.getElem?_eq_some_iff.1 hj).1
        simp at this
        omega
      obtain ⟨b, o, e, hc⟩ := h.bytes (by omega)
      injection e with e
      subst e
      rw [add_none, hc j hjn, ← hj]
      simp [List.getD, List.getElem?_eq_getElem (show j < xs.length by omega)]
    have H := Lib.hid hcell
    have HX := Lib.hid hx
    clear h hcell hx
    obtain ⟨i0, hi, hz0, hz1, hz2⟩ := info_parts info8
    have q22 : ∀ (w : World) (a : Option Addr) (n c n' c' : Nat), (binOp .eql 22 (.slice a n c) (.slice none n' c')).run Tryd.prog w = .ok (.bool a.isNone) w := fun w a n c n' c' => Lib.run_eql_slice_nil w _ _ a n c n' c' Tryd.underlying22
    go_enter Tryd.func38, Tryd.ntmps38
    go_wp2_with (at_builtin; refine wpList_append_own _ rfl _ _ 22 rfl w.heap.size 5 i0 (.int .u8 0) 1 1 Tryd.underlying22 hi hz0 hz1 hz2 rfl (by decide) _ _ _ rfl (World.ownsRow_made w #[] 0 (Nat.le_refl _) (Nat.zero_le _) rfl) ad n c (xs.map (Value.int .u8)) rfl ?qc1 ?qc2 ?qc3 ?qc4 ?qc5 ?qc6 ?_)
    case qc1 => simp [HX.out]
    case qc2 => intro j u hj; exact Lib.cell?_alloc_some _ (H.out j u hj)
    case qc3 => intro u hu; obtain ⟨x, _, rfl⟩ := List.mem_map.1 hu; rfl
    case qc4 => unfold maxLen; omega
    case qc5 => omega
    case qc6 => simp
    intro v' w1 hown hgrow hnil
    go_wp2
    go_ret
    have hp : Past w w1 := ((Below.refl _ w).alloc (Nat.le_refl _) _).grown hgrow (by simp) (by intro k hk; simp [Value.ownBlock] at hk; omega)
    have hn := HX.out
    subst hn
    rcases hown.2 with ⟨rfl, e2⟩ | ⟨g', cap, cur, rfl, _⟩
    · exact absurd rfl hnil
    · exact ⟨_, _, rfl, hown, hp⟩

theorem Fresh.out {w w' : World} {xs : List Int} {e : Ending} (h : Fresh 5 w xs e w') (hr : ∀ x ∈ xs, 0 ≤ x ∧ x < 256) :
    ∃ A c, e = .returned (.slice A xs.length c) ∧ Sl w' A xs.length c xs ∧ w'.ownsRow w.heap.size 5 1 (.slice A xs.length c) xs.length (xs.map (Value.int .u8)) ∧ Past w w' := by
  obtain ⟨A, c, he, ho, hp⟩ := h
  exact ⟨A, c, he, Sl.of_own ho hr, ho, hp⟩

/-- A new reader. -/
def MadeRdr (w : World) (xs : List Int) (e : Ending) (w' : World) : Prop :=
  ∃ g A c, e = .returned (.pointer (some ⟨g, 0, none⟩)) ∧ Rdr w' g A xs.length c 0 ∧ Sl w' A xs.length c xs ∧ w.heap.size ≤ g ∧ Past w w'

theorem wnew_any (A : Option Addr) (n c : Nat) (xs : List Int) (w : World) (h : Sl w A n c xs) (hbig : n ≤ 140737488355328) :
    Calls Tryd.prog 24 #[.slice A n c] w (MadeRdr w xs) := by
  have hc := fun W (hW : Sl W A n c xs) => clone_any A n c xs W hW hbig
  have H := Lib.hid h
  clear h
  go_enter Tryd.func24, Tryd.ntmps24
  go_wp2_with fail
  refine (hc _ H.out).mono ?_
  intro e w1 hf
  obtain ⟨A1, c1, rfl, hs, ho, hp⟩ := hf.out H.out.rng
  clear hf
  have HO := Lib.hid ho
  have HS := Lib.hid hs
  have HP := Lib.hid hp
  clear ho hs hp
  go_wp2_with fail
  go_ret
  exact ⟨w1.heap.size, A1, c1, rfl, heap_alloc_new w1 _, HS.out.past ((Below.refl _ _).alloc (Nat.le_refl _) _), HP.out.size, HP.out.trans' ((Below.refl _ _).alloc (Nat.le_refl _) _)⟩

theorem take_nil (n : Int) (w : World) :
    Calls Tryd.prog 44 #[.pointer none, .int .i64 n] w fun e w' => e = .returned (.tuple #[.slice none 0 0, .bool false]) ∧ w = w' := by
  have q22 : ∀ (w : World) (a : Option Addr) (n c n' c' : Nat), (binOp .eql 22 (.slice a n c) (.slice none n' c')).run Tryd.prog w = .ok (.bool a.isNone) w := fun w a n c n' c' => Lib.run_eql_slice_nil w _ _ a n c n' c' Tryd.underlying22
  go_enter Tryd.func44, Tryd.ntmps44
  go_wp2_with fail
  refine (next_nil n _).mono ?_
  rintro e w' ⟨rfl, rfl⟩
  go_wp2
  go_ret2
  exact ⟨rfl, rfl⟩

theorem take_no (n : Int) (w : World) (g : Nat) (A : Option Addr) (l c k : Nat) (h : Rdr w g A l c k) (hk : k ≤ l) (hl : l ≤ 9223372036854775807) (hn : n < 0 ∨ ((l - k : Nat) : Int) < n) :
    Calls Tryd.prog 44 #[.pointer (some ⟨g, 0, none⟩), .int .i64 n] w fun e w' => e = .returned (.tuple #[.slice none 0 0, .bool false]) ∧ ∃ m, w' = w.drewN m := by
  have q22 : ∀ (w : World) (a : Option Addr) (n c n' c' : Nat), (binOp .eql 22 (.slice a n c) (.slice none n' c')).run Tryd.prog w = .ok (.bool a.isNone) w := fun w a n c n' c' => Lib.run_eql_slice_nil w _ _ a n c n' c' Tryd.underlying22
  have H := Lib.hid h
  have HN := Lib.hid hn
  clear h hn
  go_enter Tryd.func44, Tryd.ntmps44
  go_wp2_with fail
  rcases HN.out with hn | hn
  · refine (next_neg n _ _ hn).mono ?_
    rintro e w' ⟨rfl, rfl⟩
    go_wp2
    go_ret2
    exact ⟨rfl, 0, rfl⟩
  · refine (next_far n _ g A l c k H.out hk hl hn).mono ?_
    rintro e w' ⟨rfl, m, rfl⟩
    go_wp2
    go_ret2
    exact ⟨rfl, m, rfl⟩

/-- What Take returns when there are enough bytes: ys in memory of its own; the offset is k afterwards; of what is old only the reader has changed. -/
def Took (w : World) (g : Nat) (A : Option Addr) (l c k : Nat) (ys : List Int) (e : Ending) (w' : World) : Prop :=
  ∃ A1 c1, e = .returned (.tuple #[.slice A1 ys.length c1, .bool true]) ∧ Rdr w' g A l c k ∧ Sl w' A1 ys.length c1 ys ∧
    w'.ownsRow w.heap.size 5 1 (.slice A1 ys.length c1) ys.length (ys.map (Value.int .u8)) ∧ w.grownBy w' (some g)

theorem take_ok (n : Nat) (w : World) (g : Nat) (A : Option Addr) (l c k : Nat) (xs : List Int) (h : Rdr w g A l c k) (hs : Sl w A l c xs) (hk : k ≤ l) (hl : l ≤ 140737488355328) (hn : n ≤ l - k) :
    Calls Tryd.prog 44 #[.pointer (some ⟨g, 0, none⟩), .int .i64 (n : Int)] w (Took w g A l c (k + n) ((xs.drop k).take n)) := by
  have hcp := hs.cap
  have hbg := hs.big
  unfold maxLen at hbg
  have hlen : ((xs.drop k).take n).length = n := by have := hs.len; simp; omega
  have hcl := fun W m (hW : W = (w.drewN m).setCell ⟨g, 1, none⟩ (.int .i64 ((k + n : Nat) : Int))) => clone_any (if n = 0 then A else A.map (·.add k)) n n ((xs.drop k).take n) W (by
    subst hW
    exact ((hs.cut (by omega)).drewN m).setCell (w := w.drewN m) (h.drewN m).c1 (by intro x hx; cases hx)) (by omega)
  have hrng : ∀ x ∈ (xs.drop k).take n, 0 ≤ x ∧ x < 256 := (hs.cut (i := k) (m := n) (by omega)).rng
  generalize (xs.drop k).take n = ys at hlen hcl hrng ⊢
  have HR := Lib.hid hrng
  have H := Lib.hid h
  have HC := Lib.hid hcl
  clear h hs hcl hrng hlen
  go_enter Tryd.func44, Tryd.ntmps44
  go_wp2_with fail
  refine (next_ok n _ g A l c k H.out hk hcp (by omega) hn).mono ?_
  rintro e w' ⟨rfl, m, rfl⟩
  generalize hA : (if n = 0 then A else A.map (·.add k)) = A' at HC ⊢
  have HA := Lib.hid hA
  clear hA
  go_wp2_with fail
  refine (HC.out _ m rfl).mono ?_
  intro e w1 hf
  obtain ⟨A1, c1, rfl, hs, ho, hp⟩ := hf.out HR.out
  clear hf
  have HO := Lib.hid ho
  have HS := Lib.hid hs
  have HP := Lib.hid hp
  clear ho hs hp
  go_wp2_with fail
  go_ret2
  have hset : Rdr ((w.drewN m).setCell ⟨g, 1, none⟩ (.int .i64 ((k + n : Nat) : Int))) g A l c (k + n) := (H.out.drewN m).set1 (k + n)
  exact ⟨A1, c1, rfl, hset.past HP.out, HS.out, by simpa using HO.out,
    only_trans (only_setCell (only_drewN (World.grownBy.refl w (some g)) m) (.inl rfl) _) (only_of_past HP.out _)⟩

end Go.Proofs.YtdpnfojpeafdhaaDoor
