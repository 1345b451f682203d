/- The program's reader: where it stands, and the head of an item. The program's reading of bytes and of a text. -/
import Derived.Test.YtmhgpdfllpgjpaaDoorC10MC
import Derived.Test.YtmhgpdfllpgjpaaDoorRd10L
import Derived.Test.YtmhgpdfllpgjpaaDoorWireM
import Derived.Test.YtmhgpdfllpgjpaaDoorErrM1
import Derived.Deep.Cut
import Derived.Deep.DeepCutAuto
namespace Go.Proofs.YtmhgpdfllpgjpaaDoor
open Go.RowKit
set_option linter.unusedVariables false

abbrev ptr (q : Nat) : Value := .pointer (some ⟨q, 0, none⟩)
/-- The reader's own method, as its field holds it. -/
abbrev fnV (q : Nat) : Value := .func (.func 31) #[ptr q] #[]
/-- A reader at block q, whose words come from block g, over the bytes xs, at the offset k. -/
structure Rs (w : World) (q g : Nat) (A : Option Addr) (n c : Nat) (A1 : Option Addr) (c1 : Nat) (xs : List Int) (k : Nat) : Prop where
  row : Row w q 70 #[.slice A n c, ptr g, fnV q]
  rd : Rdr w g A1 n c1 k
  sl1 : Sl w A1 n c1 xs
  sl : Sl w A n c xs
  hk : k ≤ n
  hn : n ≤ 1048576
  ne : q ≠ g
section
variable {w w' : World} {q g : Nat} {A : Option Addr} {n c : Nat} {A1 : Option Addr} {c1 : Nat} {xs : List Int} {k : Nat}
theorem Rs.past (h : Rs w q g A n c A1 c1 xs k) (hp : Past w w') : Rs w' q g A n c A1 c1 xs k := ⟨h.row.past hp, h.rd.past hp, h.sl1.past hp, h.sl.past hp, h.hk, h.hn, h.ne⟩
theorem Rs.move (h : Rs w q g A n c A1 c1 xs k) (hg : w.grownBy w' (some g)) {j : Nat} (hr : Rdr w' g A1 n c1 j) (hj : j ≤ n) : Rs w' q g A n c A1 c1 xs j :=
  ⟨h.row.grown hg (fun e => h.ne (by injection e)), hr, h.sl1.only hg h.rd.nobyte, h.sl.only hg h.rd.nobyte, hj, h.hn, h.ne⟩
theorem Rs.c0 (h : Rs w q g A n c A1 c1 xs k) : w.cell? ⟨q, 0, none⟩ = some (.slice A n c) := h.row.cell 0
theorem Rs.c1' (h : Rs w q g A n c A1 c1 xs k) : w.cell? ⟨q, 1, none⟩ = some (ptr g) := h.row.cell 1
theorem Rs.c2 (h : Rs w q g A n c A1 c1 xs k) : w.cell? ⟨q, 2, none⟩ = some (fnV q) := h.row.cell 2
theorem Rs.len (h : Rs w q g A n c A1 c1 xs k) : xs.length = n := h.sl.len
end
theorem beI_one10 (xs : List Int) (k : Nat) (h : k < xs.length) : beI ((xs.drop k).take 1) = xs.getD k 0 := by
  have e : (xs.drop k).take 1 = [xs.getD k 0] := by
    rw [List.drop_eq_getElem_cons h, List.getD_eq_getElem?_getD, List.getElem?_eq_getElem h]
    rfl
  rw [e]
  simp [beI]

theorem trunc_any {w : World} {q g : Nat} {A : Option Addr} {n c : Nat} {A1 : Option Addr} {c1 : Nat} {xs : List Int} {k : Nat} (h : Rs w q g A n c A1 c1 xs k) :
    Calls Tryd.prog 63 #[ptr q] w fun e w' => e = .returned (Ch.flt 3 (n : Int)).val ∧ Past w w' := by
  have f0 := h.c0
  have HN := Lib.hid (fun w => new_any 3 (n : Int) w)
  clear h
  simp only [valFlt] at HN ⊢
  go_enter Tryd.func63, Tryd.ntmps63
  go_wp2_with fail
  refine (HN.out _).mono ?_
  rintro e w2 ⟨rfl, hp⟩
  have HP := Lib.hid hp
  clear hp
  go_wp2_with fail
  go_ret
  exact ⟨rfl, HP.out⟩

theorem and31 (t : Int) (h0 : 0 ≤ t) (h1 : t < 256) : bits .and .u64 t 31 = t % 32 := by
  have h : ∀ x : Fin 256, bits .and .u64 ((x.val : Nat) : Int) 31 = ((x.val : Nat) : Int) % 32 := by decide +kernel
  have := h ⟨t.toNat, by omega⟩
  simpa [Int.toNat_of_nonneg h0] using this
/-- What the head of an item is: an error, or a kind, a number, and where it ends. -/
def hdW (deep : Bool) (b : List Int) (p : Nat) : (Nat × Nat) ⊕ (Nat × Nat × Nat) :=
  if b.length ≤ p then .inl (3, b.length)
  else if 5 < (b.getD p 0).toNat / 32 ∨ 27 < (b.getD p 0).toNat % 32 then .inl (5, p)
  else if deep = true then .inl (2, p)
  else if b.length < p + 1 + szOf ((b.getD p 0).toNat % 32) then .inl (3, b.length)
  else if hsz (numAt b p ((b.getD p 0).toNat % 32)) ≠ szOf ((b.getD p 0).toNat % 32) then .inl (6, p)
  else .inr ((b.getD p 0).toNat / 32, numAt b p ((b.getD p 0).toNat % 32), p + 1 + szOf ((b.getD p 0).toNat % 32))
def HdP (r : (Nat × Nat) ⊕ (Nat × Nat × Nat)) (w : World) (g : Nat) (A1 : Option Addr) (n c1 : Nat) (e : Ending) (w' : World) : Prop :=
  match r with
  | .inl (cd, a) => e = .returned (.tuple #[.int .i64 0, .int .u64 0, (Ch.flt (cd : Int) (a : Int)).val]) ∧ w.grownBy w' (some g)
  | .inr (kd, nm, nx) => e = .returned (.tuple #[.int .i64 (kd : Int), .int .u64 (nm : Int), .nilIface]) ∧ Rdr w' g A1 n c1 nx ∧ w.grownBy w' (some g)

set_option maxHeartbeats 4000000 in
set_option maxRecDepth 100000 in
theorem phead_any {w : World} {q g : Nat} {A : Option Addr} {n c : Nat} {A1 : Option Addr} {c1 : Nat} {xs : List Int} {p : Nat} (h : Rs w q g A n c A1 c1 xs p) (ab : Int) :
    Calls Tryd.prog 45 #[ptr q, .int .i64 ab] w (HdP (hdW (decide (8 ≤ ab)) xs p) w g A1 n c1) := by
  have HS := Lib.hid h
  have hl := h.len
  have hn := h.hn
  have f1 := h.c1'
  by_cases he : n ≤ p
  · have HQ : Hid (hdW (decide (8 ≤ ab)) xs p = .inl (3, n)) := Lib.hid (by unfold hdW; rw [if_pos (by omega), hl])
    have HW1 := Lib.hid (word_far 1 w g A1 n c1 p h.rd h.hk (by omega) (by decide) (by omega))
    have hm : ∀ m, (w.drewN m).cell? ⟨q, 1, none⟩ = some (ptr g) := fun m => f1
    clear h hl
    go_enter Tryd.func45, Tryd.ntmps45
    go_wp2_with fail
    refine (wat_any w g A1 n c1 p HS.out.rd).mono ?_
    rintro e w2 ⟨rfl, rfl⟩
    go_wp2_with fail
    refine HW1.out.mono ?_
    rintro e w2 ⟨rfl, m, rfl⟩
    have H2 := Lib.hid (HS.out.past (Past.drewN (Below.refl _ w) m))
    have HG : Hid (w.grownBy (w.drewN m) (some g)) := Lib.hid (only_drewN (World.grownBy.refl w (some g)) m)
    have HT := Lib.hid (trunc_any H2.out)
    generalize w.drewN m = w2 at *
    go_wp2_with fail
    refine HT.out.mono ?_
    rintro e w3 ⟨rfl, hp⟩
    have HF : Hid (w.grownBy w3 (some g)) := Lib.hid (only_trans HG.out (only_of_past hp _))
    clear hp
    simp only [valFlt]
    go_wp2_with fail
    go_returns
    rw [HQ.out]
    exact ⟨rfl, HF.out⟩
  · have hp : p < n := by omega
    obtain ⟨x, hxd⟩ : ∃ x, xs.getD p 0 = x := ⟨_, rfl⟩
    have hx : 0 ≤ x ∧ x < 256 := by
      rw [← hxd]
      exact h.sl.rng _ (by rw [List.getD_eq_getElem?_getD, List.getElem?_eq_getElem (by rw [hl]; exact hp)]; exact List.getElem_mem _)
    obtain ⟨k, hk⟩ : ∃ k, x.toNat / 32 = k := ⟨_, rfl⟩
    obtain ⟨l, hll⟩ : ∃ l, x.toNat % 32 = l := ⟨_, rfl⟩
    have hk7 : k ≤ 7 := by omega
    have hl31 : l ≤ 31 := by omega
    have hq0 : hdW (decide (8 ≤ ab)) xs p = if 5 < k ∨ 27 < l then .inl (5, p) else if decide (8 ≤ ab) = true then .inl (2, p) else if n < p + 1 + szOf l then .inl (3, n) else if hsz (numAt xs p l) ≠ szOf l then .inl (6, p) else .inr (k, numAt xs p l, p + 1 + szOf l) := by
      unfold hdW
      rw [if_neg (by omega), hxd, hk, hll, hl]
    have HQ0 := Lib.hid hq0
    have HWd := word_ok 1 w g A1 n c1 p xs h.rd h.sl1 h.hk (by omega) (by decide)
    rw [beI_one10 xs p (by omega), hxd] at HWd
    have HW1 := Lib.hid HWd
    have hdv : x / 32 = (k : Int) := by omega
    have hmd : bits .and .u64 x 31 = (l : Int) := by rw [and31 x hx.1 hx.2]; omega
    have hkw : IntKind.i64.wrap (k : Int) = (k : Int) := by rw [IntKind.wrap_i64]; omega
    have HNB := Lib.hid (num_bd xs h.sl.rng p)
    clear h hl hq0 HWd hk hll hxd
    go_enter Tryd.func45, Tryd.ntmps45
    go_wp2_with fail
    refine (wat_any w g A1 n c1 p HS.out.rd).mono ?_
    rintro e w2 ⟨rfl, rfl⟩
    go_wp2_with fail
    refine HW1.out.mono ?_
    rintro e w2 ⟨rfl, m, hw2⟩
    have H2 : Hid (Rs w2 q g A n c A1 c1 xs (p + 1) ∧ w.grownBy w2 (some g)) := by
      have hg : w.grownBy w2 (some g) := by
        rw [hw2]
        exact only_setCell (only_drewN (World.grownBy.refl w (some g)) m) (.inl rfl) _
      have hr : Rdr w2 g A1 n c1 (p + 1) := by
        rw [hw2]
        exact (HS.out.rd.drewN m).set1 (p + 1)
      exact Lib.hid ⟨HS.out.move hg hr (by omega), hg⟩
    clear hw2 HW1 f1 HS
    have HNE := Lib.hid (fun cd w => new_any cd (p : Int) w)
    simp only [valFlt] at HNE
    by_cases hbad : 5 < k ∨ 27 < l
    · have HQ : Hid (hdW (decide (8 ≤ ab)) xs p = .inl (5, p)) := Lib.hid (by rw [HQ0.out, if_pos hbad])
      rcases Nat.lt_or_ge 5 k with h5 | h5
      · have h5i : (5 : Int) < (k : Int) := by omega
        clear hbad h5
        go_wp2_with fail
        refine (HNE.out 5 _).mono ?_
        rintro e w3 ⟨rfl, hp3⟩
        have HF : Hid (w.grownBy w3 (some g)) := Lib.hid (only_trans H2.out.2 (only_of_past hp3 _))
        clear hp3
        go_wp2_with fail
        go_returns
        rw [HQ.out]
        exact ⟨rfl, HF.out⟩
      · have h5i : ¬ (5 : Int) < (k : Int) := by omega
        have h27 : (27 : Int) < (l : Int) := by omega
        clear hbad h5
        go_wp2_with fail
        refine (HNE.out 5 _).mono ?_
        rintro e w3 ⟨rfl, hp3⟩
        have HF : Hid (w.grownBy w3 (some g)) := Lib.hid (only_trans H2.out.2 (only_of_past hp3 _))
        clear hp3
        go_wp2_with fail
        go_returns
        rw [HQ.out]
        exact ⟨rfl, HF.out⟩
    have h5i : ¬ (5 : Int) < (k : Int) := by omega
    have h27 : ¬ (27 : Int) < (l : Int) := by omega
    by_cases hab : 8 ≤ ab
    · have HQ : Hid (hdW (decide (8 ≤ ab)) xs p = .inl (2, p)) := Lib.hid (by rw [HQ0.out, if_neg hbad, if_pos (decide_eq_true hab)])
      clear hbad
      go_wp2_with fail
      refine (HNE.out 2 _).mono ?_
      rintro e w3 ⟨rfl, hp3⟩
      have HF : Hid (w.grownBy w3 (some g)) := Lib.hid (only_trans H2.out.2 (only_of_past hp3 _))
      clear hp3
      go_wp2_with fail
      go_returns
      rw [HQ.out]
      exact ⟨rfl, HF.out⟩
    have HQ1 : Hid (hdW (decide (8 ≤ ab)) xs p = if n < p + 1 + szOf l then .inl (3, n) else if hsz (numAt xs p l) ≠ szOf l then .inl (6, p) else .inr (k, numAt xs p l, p + 1 + szOf l)) := Lib.hid (by rw [HQ0.out, if_neg hbad, if_neg (by rw [decide_eq_false hab]; decide)])
    have hl27 : l ≤ 27 := by omega
    clear hbad HQ0
    by_cases h24 : l < 24
    · have hsz0 : szOf l = 0 := by unfold szOf; rw [if_pos h24]
      have hnl : numAt xs p l = l := by unfold numAt; rw [if_pos h24]
      have hh0 : hsz l = 0 := by unfold hsz; rw [if_pos h24]
      have HQ : Hid (hdW (decide (8 ≤ ab)) xs p = .inr (k, l, p + 1)) := Lib.hid (by rw [HQ1.out, hsz0, hnl, hh0, if_neg (by omega), if_neg (by simp)])
      have h24i : (l : Int) < 24 := by omega
      clear hsz0 hnl hh0 h24 HQ1
      go_wp2_with fail
      go_returns
      rw [HQ.out]
      exact ⟨rfl, H2.out.1.rd, H2.out.2⟩
    have h24i : ¬ (l : Int) < 24 := by omega
    obtain ⟨s, hs⟩ : ∃ s, szOf l = s := ⟨_, rfl⟩
    have hws : ws (s : Int) = true := by
      rw [← hs]
      obtain rfl | rfl | rfl | rfl : l = 24 ∨ l = 25 ∨ l = 26 ∨ l = 27 := by omega
      all_goals decide
    have hs8 : s ≤ 8 := by rw [← hs]; exact szOf_le l
    have HSS := Lib.hid hs
    have f1w : w2.cell? ⟨q, 1, none⟩ = some (ptr g) := H2.out.1.c1'
    go_upto_region 12 with (fail)
    go_cut [12] (fun s12 wx => s12 = .int .i64 (s : Int) ∧ wx = w2)
    case first =>
      obtain rfl | rfl | rfl | rfl : l = 24 ∨ l = 25 ∨ l = 26 ∨ l = 27 := by omega
      all_goals
        have hs' := hs.symm
        subst hs'
        go_wp2_with fail
        go_meet
        case rel => exact ⟨rfl, rfl⟩
    case rest =>
      obtain ⟨rfl, rfl⟩ := hcut
      by_cases hfar : n < p + 1 + s
      · have HQ : Hid (hdW (decide (8 ≤ ab)) xs p = .inl (3, n)) := Lib.hid (by rw [HQ1.out, HSS.out, if_pos hfar])
        have HWF := Lib.hid (word_far (s : Int) wc g A1 n c1 (p + 1) H2.out.1.rd H2.out.1.hk (by omega) hws (by omega))
        clear hs hws
        go_wp2_with fail
        refine HWF.out.mono ?_
        rintro e w3 ⟨rfl, m, hw3⟩
        have H3 : Hid (Rs w3 q g A n c A1 c1 xs (p + 1) ∧ w.grownBy w3 (some g)) := by
          rw [hw3]
          exact Lib.hid ⟨H2.out.1.past (Past.drewN (Below.refl _ _) m), only_drewN H2.out.2 m⟩
        have HT := Lib.hid (trunc_any H3.out.1)
        clear hw3 HWF
        go_wp2_with fail
        refine HT.out.mono ?_
        rintro e w4 ⟨rfl, hp4⟩
        have HF : Hid (w.grownBy w4 (some g)) := Lib.hid (only_trans H3.out.2 (only_of_past hp4 _))
        clear hp4
        simp only [valFlt]
        go_wp2_with fail
        go_returns
        rw [HQ.out]
        exact ⟨rfl, HF.out⟩
      have HWO := word_ok s wc g A1 n c1 (p + 1) xs H2.out.1.rd H2.out.1.sl1 H2.out.1.hk (by omega) hws
      have hbe : beI ((xs.drop (p + 1)).take s) = (numAt xs p l : Int) := by
        unfold numAt
        rw [if_neg h24, hs]
        exact (Int.toNat_of_nonneg (beI_bd _ (fun y hy => H2.out.1.sl.rng y (List.mem_of_mem_drop (List.mem_of_mem_take hy)))).1).symm
      rw [hbe] at HWO
      have HWo := Lib.hid HWO
      have HQ2 : Hid (hdW (decide (8 ≤ ab)) xs p = if hsz (numAt xs p l) ≠ s then .inl (6, p) else .inr (k, numAt xs p l, p + 1 + s)) := Lib.hid (by rw [HQ1.out, HSS.out, if_neg hfar])
      have hnb := HNB.out l
      have HFU := Lib.hid (fun w => further10_any (numAt xs p l) w)
      clear hbe HWO hs hws HSS HQ1 HNB
      generalize numAt xs p l = nm at *
      go_wp2_with fail
      refine HWo.out.mono ?_
      rintro e w3 ⟨rfl, m, hw3⟩
      have H3 : Hid (Rdr w3 g A1 n c1 (p + 1 + s) ∧ w.grownBy w3 (some g)) := by
        rw [hw3]
        exact Lib.hid ⟨(H2.out.1.rd.drewN m).set1 (p + 1 + s), only_trans H2.out.2 (only_setCell (only_drewN (World.grownBy.refl _ (some g)) m) (.inl rfl) _)⟩
      clear hw3 HWo
      go_wp2_with fail
      refine (HFU.out _).mono ?_
      rintro e w4 ⟨rfl, rfl⟩
      by_cases hne : hsz nm = s
      · have HQ : Hid (hdW (decide (8 ≤ ab)) xs p = .inr (k, nm, p + 1 + s)) := Lib.hid (by rw [HQ2.out, if_neg (by simpa using hne)])
        rw [hne]
        clear hne
        have hnb2 : ((s : Int) != (s : Int)) = false := by simp
        go_wp2_with fail
        go_returns
        rw [HQ.out]
        exact ⟨rfl, H3.out.1, H3.out.2⟩
      · have HQ : Hid (hdW (decide (8 ≤ ab)) xs p = .inl (6, p)) := Lib.hid (by rw [HQ2.out, if_pos hne])
        have hnb2 : ((hsz nm : Int) != (s : Int)) = true := by simp; omega
        clear hne
        generalize hsz nm = z at *
        go_wp2_with fail
        refine (HNE.out 6 _).mono ?_
        rintro e w5 ⟨rfl, hp5⟩
        have HF : Hid (w.grownBy w5 (some g)) := Lib.hid (only_trans H3.out.2 (only_of_past hp5 _))
        clear hp5
        go_wp2_with fail
        go_returns
        rw [HQ.out]
        exact ⟨rfl, HF.out⟩

end Go.Proofs.YtmhgpdfllpgjpaaDoor

namespace Go.Proofs.YtmhgpdfllpgjpaaDoor
open Go.RowKit
set_option linter.unusedVariables false

def FarP (n : Nat) (w : World) (g : Nat) (e : Ending) (w' : World) : Prop := e = .returned (.tuple #[.slice none 0 0, (Ch.flt 3 (n : Int)).val]) ∧ w.grownBy w' (some g)
def GotP (ys : List Int) (nm nx : Nat) (w : World) (g : Nat) (A1 : Option Addr) (n c1 : Nat) (e : Ending) (w' : World) : Prop :=
  ∃ A2 c2, e = .returned (.tuple #[.slice A2 nm c2, .nilIface]) ∧ Rdr w' g A1 n c1 nx ∧ Sl w' A2 nm c2 ys ∧ (∀ b o, A2 = some ⟨b, o, none⟩ → w.heap.size ≤ b ∧ b < w'.heap.size) ∧ w.grownBy w' (some g)
def TextP (o : Option Nat) (ys : List Int) (nm nx : Nat) (w : World) (g : Nat) (A1 : Option Addr) (n c1 : Nat) (e : Ending) (w' : World) : Prop :=
  match o with
  | some i => e = .returned (.tuple #[.slice none 0 0, (Ch.flt 5 (i : Int)).val]) ∧ w.grownBy w' (some g)
  | none => GotP ys nm nx w g A1 n c1 e w'

section
variable {w : World} {q g : Nat} {A : Option Addr} {n c : Nat} {A1 : Option Addr} {c1 : Nat} {xs : List Int} {nx : Nat}
theorem pbytes_far (h : Rs w q g A n c A1 c1 xs nx) (nm : Nat) (hnm : nm < 18446744073709551616) (hf : n - nx < nm) : Calls Tryd.prog 46 #[ptr q, .int .u64 (nm : Int)] w (FarP n w g) := by
  have HS := Lib.hid h
  have f1 := h.c1'
  have HL := Lib.hid (left_any w g A1 n c1 nx h.rd h.hk (by have := h.hn; omega))
  have hn := h.hn
  have hw : IntKind.u64.wrap ((n - nx : Nat) : Int) = ((n - nx : Nat) : Int) := by rw [IntKind.wrap_u64]; omega
  have hfi : ((n - nx : Nat) : Int) < (nm : Int) := by omega
  clear h
  generalize hq : n - nx = lf at *
  go_enter Tryd.func46, Tryd.ntmps46
  go_wp2_with fail
  refine HL.out.mono ?_
  rintro e w2 ⟨rfl, m, hw2⟩
  have H2 : Hid (Rs w2 q g A n c A1 c1 xs nx ∧ w.grownBy w2 (some g)) := by
    rw [hw2]
    exact Lib.hid ⟨HS.out.past (Past.drewN (Below.refl _ _) m), only_drewN (World.grownBy.refl w (some g)) m⟩
  have HT := Lib.hid (trunc_any H2.out.1)
  clear hw2 f1
  go_wp2_with fail
  refine HT.out.mono ?_
  rintro e w3 ⟨rfl, hp⟩
  have HF : Hid (w.grownBy w3 (some g)) := Lib.hid (only_trans H2.out.2 (only_of_past hp _))
  clear hp
  simp only [valFlt]
  go_wp2_with fail
  go_ret2
  exact ⟨rfl, HF.out⟩

theorem pbytes_ok (h : Rs w q g A n c A1 c1 xs nx) (nm : Nat) (hf : nm ≤ n - nx) : Calls Tryd.prog 46 #[ptr q, .int .u64 (nm : Int)] w (GotP ((xs.drop nx).take nm) nm (nx + nm) w g A1 n c1) := by
  have HS := Lib.hid h
  have f1 := h.c1'
  have HL := Lib.hid (left_any w g A1 n c1 nx h.rd h.hk (by have := h.hn; omega))
  have hn := h.hn
  have hw : IntKind.u64.wrap ((n - nx : Nat) : Int) = ((n - nx : Nat) : Int) := by rw [IntKind.wrap_u64]; omega
  have hwm : IntKind.i64.wrap (nm : Int) = (nm : Int) := by rw [IntKind.wrap_i64]; omega
  have hfi : ¬ ((n - nx : Nat) : Int) < (nm : Int) := by omega
  have HTK := Lib.hid (fun w2 (hp : Past w w2) => take_ok nm w2 g A1 n c1 nx xs (h.rd.past hp) (h.sl1.past hp) h.hk (by omega) hf)
  have hlen : ((xs.drop nx).take nm).length = nm := by rw [List.length_take, List.length_drop, h.len]; omega
  have HLN := Lib.hid hlen
  clear h hlen
  generalize (xs.drop nx).take nm = ys at *
  generalize hq : n - nx = lf at *
  go_enter Tryd.func46, Tryd.ntmps46
  go_wp2_with fail
  refine HL.out.mono ?_
  rintro e w2 ⟨rfl, m, hw2⟩
  have H2 : Hid (Past w w2 ∧ Rs w2 q g A n c A1 c1 xs nx) := by
    rw [hw2]
    exact Lib.hid ⟨Past.drewN (Below.refl _ w) m, HS.out.past (Past.drewN (Below.refl _ _) m)⟩
  have f2 : w2.cell? ⟨q, 1, none⟩ = some (ptr g) := H2.out.2.c1'
  clear hw2 f1
  go_wp2_with fail
  refine (HTK.out w2 H2.out.1).mono ?_
  rintro e w3 ⟨A2, c2, rfl, hrd, hsl, hown, hg⟩
  rw [HLN.out] at hsl hown ⊢
  have H3 : Hid (Rdr w3 g A1 n c1 (nx + nm) ∧ Sl w3 A2 nm c2 ys ∧ (∀ b o, A2 = some ⟨b, o, none⟩ → w.heap.size ≤ b ∧ b < w3.heap.size) ∧ w.grownBy w3 (some g)) := by
    refine Lib.hid ⟨hrd, hsl, fun b o e => ?_, only_trans (only_of_past H2.out.1 _) hg⟩
    subst e
    have h1 := own_block_ge hown b rfl
    have h2 := (hown.lt b rfl).2
    have := H2.out.1.size
    exact ⟨by omega, h2⟩
  clear hrd hsl hown hg HTK f2
  go_wp2_with fail
  go_ret2
  exact ⟨A2, c2, rfl, H3.out⟩

theorem ptext_far (h : Rs w q g A n c A1 c1 xs nx) (nm : Nat) (hnm : nm < 18446744073709551616) (hf : n - nx < nm) : Calls Tryd.prog 47 #[ptr q, .int .u64 (nm : Int)] w (FarP n w g) := by
  have f1 := h.c1'
  have HB := Lib.hid (pbytes_far h nm hnm hf)
  have HA := Lib.hid (wat_any w g A1 n c1 nx h.rd)
  clear h hf
  go_enter Tryd.func47, Tryd.ntmps47
  go_wp2_with fail
  refine HA.out.mono ?_
  rintro e w2 ⟨rfl, rfl⟩
  go_wp2_with fail
  refine HB.out.mono ?_
  rintro e w3 ⟨rfl, hg⟩
  have HG := Lib.hid hg
  clear hg
  simp only [valFlt]
  go_wp2_with fail
  go_ret2
  exact ⟨rfl, HG.out⟩

theorem ptext_any (h : Rs w q g A n c A1 c1 xs nx) (nm : Nat) (hf : nm ≤ n - nx) (o : Option Nat) (ho : findBad ((xs.drop nx).take nm) nx = o) : Calls Tryd.prog 47 #[ptr q, .int .u64 (nm : Int)] w (TextP o ((xs.drop nx).take nm) nm (nx + nm) w g A1 n c1) := by
  have f1 := h.c1'
  have HB := Lib.hid (pbytes_ok h nm hf)
  have HA := Lib.hid (wat_any w g A1 n c1 nx h.rd)
  have hn := h.hn
  have hadd := findBad_add ((xs.drop nx).take nm) nx 0
  rw [Nat.add_zero, ho] at hadd
  have hle := findBad_le ((xs.drop nx).take nm) nx
  rw [ho] at hle
  have hnx := h.hk
  have hlen : ((xs.drop nx).take nm).length = nm := by rw [List.length_take, List.length_drop, h.len]; omega
  have HNE := Lib.hid (fun a w => new_any 5 a w)
  simp only [valFlt] at HNE
  have HIX := Lib.hid (fun w1 A2 c2 (hs : Sl w1 A2 nm c2 ((xs.drop nx).take nm)) => indexBad_any hs (by omega))
  clear h ho
  generalize (xs.drop nx).take nm = ys at *
  cases hq : findBad ys 0 with
  | none =>
    rw [hq] at hadd HIX
    have hon : o = none := hadd
    subst hon
    clear hle hadd hq hlen
    go_enter Tryd.func47, Tryd.ntmps47
    go_wp2_with fail
    refine HA.out.mono ?_
    rintro e w2 ⟨rfl, rfl⟩
    go_wp2_with fail
    refine HB.out.mono ?_
    rintro e w3 ⟨A2, c2, rfl, hrest⟩
    have HR := Lib.hid hrest
    clear hrest
    go_wp2_with fail
    refine (HIX.out w3 A2 c2 HR.out.2.1).mono ?_
    rintro e w4 ⟨rfl, rfl⟩
    rw [show badI none = -1 from rfl]
    go_wp2_with fail
    go_ret2
    exact ⟨A2, c2, rfl, HR.out⟩
  | some i =>
    rw [hq] at hadd HIX
    have hon : o = some (nx + i) := hadd
    subst hon
    have hb := hle (nx + i) rfl
    rw [hlen] at hb
    have hw : IntKind.i64.wrap ((nx : Int) + (i : Int)) = (nx : Int) + (i : Int) := by rw [IntKind.wrap_i64]; omega
    have hi0 : (0 : Int) ≤ (i : Int) := by omega
    have hbi : badI (some i) = (i : Int) := rfl
    rw [hbi] at HIX
    have HCI : Hid (((nx + i : Nat) : Int) = (nx : Int) + (i : Int)) := Lib.hid (by omega)
    clear hle hadd hq hlen hbi
    go_enter Tryd.func47, Tryd.ntmps47
    go_wp2_with fail
    refine HA.out.mono ?_
    rintro e w2 ⟨rfl, rfl⟩
    go_wp2_with fail
    refine HB.out.mono ?_
    rintro e w3 ⟨A2, c2, rfl, hrest⟩
    have HR := Lib.hid hrest
    clear hrest
    go_wp2_with fail
    refine (HIX.out w3 A2 c2 HR.out.2.1).mono ?_
    rintro e w4 ⟨rfl, rfl⟩
    go_wp2_with fail
    refine (HNE.out _ _).mono ?_
    rintro e w5 ⟨rfl, hp5⟩
    have HF : Hid (w.grownBy w5 (some g)) := Lib.hid (only_trans HR.out.2.2.2 (only_of_past hp5 _))
    clear hp5
    go_wp2_with fail
    go_ret2
    show _ = Ending.returned (.tuple #[.slice none 0 0, (Ch.flt 5 ((nx + i : Nat) : Int)).val]) ∧ _
    rw [HCI.out]
    exact ⟨rfl, HF.out⟩
end

end Go.Proofs.YtmhgpdfllpgjpaaDoor
