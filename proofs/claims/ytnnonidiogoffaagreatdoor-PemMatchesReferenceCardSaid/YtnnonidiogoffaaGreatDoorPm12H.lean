/- The library's slices.AppendSeq at lines. -/
import Derived.RangeFuncBox
import Derived.Test.YtnnonidiogoffaaGreatDoorPm12G
namespace Go.Proofs.YtnnonidiogoffaaGreatDoor
open Go.RowKit Go.Shelf
set_option linter.unusedVariables false
attribute [local go_sem] Oper.semAt_some

theorem infoSl : (Tryz.prog.info? 22).map (fun i => (i.zero, i.size, i.bytes)) = some (some (.slice none 0 0), 1, 24) := by kernel_rfl
theorem own_past {w w' : World} {base : Nat} {e : TypeId} {size : Nat} {v : Value} {n : Nat} {xs : List Value} (h : w.ownsRow base e size v n xs) (hp : Past w w') : w'.ownsRow base e size v n xs :=
  h.kept (only_of_past hp none) (by cases v.ownBlock <;> simp)
/-- The lines, as they lie, of a list of places. -/
def lvs (A : Option Addr) (c : Nat) (xs : List Int) (q : Nat) (pre : List (Fin q)) : List Value := pre.map fun x => lnV A c xs x.1
theorem lvs_all (A : Option Addr) (c : Nat) (xs : List Int) (q : Nat) : lvs A c xs q (List.finRange q) = (List.range q).map (lnV A c xs) := by
  refine List.ext_getElem (by simp [lvs]) fun j h1 h2 => ?_
  simp [lvs]
/-- What AppendSeq's rounds keep. -/
structure Ap (w1 : World) (base g : Nat) (L : List Value) (W : World) : Prop where
  past : Past w1 W
  own : ∃ v, Boxed W g 48 v ∧ W.ownsRow base 22 1 v L.length L
  sz : base ≤ W.heap.size
theorem Ap.kept {w1 W W' : World} {base g : Nat} {L : List Value} (h : Ap w1 base g L W) {row : Option Nat} {B : Nat} (hg : W.grownBy W' row) (hr : ∀ r, row = some r → B ≤ r ∧ ∃ o : Obj, W.heap[r]? = some o ∧ o.isCells = false) (hB : w1.heap.size ≤ B) : Ap w1 base g L W' := by
  obtain ⟨v, h1, h2⟩ := h.own
  refine ⟨h.past.grown hg h.past.size fun k e => Nat.le_trans hB (hr k e).1, ⟨v, row_kept h1 hg (fun r e => (hr r e).2), h2.kept hg ?_⟩, Nat.le_trans h.sz hg.size⟩
  rcases h2.2 with ⟨rfl, _⟩ | ⟨k, cap, cur, rfl, _, hgb, _⟩
  · exact .inl rfl
  · refine .inr fun e' => ?_
    obtain ⟨o, ho, hc⟩ := (hr k (by simpa [Value.ownBlock] using e'.symm)).2
    rw [hgb] at ho
    cases ho
    cases hc

set_option maxHeartbeats 4000000 in
set_option maxRecDepth 100000 in
theorem appendSeq_any (A : Option Addr) (n c : Nat) (xs : List Int) (w1 w : World) (hS : Sl w1 A n c xs) (hbn : n ≤ 100000000) (hP : Past w1 w) (bx : Nat) (hr : w.cell? ⟨bx, 0, none⟩ = some (.slice A n c)) (base : Nat) (hb : w1.heap.size ≤ base) (hbw : base ≤ w.heap.size)
    (A0 : Option Addr) (c0 : Nat) (hown : w.ownsRow base 22 1 (.slice A0 0 c0) 0 []) :
    Calls Tryz.prog 21 #[.slice A0 0 c0, .func (.func 37) #[] #[.pointer (some ⟨bx, 0, none⟩)]] w fun e w' =>
      ∃ P cc, e = .returned (.slice P (nln xs) cc) ∧ w'.ownsRow base 22 1 (.slice P (nln xs) cc) (nln xs) ((List.range (nln xs)).map (lnV A c xs)) ∧ Past w1 w' := by
  have HQ : Hid (nln xs ≤ 100000001) := Lib.hid (by have h1 := nln_spl xs; have h2 := spl_len_le 10 xs; have h3 := hS.len; omega)
  obtain ⟨ti, hi, hz, hsz, hby⟩ := info_parts infoSl
  have HI := Lib.hid (And.intro hi (And.intro hz (And.intro hsz hby)))
  have HS := Lib.hid hS
  have HBN := Lib.hid hbn
  have HP := Lib.hid hP
  have HB := Lib.hid (And.intro hb hbw)
  have HOW := Lib.hid hown
  have HR := Lib.hid hr
  clear hi hz hsz hby hS hbn hP hr hb hbw hown
  refine (callsIn_wide (n := 3)).1 ?_
  refine callsIn_of_wp_marks Tryz.func21 rfl trivial ?_ rfl
  simp only [Tryz.ntmps21, List.size_toArray, List.length_cons, List.length_nil, Nat.reduceAdd, Nat.reduceSub, Array.replicate_succ, Array.replicate_zero, List.push_toArray, List.append_toArray, List.nil_append, List.cons_append]
  gi_wp2
  obtain ⟨g, hg⟩ : ∃ g, w.heap.size = g := ⟨_, rfl⟩
  obtain ⟨W0, hW0⟩ : ∃ W0, W0 = w.alloc (.cells #[.slice A0 0 c0] 48) := ⟨_, rfl⟩
  rw [hg, ← hW0]
  have p0 : Past w W0 := by rw [hW0]; exact past_alloc8 _ _
  have z0 : W0.heap.size = g + 1 := by rw [hW0]; simp [hg]
  have HG := Lib.hid hg
  have HZ := Lib.hid z0
  have hA0 : Ap w1 base g [] W0 := ⟨HP.out.trans' p0, ⟨.slice A0 0 c0, by rw [hW0, ← hg]; exact Boxed.new _ _ _, own_past HOW.out p0⟩, Nat.le_trans HB.out.2 p0.size⟩
  have HA0 := Lib.hid hA0
  have HR0 : Hid (W0.cell? ⟨bx, 0, none⟩ = some (.slice A n c)) := Lib.hid (by rw [p0.cell (cell_lt HR.out)]; exact HR.out)
  have HW1 : Hid (w1.heap.size ≤ g) := Lib.hid (by have := HB.out; omega)
  clear hg hW0 p0 z0 hA0
  refine wpIn_rangeFunc_ownF rfl (by omega) (gf := 37) (lb := #[.pointer (some ⟨bx, 0, none⟩)]) rfl trivial (enters_of Tryz.func37 (by kernel_rfl) rfl)
    (lines_stops bx A n c xs w1 W0 HS.out (by have := HBN.out; omega) HA0.out.past HR0.out) belowK_t (belowK_b (by rw [HZ.out]; have := HW1.out; omega)) (Below.refl _ _) (fun _ => rfl)
    (fun pre W => Ap w1 base g (lvs A c xs (nln xs) pre) W) (fun c pre W => False)
    (fun t A B row h hg hr => h.kept hg hr (by rw [HZ.out]; have := HW1.out; omega)) (fun c t A B row h hg hr => h)
    HA0.out
    (fun (x : Fin (nln xs)) => { tmps := #[.slice A0 0 c0, .func (.func 37) #[] #[.pointer (some ⟨bx, 0, none⟩)], .pointer (some ⟨g, 0, none⟩), undef, .slice none 0 0, lnV A c xs x.1, .func (.func 37) #[] #[.pointer (some ⟨bx, 0, none⟩)], lnV A c xs x.1, undef, undef, undef, undef, undef], defers := [] }) ?assign ?body ?done ?stop
  case assign =>
    intro l x W KK hKK
    unfold encL
    gi_wp2
    exact hKK
  case body =>
    intro l pre x W hA hlt
    obtain ⟨v, hv, hown⟩ := hA.own
    obtain ⟨A1, c1, hve⟩ := own_slice hown
    have HVE := Lib.hid hve
    have HV := Lib.hid hv
    have HO := Lib.hid hown
    have HA := Lib.hid hA
    have f0 : W.cell? ⟨g, 0, none⟩ = some v := hv.cell
    have hlv : lvs A c xs (nln xs) (pre ++ [x]) = lvs A c xs (nln xs) pre ++ [lnV A c xs x.1] := by simp [lvs]
    have HLV := Lib.hid hlv
    have HLL : Hid ((lvs A c xs (nln xs) pre).length ≤ 100000001) := Lib.hid (by have := HQ.out; simp only [lvs, List.length_map]; omega)
    obtain ⟨L, hL⟩ : ∃ L, lvs A c xs (nln xs) pre = L := ⟨_, rfl⟩
    rw [hL] at HLV HO HLL HA
    obtain ⟨P, i, C, hln⟩ : ∃ P i C, lnV A c xs x.1 = .slice P i C := ⟨_, _, _, rfl⟩
    rw [hln] at HLV ⊢
    have HOA : Hid ((W.alloc (.cells #[.slice P i C] 22)).ownsRow base 22 1 v L.length L) := Lib.hid (own_past HO.out (past_alloc8 _ _))
    have HNW : Hid (∀ (j : Nat) u, [Value.slice P i C][j]? = some u → (W.alloc (.cells #[.slice P i C] 22)).cell? ((⟨W.heap.size, 0, none⟩ : Addr).add j) = some u) := Lib.hid (one_cell W _ _)
    have HBS : Hid (base ≤ (W.alloc (.cells #[.slice P i C] 22)).heap.size) := Lib.hid (by have := HA.out.sz; simp; omega)
    have HAPP : Hid (∀ v' w', w'.ownsRow base 22 1 v' (L.length + 1) (L ++ [.slice P i C]) → (W.alloc (.cells #[.slice P i C] 22)).grownBy w' v.ownBlock → Boxed w' g 48 v ∧ KeepsOthers W (w'.setCell ⟨g, 0, none⟩ v') ∧ Below w1.heap.size W (w'.setCell ⟨g, 0, none⟩ v') ∧ Ap w1 base g (L ++ [.slice P i C]) (w'.setCell ⟨g, 0, none⟩ v')) := Lib.hid fun v' w' h1 h2 => by
      obtain ⟨q1, q2, q3, q4, q5⟩ := Boxed.appended HV.out (by decide) HO.out HA.out.sz (by have := HG.out; have := HB.out.2; omega) h1 h2
      have q6 := Below.mono q5 HB.out.1
      refine ⟨q1, q4, q6, Below.trans HA.out.past q6, ⟨v', q2, ?_⟩, Nat.le_trans HA.out.sz q4.size⟩
      rw [List.length_append]
      exact q3
    have hmx : Tryz.prog.follows .mixedOrders = true := by kernel_rfl
    clear hv hown hA hlv hL hln hve hlt
    gi_wp2_with (refine wpListIn_append_own _ rfl _ _ 48 rfl base 22 ti _ 1 24 Tryz.underlying48 HI.out.1 HI.out.2.1 HI.out.2.2.1 HI.out.2.2.2 rfl (by decide) v L.length L rfl HOA.out ⟨W.heap.size, 0, none⟩ 1 1 [.slice P i C] rfl rfl HNW.out (by simp [Value.oneCell']) (by have := HLL.out; unfold maxLen; omega) (by have := HLL.out; omega) HBS.out ?_; intro v' w' hown' hgrow hnil; obtain ⟨A2, c2, rfl⟩ := own_slice hown'; have HF := Lib.hid (HAPP.out _ _ hown' hgrow); have f1 : w'.cell? ⟨g, 0, none⟩ = some v := HF.out.1.cell; have f2 : w'.frozen? ⟨g, 0, none⟩ = false := HF.out.1.frozen; clear hown' hgrow hnil)
    refine ⟨HF.out.2.1, HF.out.2.2.1, ?_⟩
    show Ap w1 base g (lvs A c xs (nln xs) (pre ++ [x])) _
    rw [HLV.out]
    exact HF.out.2.2.2
  case done =>
    rintro D ys W hD rfl hC hK
    obtain ⟨v, hv, hown⟩ := hC.own
    have hgr := grownBy_putObj' W D (.deferred none)
    have hnc : ∀ r, some D = some r → w1.heap.size ≤ r ∧ ∃ o : Obj, W.heap[r]? = some o ∧ o.isCells = false := fun r e => by cases e; exact ⟨by rw [HZ.out] at hD; have := HW1.out; omega, _, hK, rfl⟩
    have HF := Lib.hid (hC.kept hgr hnc (Nat.le_refl _))
    have hl : (lvs A c xs (nln xs) (List.finRange (nln xs))).length = nln xs := by simp [lvs]
    rw [hl] at hown
    obtain ⟨A2, c2, rfl⟩ := own_slice hown
    have f0 : W.cell? ⟨g, 0, none⟩ = some (.slice A2 (nln xs) c2) := hv.cell
    have HOK : Hid ((W.putObj D (.deferred none)).ownsRow base 22 1 (.slice A2 (nln xs) c2) (nln xs) ((List.range (nln xs)).map (lnV A c xs))) := Lib.hid (by
      rw [← lvs_all]
      exact ownsRow_putObj hown (.deferred none) hK rfl)
    have HK := Lib.hid hK
    clear hv hown hl hC hK hgr hnc hD
    gi_wp2
    refine ⟨by simp, .inl ⟨_, _, rfl, run_takeDeferred HK.out, ?_⟩⟩
    refine ⟨_, results_tmp (fn := Tryz.f21) (t := 4) rfl _ _ _, ?_⟩
    exact ⟨A2, c2, rfl, HOK.out, HF.out.past⟩
  case stop =>
    rintro D cc pre W hD _ h
    exact h.elim
end Go.Proofs.YtnnonidiogoffaaGreatDoor
