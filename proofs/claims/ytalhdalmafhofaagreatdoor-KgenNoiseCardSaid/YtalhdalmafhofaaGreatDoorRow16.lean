/- Lists of polynomials in memory: grow. -/
import Derived.Test.YtalhdalmafhofaaGreatDoorUn16B
import Derived.Great.CaseRows
namespace Go.Proofs.YtalhdalmafhofaaGreatDoor
open Go.RowKit
set_option maxRecDepth 100000
set_option linter.unusedVariables false

theorem infoP_ok : ∃ i z, Tryz.prog.info? 30 = some i ∧ i.zero = some z ∧ i.size = 256 ∧ i.bytes = 512 ∧ z.cells.size = 256 := by
  cases hq : Tryz.prog.info? 30 with
  | none =>
    have : (Tryz.prog.info? 30).isSome = true := by kernel_rfl
    rw [hq] at this
    cases this
  | some i =>
    have h : (Tryz.prog.info? 30).map (fun i => (i.zero.isSome, i.size, i.bytes, i.zero.map (·.cells.size))) = some (true, 256, 512, some 256) := by kernel_rfl
    rw [hq] at h
    simp only [Option.map_some, Option.some.injEq, Prod.mk.injEq] at h
    obtain ⟨z, hz⟩ := Option.isSome_iff_exists.1 h.1
    rw [hz] at h
    exact ⟨i, z, rfl, hz, h.2.1, h.2.2.1, by simpa using h.2.2.2⟩
theorem own_ne {w : World} {base b L : Nat} {v : Value} {xs : List Value} {t : TypeId} {cs : Array Value} (h : w.ownsRow base 30 256 v L xs) (hb : Row w b t cs) (ht : t ≠ 30) : some b ≠ v.ownBlock := by
  rcases h.2 with ⟨h1, _⟩ | ⟨g, cap, cur, h1, _, h3, _⟩
  · rw [h1]; intro e; cases e
  · rw [h1]
    intro e
    have e2 : b = g := by simpa [Value.ownBlock] using e
    subst e2
    have h4 : Row w b 30 cur := h3
    unfold Row at hb h4
    rw [h4] at hb
    injection hb with hb
    injection hb with _ hb
    exact ht hb.symm
theorem own_lt {w : World} {base L : Nat} {v : Value} {xs : List Value} (h : w.ownsRow base 30 256 v L xs) (u : Nat) (hu : w.heap.size ≤ u) : some u ≠ v.ownBlock := by
  intro e
  have := (h.lt u e.symm).2
  omega
theorem own_setOther {w : World} {base b L : Nat} {v : Value} {xs : List Value} {t : TypeId} {cs : Array Value} (h : w.ownsRow base 30 256 v L xs) (hb : Row w b t cs) (ht : t ≠ 30) (x : Value) : (w.setCell ⟨b, 0, none⟩ x).ownsRow base 30 256 v L xs := by
  refine ⟨h.1, ?_⟩
  rcases h.2 with h1 | ⟨g, cap, cur, h1, h2, h3, h4⟩
  · exact .inl h1
  · refine .inr ⟨g, cap, cur, h1, h2, ?_, h4⟩
    have hne : g ≠ b := by
      intro e
      have := own_ne h hb ht
      rw [h1] at this
      exact this (by rw [e]; rfl)
    exact Row.setOther (show Row w g 30 cur from h3) (Ne.symm hne) _ _
theorem Below.setCell' {B : Nat} {a c : World} {b : Nat} (h : Below B a c) (hb : B ≤ b) (x : Value) : Below B a (c.setCell ⟨b, 0, none⟩ x) := Below.setCell h hb x
/-- A slice literal of one polynomial. -/
theorem wp_buildPoly {o : Oper} {a : Act} {w : World} {K : Act → World → Prop} {Q : Exit → Act → World → Prop} (t : TypeId) (x : Nat) (ho : o.op = .buildSlice t 1 #[(0, .tmp x)]) (hu : Tryz.prog.underlying t = some (.slice 30)) (cs : Array Value) (hx : a.eval (.tmp x) = .agg cs) (hs : cs.size = 256)
    (h : K (a.put o.dst (.slice (some ⟨w.heap.size, 0, none⟩) 1 1)) (w.alloc (.cells cs 30))) : o.wp Tryz.prog a w K Q := by
  obtain ⟨i, z, hi, hz, h1, h2, h3⟩ := infoP_ok
  refine wp_buildSlice t 30 1 _ ho cs i z hu hi hz (by rw [h1]; decide) (by rw [h1]; decide) ?_ h
  have e1 : ((#[(0, .tmp x)] : Array (Nat × Operand)).map fun (i, x) => (i, a.eval x)).toList = ([Value.agg cs].zipIdx 0).map fun x => (x.2, x.1) := by simp [hx]
  rw [e1, h1]
  have := Go.Great.fill_whole (s := 256) (by decide) [Value.agg cs] ((Array.range (1 * 256)).map (z.cells[· % z.cells.size]!)) (by intro v hv; simp at hv; subst hv; exact hs) (by simp)
  simpa [Value.cells] using this
set_option maxHeartbeats 2000000 in
theorem grow_any (b L : Nat) (v : Value) (base : Nat) (xs : List Value) (F : Nat → Int) (w : World) (hb : Row w b 82 #[v]) (hown : w.ownsRow base 30 256 v L xs) (hbase : base ≤ b) (hL : L ≤ 10) :
    Calls Tryz.prog 42 #[.pointer (some ⟨b, 0, none⟩), .agg (arr .u16 256 F)] w fun r w' => r = .returned (.tuple #[]) ∧ ∃ v', Row w' b 82 #[v'] ∧ w'.ownsRow base 30 256 v' (L + 1) (xs ++ lst F) ∧ Below base w w' := by
  obtain ⟨u, hu⟩ : ∃ u, w.heap.size = u := ⟨_, rfl⟩
  obtain ⟨w1, hw1⟩ : ∃ w', w.alloc (.cells (arr .u16 256 F) 30) = w' := ⟨_, rfl⟩
  have hp1 : Past w w1 := by rw [← hw1]; exact (Below.refl _ _).alloc (Nat.le_refl _) _
  have hru : Row w1 u 30 (arr .u16 256 F) := by rw [← hw1, ← hu]; exact Row.new _ _ _
  have hbl := hb.lt
  have hlf := (lst_len F).2
  have hl256 : (lst F).length = 256 := by unfold lst; simp
  have hone : ∀ x ∈ lst F, x.oneCell' = true := by
    intro x hx
    unfold lst at hx
    obtain ⟨j, _, rfl⟩ := List.mem_map.1 hx
    rfl
  rw [arr_lst] at hw1 hru ⊢
  have hRL : ∀ w' : World, Row w' u 30 (lst F).toArray → w'.rangeAt u 0 (lst F) := fun w' h => row_lst h
  generalize lst F = lf at *
  have hb1 := hb.past hp1
  have HB1 := Lib.hid hb1
  have HP1 := Lib.hid hp1
  have HRU := Lib.hid hru
  have HW1 := Lib.hid hw1
  have HOW := Lib.hid hown
  have HBB := Lib.hid (And.intro hbase (And.intro hbl hL))
  have HL := Lib.hid (And.intro hlf (And.intro hl256 (And.intro hone hRL)))
  have kb := hb1.cell 0
  have hfb := hb1.fr 0
  clear hb hown hbase hL hbl hw1 hp1 hb1 hlf hl256 hone hRL
  go_enter Tryz.func42, Tryz.ntmps42
  go_upto_region 1 with (fail)
  rw [HW1.out]
  try rw [hu]
  clear HW1
  obtain ⟨wd, hwd⟩ : ∃ W, W = w1.drew := ⟨_, rfl⟩
  have HPD : Hid (Past w1 wd) := Lib.hid (by rw [hwd]; exact Past.drewN (Below.refl _ w1) 1)
  have HSK : Hid (∀ w', Past w1 w' → w'.rangeAt u 0 lf) := Lib.hid (fun w' h => HL.out.2.2.2 _ (HRU.out.past h))
  have HUS : Hid (w.heap.size ≤ u ∧ u < w1.heap.size) := Lib.hid ⟨by omega, HRU.out.lt⟩
  clear kb hfb hru
  refine wp_region_held_drew (S := fun w' => w'.rangeAt u 0 lf) (by kernel_rfl) (by rw [← hwd]; exact HSK.out _ HPD.out) (fun hH => ?_)
  change wpAnyH _ _ _ _ _ _ _ _ (World.drew _)
  rw [← hwd]
  clear hH hwd
  have hH := HSK.out _ HPD.out
  refine held_take 0 4 (v := .pointer (some ⟨b, 0, none⟩)) rfl rfl (by kernel_rfl) (by kernel_rfl) (by kernel_rfl) (fun _ _ _ h => h) (Or.inl ⟨by kernel_rfl, fun w _ => by kernel_rfl⟩) hH ?_
  (try simp only [List.setIfInBounds_toArray, List.set_cons_zero, List.set_cons_succ])
  refine held_take 1 5 (v := .pointer (some ⟨b, 0, none⟩)) rfl rfl (by kernel_rfl) (by kernel_rfl) (by kernel_rfl) (fun _ _ _ h => h) (Or.inl ⟨by kernel_rfl, fun w _ => by kernel_rfl⟩) hH ?_
  (try simp only [List.setIfInBounds_toArray, List.set_cons_zero, List.set_cons_succ])
  refine held_take 2 6 (v := .pointer (some ⟨b, 0, none⟩)) rfl rfl (by kernel_rfl) (by kernel_rfl) (by kernel_rfl) (fun _ _ _ h => h) (Or.inl ⟨by kernel_rfl, fun w _ => by kernel_rfl⟩) hH ?_
  (try simp only [List.setIfInBounds_toArray, List.set_cons_zero, List.set_cons_succ])
  refine held_take 4 8 rfl rfl (by kernel_rfl) (by kernel_rfl) (by kernel_rfl) (fun _ _ _ h => h) (yieldsIf_load_mid (by kernel_rfl) 30 (.tmp 3) rfl u 0 rfl lf _ (fun _ h => h) Tryz.underlying30 rfl HL.out.1) hH ?_
  (try simp only [List.setIfInBounds_toArray, List.set_cons_zero, List.set_cons_succ])
  refine wpAnyH_ready (rs := [3, 5]) (by kernel_rfl) (by simp) ?_
  refine AllReadyH.cons (by simp only [List.getElem?_toArray, List.getElem?_cons_succ, List.getElem?_cons_zero]; rfl) (fun K hK => ?_) (AllReadyH.cons (by simp only [List.getElem?_toArray, List.getElem?_cons_succ, List.getElem?_cons_zero]; rfl) (fun K hK => ?_) AllReadyH.nil)
  · have hcell : wd.cell? ⟨b, 0, none⟩ = some v := (HB1.out.past HPD.out).cell 0
    go_simp
    refine hK.out _ _ (HSK.out _ HPD.out) (fun hH => ?_)
    clear hK K hcell
    refine wpAnyH_ready (rs := [5]) (by kernel_rfl) (by simp) ?_
    refine AllReadyH.cons (by simp only [List.getElem?_toArray, List.getElem?_cons_succ, List.getElem?_cons_zero]; rfl) (fun K hK => ?_) AllReadyH.nil
    refine step_wanted16 rfl ?_
    obtain ⟨u2, hu2⟩ : ∃ u, wd.heap.size = u := ⟨_, rfl⟩
    obtain ⟨w2, hw2⟩ : ∃ w', wd.alloc (.cells lf.toArray 30) = w' := ⟨_, rfl⟩
    refine wp_buildPoly 82 8 rfl Tryz.underlying82 lf.toArray rfl (by simpa using HL.out.2.1) ?_
    rw [hu2, hw2]
    have HP2 : Hid (Past w1 w2) := Lib.hid (by rw [← hw2]; exact HPD.out.alloc HPD.out.size _)
    have HR2 : Hid (Row w2 u2 30 lf.toArray) := Lib.hid (by rw [← hw2, ← hu2]; exact Row.new _ _ _)
    refine hK.out _ _ (HSK.out _ HP2.out) (fun hH => ?_)
    clear hK K hw2 hu2
    refine wpAnyH_ready (rs := [6]) (by kernel_rfl) (by simp) ?_
    refine AllReadyH.cons (by simp only [List.getElem?_toArray, List.getElem?_cons_succ, List.getElem?_cons_zero]; rfl) (fun K hK => ?_) AllReadyH.nil
    refine step_wanted16 rfl ?_
    obtain ⟨iP, zP, hi, hz, hi1, hi2, hi3⟩ := infoP_ok
    have hbb := HBB.out
    have hown2 : w2.ownsRow base 30 256 v L xs := own_past15 HOW.out (HP1.out.trans' HP2.out)
    have hb2 : Row w2 b 82 #[v] := HB1.out.past HP2.out
    have hru2 : Row w2 u 30 lf.toArray := HRU.out.past HP2.out
    have hul : w.heap.size ≤ u := HUS.out.1
    refine wp_append_own w2 _ _ 82 rfl base 30 iP zP 256 512 Tryz.underlying82 hi hz hi1 hi2 hi3 (by decide) v L xs rfl hown2 ⟨u2, 0, none⟩ 1 1 lf rfl (by rw [HL.out.2.1]) (fun j x hj => ?_) HL.out.2.2.1 (by unfold maxLen; omega) (by omega) (by have h1 := HP1.out.size; have h2 := HP2.out.size; omega) ?_
    · rw [add_none, Nat.zero_add, HR2.out.cell]
      simpa using hj
    intro v' w3 hown3 hgr3 _
    obtain ⟨A3, c3, rfl⟩ := own_slice hown3
    have hb3 : Row w3 b 82 #[v] := hb2.grown hgr3 (own_ne hown2 hb2 (by decide))
    have hru3 : Row w3 u 30 lf.toArray := hru2.grown hgr3 (own_lt HOW.out u hul)
    have hbelow3 : Below base w w3 := by
      have h1 : Below base w w2 := Below.mono (HP1.out.trans' HP2.out) (by omega)
      cases hvo : v.ownBlock with
      | none => rw [hvo] at hgr3; exact ⟨hgr3.os.trans h1.os, hgr3.tape.trans h1.tape, hgr3.output.trans h1.output, Nat.le_trans h1.size hgr3.size, fun i hi => (hgr3.block i (Nat.lt_of_lt_of_le hi (by have := h1.size; omega)) (by simp)).trans (h1.block i hi)⟩
      | some gv => rw [hvo] at hgr3; exact past_of_only h1 hgr3 (by have := h1.size; omega) (own_block_ge HOW.out gv hvo)
    have HB3 := Lib.hid (And.intro hb3 (And.intro hru3 (And.intro hbelow3 hown3)))
    refine hK.out _ _ (HL.out.2.2.2 _ hru3) (fun hH => ?_)
    clear hK K hi hz hi1 hi2 hi3 hown2 hb2 hru2 hgr3 hbelow3 hown3 hru3 hbb
    refine held_take 7 11 (v := .pointer (some ⟨b, 0, none⟩)) rfl rfl (by kernel_rfl) (by kernel_rfl) (by kernel_rfl) (fun _ _ _ h => h) (Or.inl ⟨by kernel_rfl, fun w _ => by kernel_rfl⟩) hH ?_
    refine wpAnyH_ready (rs := [8]) (by kernel_rfl) (by simp) ?_
    refine AllReadyH.cons (by simp only [List.getElem?_toArray, List.getElem?_cons_succ, List.getElem?_cons_zero]; rfl) (fun K hK => ?_) AllReadyH.nil
    have hcell := hb3.cell 0
    have hfz := hb3.fr 0
    obtain ⟨w4, hw4⟩ : ∃ w', w3.setCell ⟨b, 0, none⟩ (.slice A3 (L + 1) c3) = w' := ⟨_, rfl⟩
    have HF : Hid (Row w4 b 82 #[.slice A3 (L + 1) c3] ∧ w4.ownsRow base 30 256 (.slice A3 (L + 1) c3) (L + 1) (xs ++ lf) ∧ Below base w w4 ∧ w4.rangeAt u 0 lf) := Lib.hid (by
      obtain ⟨h1, h2, h3, h4⟩ := HB3.out
      rw [← hw4]
      refine ⟨Row.set h1 0 _, ?_, ?_, ?_⟩
      · exact own_setOther h4 h1 (by decide) _
      · exact Below.setCell' h3 (by have := HBB.out; omega) _
      · exact HL.out.2.2.2 _ (h2.setOther (by have := HBB.out; have := HUS.out.1; omega) _ _))
    have HW4 := Lib.hid hw4
    clear hw4 hb3
    go_simp
    rw [HW4.out]
    refine hK.out _ _ HF.out.2.2.2 (fun hH => ?_)
    clear hK K hcell hfz
    refine wpAnyH_done (by kernel_rfl) ?_ _
    go_simp
    go_wp2_with fail
    go_end0
    exact ⟨rfl, _, HF.out.1, HF.out.2.1, HF.out.2.2.1⟩
  · refine step_wanted16 rfl ?_
    obtain ⟨u2, hu2⟩ : ∃ u, wd.heap.size = u := ⟨_, rfl⟩
    obtain ⟨w2, hw2⟩ : ∃ w', wd.alloc (.cells lf.toArray 30) = w' := ⟨_, rfl⟩
    refine wp_buildPoly 82 8 rfl Tryz.underlying82 lf.toArray rfl (by simpa using HL.out.2.1) ?_
    rw [hu2, hw2]
    have HP2 : Hid (Past w1 w2) := Lib.hid (by rw [← hw2]; exact HPD.out.alloc HPD.out.size _)
    have HR2 : Hid (Row w2 u2 30 lf.toArray) := Lib.hid (by rw [← hw2, ← hu2]; exact Row.new _ _ _)
    refine hK.out _ _ (HSK.out _ HP2.out) (fun hH => ?_)
    clear hK K hw2 hu2
    refine wpAnyH_ready (rs := [3]) (by kernel_rfl) (by simp) ?_
    refine AllReadyH.cons (by simp only [List.getElem?_toArray, List.getElem?_cons_succ, List.getElem?_cons_zero]; rfl) (fun K hK => ?_) AllReadyH.nil
    have hcell : w2.cell? ⟨b, 0, none⟩ = some v := (HB1.out.past HP2.out).cell 0
    go_simp
    refine hK.out _ _ (HSK.out _ HP2.out) (fun hH => ?_)
    clear hK K hcell
    refine wpAnyH_ready (rs := [6]) (by kernel_rfl) (by simp) ?_
    refine AllReadyH.cons (by simp only [List.getElem?_toArray, List.getElem?_cons_succ, List.getElem?_cons_zero]; rfl) (fun K hK => ?_) AllReadyH.nil
    refine step_wanted16 rfl ?_
    obtain ⟨iP, zP, hi, hz, hi1, hi2, hi3⟩ := infoP_ok
    have hbb := HBB.out
    have hown2 : w2.ownsRow base 30 256 v L xs := own_past15 HOW.out (HP1.out.trans' HP2.out)
    have hb2 : Row w2 b 82 #[v] := HB1.out.past HP2.out
    have hru2 : Row w2 u 30 lf.toArray := HRU.out.past HP2.out
    have hul : w.heap.size ≤ u := HUS.out.1
    refine wp_append_own w2 _ _ 82 rfl base 30 iP zP 256 512 Tryz.underlying82 hi hz hi1 hi2 hi3 (by decide) v L xs rfl hown2 ⟨u2, 0, none⟩ 1 1 lf rfl (by rw [HL.out.2.1]) (fun j x hj => ?_) HL.out.2.2.1 (by unfold maxLen; omega) (by omega) (by have h1 := HP1.out.size; have h2 := HP2.out.size; omega) ?_
    · rw [add_none, Nat.zero_add, HR2.out.cell]
      simpa using hj
    intro v' w3 hown3 hgr3 _
    obtain ⟨A3, c3, rfl⟩ := own_slice hown3
    have hb3 : Row w3 b 82 #[v] := hb2.grown hgr3 (own_ne hown2 hb2 (by decide))
    have hru3 : Row w3 u 30 lf.toArray := hru2.grown hgr3 (own_lt HOW.out u hul)
    have hbelow3 : Below base w w3 := by
      have h1 : Below base w w2 := Below.mono (HP1.out.trans' HP2.out) (by omega)
      cases hvo : v.ownBlock with
      | none => rw [hvo] at hgr3; exact ⟨hgr3.os.trans h1.os, hgr3.tape.trans h1.tape, hgr3.output.trans h1.output, Nat.le_trans h1.size hgr3.size, fun i hi => (hgr3.block i (Nat.lt_of_lt_of_le hi (by have := h1.size; omega)) (by simp)).trans (h1.block i hi)⟩
      | some gv => rw [hvo] at hgr3; exact past_of_only h1 hgr3 (by have := h1.size; omega) (own_block_ge HOW.out gv hvo)
    have HB3 := Lib.hid (And.intro hb3 (And.intro hru3 (And.intro hbelow3 hown3)))
    refine hK.out _ _ (HL.out.2.2.2 _ hru3) (fun hH => ?_)
    clear hK K hi hz hi1 hi2 hi3 hown2 hb2 hru2 hgr3 hbelow3 hown3 hru3 hbb
    refine held_take 7 11 (v := .pointer (some ⟨b, 0, none⟩)) rfl rfl (by kernel_rfl) (by kernel_rfl) (by kernel_rfl) (fun _ _ _ h => h) (Or.inl ⟨by kernel_rfl, fun w _ => by kernel_rfl⟩) hH ?_
    refine wpAnyH_ready (rs := [8]) (by kernel_rfl) (by simp) ?_
    refine AllReadyH.cons (by simp only [List.getElem?_toArray, List.getElem?_cons_succ, List.getElem?_cons_zero]; rfl) (fun K hK => ?_) AllReadyH.nil
    have hcell := hb3.cell 0
    have hfz := hb3.fr 0
    obtain ⟨w4, hw4⟩ : ∃ w', w3.setCell ⟨b, 0, none⟩ (.slice A3 (L + 1) c3) = w' := ⟨_, rfl⟩
    have HF : Hid (Row w4 b 82 #[.slice A3 (L + 1) c3] ∧ w4.ownsRow base 30 256 (.slice A3 (L + 1) c3) (L + 1) (xs ++ lf) ∧ Below base w w4 ∧ w4.rangeAt u 0 lf) := Lib.hid (by
      obtain ⟨h1, h2, h3, h4⟩ := HB3.out
      rw [← hw4]
      refine ⟨Row.set h1 0 _, ?_, ?_, ?_⟩
      · exact own_setOther h4 h1 (by decide) _
      · exact Below.setCell' h3 (by have := HBB.out; omega) _
      · exact HL.out.2.2.2 _ (h2.setOther (by have := HBB.out; have := HUS.out.1; omega) _ _))
    have HW4 := Lib.hid hw4
    clear hw4 hb3
    go_simp
    rw [HW4.out]
    refine hK.out _ _ HF.out.2.2.2 (fun hH => ?_)
    clear hK K hcell hfz
    refine wpAnyH_done (by kernel_rfl) ?_ _
    go_simp
    go_wp2_with fail
    go_end0
    exact ⟨rfl, _, HF.out.1, HF.out.2.1, HF.out.2.2.1⟩
end Go.Proofs.YtalhdalmafhofaaGreatDoor
