/- The program's Lines; the library's slices.AppendSeq at lines. -/
import Derived.Test.YtnnonidiogoffaaGreatDoorPm12F
namespace Go.Proofs.YtnnonidiogoffaaGreatDoor
open Go.RowKit Go.Shelf
set_option linter.unusedVariables false
attribute [local go_sem] Oper.semAt_some

theorem lines_any (A : Option Addr) (n c : Nat) (w : World) : Calls Tryz.prog 22 #[.slice A n c] w fun e w' =>
    e = .returned (.func (.func 37) #[] #[.pointer (some ⟨w.heap.size, 0, none⟩)]) ∧ w' = w.alloc (.cells #[.slice A n c] 22) := by
  go_enter Tryz.func22, Tryz.ntmps22
  go_wp2_with fail
  go_ret
  exact ⟨rfl, rfl⟩
/-- How many lines there are. -/
def nln (xs : List Int) : Nat := (lnsL xs).length
theorem nln_spl (xs : List Int) : (spl 10 xs).length = nln xs + 1 := by
  unfold nln lnsL
  have := spl_len 10 xs
  rw [List.length_dropLast]
  omega
theorem lines_stops (bx : Nat) (A : Option Addr) (n c : Nat) (xs : List Int) (w1 w : World) (hS : Sl w1 A n c xs) (hbn : n ≤ 1000000000) (hP : Past w1 w) (hr : w.cell? ⟨bx, 0, none⟩ = some (.slice A n c)) :
    SeqStopsK Fence.wide 2 Tryz.prog 37 #[.pointer (some ⟨bx, 0, none⟩)] (encL A c xs (nln xs)) (Below w1.heap.size) (fun ys => ys = List.finRange (nln xs)) (fun pre => ∃ k, k ≤ nln xs ∧ pre = starts (nln xs) k) (nln xs) w := fun l J Jx W hW hJ hJx hY h0 =>
  lines1_in l bx A n c xs (nln xs) (nln_spl xs) w1 hS hbn J Jx (fun t A B hj hg => hJ t A B none hj hg (fun r e => by cases e)) hY W (Past.trans' hP hW) (by rw [hW.cell (cell_lt hr)]; exact hr) h0
/-- What Lines' rounds keep. -/
structure Cn (w : World) (g : Nat) (m : Nat) (W : World) : Prop where
  past : Past w W
  rn : Row W g 3 #[.int .i64 (m : Int)]
theorem row_kept {W W' : World} {row : Option Nat} {b : Nat} {t : TypeId} {cs : Array Value} (h : Row W b t cs) (hg : W.grownBy W' row) (hr : ∀ r, row = some r → ∃ o : Obj, W.heap[r]? = some o ∧ o.isCells = false) : Row W' b t cs :=
  (hg.block b h.lt fun e => by
    obtain ⟨o, ho, hc⟩ := hr b e.symm
    rw [h] at ho
    cases ho
    cases hc).trans h
theorem Cn.kept {w W W' : World} {g m : Nat} (h : Cn w g m W) {row : Option Nat} {B : Nat} (hg : W.grownBy W' row) (hr : ∀ r, row = some r → B ≤ r ∧ ∃ o : Obj, W.heap[r]? = some o ∧ o.isCells = false) (hB : w.heap.size ≤ B) : Cn w g m W' :=
  ⟨h.past.grown hg h.past.size fun k e => Nat.le_trans hB (hr k e).1, row_kept h.rn hg (fun r e => (hr r e).2)⟩

set_option maxHeartbeats 4000000 in
set_option maxRecDepth 100000 in
theorem linesN_any (A : Option Addr) (n c : Nat) (xs : List Int) (w : World) (hS : Sl w A n c xs) (hbn : n ≤ 100000000) : Calls Tryz.prog 18 #[.slice A n c] w fun e w' => e = .returned (.int .i64 (nln xs : Int)) ∧ Past w w' := by
  have HLN := Lib.hid (fun w => lines_any A n c w)
  have HS := Lib.hid hS
  have HBN := Lib.hid hbn
  have HQ : Hid (nln xs ≤ 100000001) := Lib.hid (by have h1 := nln_spl xs; have h2 := spl_len_le 10 xs; have h3 := hS.len; omega)
  clear hS hbn
  refine (callsIn_wide (n := 3)).1 ?_
  refine callsIn_of_wp_marks Tryz.func18 rfl trivial ?_ rfl
  simp only [Tryz.ntmps18, List.size_toArray, List.length_cons, List.length_nil, Nat.reduceAdd, Nat.reduceSub, Array.replicate_succ, Array.replicate_zero, List.push_toArray, List.append_toArray, List.nil_append, List.cons_append]
  gi_wp2_with (first | (refine ⟨trivial, ?_⟩; gi_at_call 22; refine (callsIn_wide.2 (HLN.out _)).mono ?_; rintro e w2 ⟨rfl, rfl⟩))
  obtain ⟨g, hg⟩ : ∃ g, w.heap.size = g := ⟨_, rfl⟩
  obtain ⟨w1, hw1⟩ : ∃ w1, w1 = w.alloc (.cells #[.int .i64 0] 3) := ⟨_, rfl⟩
  obtain ⟨W0, hW0⟩ : ∃ W0, W0 = w1.alloc (.cells #[.slice A n c] 22) := ⟨_, rfl⟩
  rw [hg, ← hw1, ← hW0]
  have z1 : w1.heap.size = g + 1 := by rw [hw1]; simp [hg]
  have z0 : W0.heap.size = g + 1 + 1 := by rw [hW0]; simp [z1]
  have p1 : Past w1 W0 := by rw [hW0]; exact past_alloc8 _ _
  have p0 : Past w W0 := Past.trans' (by rw [hw1]; exact past_alloc8 _ _) p1
  have r0 : Row W0 g 3 #[.int .i64 0] := Row.past (by rw [hw1, ← hg]; exact Row.new _ _ _) p1
  have r1 : Row W0 (g + 1) 22 #[.slice A n c] := by rw [hW0, ← z1]; exact Row.new _ _ _
  have HG := Lib.hid hg
  have HZ := Lib.hid z0
  have HP0 := Lib.hid p0
  have HR := Lib.hid (And.intro r0 r1)
  clear hg hw1 hW0 z1 z0 p1 p0 r0 r1
  refine wpIn_rangeFunc_ownF rfl (by omega) (gf := 37) (lb := #[.pointer (some ⟨g + 1, 0, none⟩)]) rfl trivial (enters_of Tryz.func37 (by kernel_rfl) rfl)
    (lines_stops (g + 1) A n c xs w W0 HS.out (by have := HBN.out; omega) HP0.out (HR.out.2.cell 0)) belowK_t (belowK_b (by rw [HZ.out, HG.out]; omega)) (Below.refl _ _) (fun _ => rfl)
    (fun pre W => Cn w g pre.length W) (fun c pre W => False)
    (fun t A B row h hg hr => h.kept hg hr (by rw [HZ.out, HG.out]; omega)) (fun c t A B row h hg hr => h)
    ⟨HP0.out, HR.out.1⟩
    (fun (x : Fin (nln xs)) => { tmps := #[.slice A n c, undef, .int .i64 0, .pointer (some ⟨g, 0, none⟩), .slice A n c, .func (.func 37) #[] #[.pointer (some ⟨g + 1, 0, none⟩)], lnV A c xs x.1, undef, undef, undef], defers := [] }) ?assign ?body ?done ?stop
  case assign =>
    intro l x W KK hKK
    unfold encL
    gi_wp2
    refine cast (congrArg (fun t => KK { tmps := t, defers := [] } W) ?_) hKK
    simp
  case body =>
    intro l pre x W hC hlt
    have f0 : W.cell? ⟨g, 0, none⟩ = some (.int .i64 (pre.length : Int)) := hC.rn.cell 0
    have f1 : W.frozen? ⟨g, 0, none⟩ = false := hC.rn.fr 0
    have HCC := Lib.hid hC
    have hw1 : IntKind.i64.wrap ((pre.length : Int) + 1) = ((pre.length + 1 : Nat) : Int) := by have := HQ.out; rw [IntKind.wrap_i64]; omega
    obtain ⟨m, hm⟩ : ∃ m, pre.length = m := ⟨_, rfl⟩
    have HM := Lib.hid hm
    rw [hm] at f0 hw1
    obtain ⟨m1, hm1⟩ : ∃ m1, m + 1 = m1 := ⟨_, rfl⟩
    rw [hm1] at hw1
    have HM1 := Lib.hid hm1
    clear hC hm hm1 hlt
    gi_wp2
    refine ⟨KeepsOthers.setCell _ _ _, (Below.refl _ _).setCell (by show _ ≤ g; rw [HG.out]; exact Nat.le_refl _) _, (HCC.out.past.setCell (by show _ ≤ g; rw [HG.out]; exact Nat.le_refl _) _), ?_⟩
    have := HCC.out.rn.set 0 (.int .i64 (m1 : Int))
    rw [List.length_append, HM.out]
    show Row _ g _ #[.int .i64 ((m + 1 : Nat) : Int)]
    rw [HM1.out]
    exact this
  case done =>
    rintro D ys W hD rfl hC hK
    have f0 : W.cell? ⟨g, 0, none⟩ = some (.int .i64 ((nln xs : Nat) : Int)) := by
      have := hC.rn.cell 0
      rw [List.length_finRange] at this
      exact this
    have HCC := Lib.hid hC
    have HK := Lib.hid hK
    have HD := Lib.hid hD
    clear hC hK hD
    gi_wp2
    refine ⟨by simp, .inl ⟨_, _, rfl, run_takeDeferred HK.out, ?_⟩⟩
    refine ⟨_, results_tmp (fn := Tryz.f18) (t := 2) rfl _ _ _, ?_⟩
    exact ⟨rfl, past_put HCC.out.past (by have := HD.out; rw [HZ.out] at this; have := HG.out; omega)⟩
  case stop =>
    rintro D cc pre W hD _ h
    exact h.elim
end Go.Proofs.YtnnonidiogoffaaGreatDoor
