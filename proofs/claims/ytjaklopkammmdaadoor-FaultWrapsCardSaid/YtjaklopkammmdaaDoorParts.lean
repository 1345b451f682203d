/- Parts and Name at the fixed examples. -/
import Derived.Test.YtjaklopkammmdaaDoorErr3
import Derived.Test.YtjaklopkammmdaaDoorShelf
import Derived.Laws.AppendOwn
import Derived.Laws.AppendOwnNone
namespace Go.Proofs.YtjaklopkammmdaaDoor
open Go.RowKit

def der : ByteArray := ⟨#[100, 101, 114]⟩
/-- What Parts returns there: one part. -/
def OneDer (w : World) (e : Ending) (w' : World) : Prop := ∃ g c, e = .returned (.slice (some ⟨g, 0, none⟩) 1 c) ∧ w'.cell? ⟨g, 0, none⟩ = some (.string der) ∧ Past w w'

theorem info9 : (Tryd.prog.info? 9).map (fun i => (i.zero, i.size, i.bytes)) = some (some (.string ByteArray.empty), 1, 16) := by kernel_rfl

set_option maxHeartbeats 2000000 in
theorem parts_der (g1 g2 : Nat) (w : World) (hI : (Ch.shf g1 3 (.loc g2 der (.flt 6 7))).In w) :
    Calls Tryd.prog 16 #[(Ch.shf g1 3 (.loc g2 der (.flt 6 7))).val] w (OneDer w) := by
  have t1 := toLocShf (.pointer (some ⟨g1, 0, none⟩))
  have t2 := toLocLoc (.pointer (some ⟨g2, 0, none⟩))
  have t3 := toLocFault (.agg #[.int .i64 6, .int .i64 7])
  have t4 := toLocCode (.int .i64 6)
  have HI := Lib.hid hI
  have HN1 := Lib.hid (next_shf g1 3 (.loc g2 der (.flt 6 7)) w hI)
  clear hI
  simp only [valShf, valLoc] at HN1 ⊢
  go_enter Tryd.func16, Tryd.ntmps16
  go_wp2_with fail
  refine wp_loop_rounds 5 ?_
  rw [rounds_succ]
  go_wp2_with fail
  refine HN1.out.mono ?_
  rintro e w1 ⟨rfl, hp1⟩
  have HI1 := Lib.hid (HI.out.2.past hp1)
  have HP1 := Lib.hid hp1
  clear hp1 HN1
  go_wp2_with fail
  rw [rounds_succ]
  have hc := HI1.out.1.cell 0
  simp at hc
  go_wp2_with fail
  generalize (Question.appendCap 1 0 9).cut (w1.tape w1.drawn (Question.appendCap 1 0 9)) = cp
  have hpA : Past w1 ((w1.alloc (.cells #[.string der] 9)).alloc (.cells (#[.string der] ++ Builtin.zeroCells #[.string ⟨#[]⟩] (cp - 1)) 9)).drew :=
    Past.drewN (((Below.refl _ _).alloc (Nat.le_refl _) _).alloc (by simp) _) 1
  have hcA : ((w1.alloc (.cells #[.string der] 9)).alloc (.cells (#[.string der] ++ Builtin.zeroCells #[.string ⟨#[]⟩] (cp - 1)) 9)).drew.cell? ⟨w1.heap.size + 1, 0, none⟩ = some (.string der) := by
    have h := (Row.new (w1.alloc (.cells #[.string der] 9)) 9 (#[.string der] ++ Builtin.zeroCells #[.string ⟨#[]⟩] (cp - 1))).cell 0
    rw [World.size_alloc] at h
    refine Eq.trans h ?_
    rw [Array.getElem?_append_left (by simp)]
    rfl
  generalize ((w1.alloc (.cells #[.string der] 9)).alloc (.cells (#[.string der] ++ Builtin.zeroCells #[.string ⟨#[]⟩] (cp - 1)) 9)).drew = w2 at hpA hcA ⊢
  have HP2 := Lib.hid (HP1.out.trans' hpA)
  have HC2 := Lib.hid hcA
  have HI2 : Hid ((Ch.loc g2 der (.flt 6 7)).In w2) := HI1.out.past hpA
  generalize w1.heap.size + 1 = gb at HC2 ⊢
  clear hpA hcA hc HI1 HP1
  refine (next_loc g2 der (.flt 6 7) w2 HI2.out).mono ?_
  rintro e w3 ⟨rfl, hp⟩
  have HP3 := Lib.hid (HP2.out.trans' hp)
  have HC3 := Lib.hid ((hp.cell (cell_lt HC2.out)).trans HC2.out)
  clear hp HP2 HC2
  simp only [valFlt]
  go_wp2_with fail
  rw [rounds_succ]
  go_wp2_with fail
  refine (next_flt 6 7 w3).mono ?_
  rintro e w4 ⟨rfl, hp⟩
  have HP4 := Lib.hid (HP3.out.trans' hp)
  have HC4 := Lib.hid ((hp.cell (cell_lt HC3.out)).trans HC3.out)
  clear hp HP3 HC3
  simp only [valCode]
  go_wp2_with fail
  rw [rounds_succ]
  go_wp2_with fail
  refine (next_code 6 w4).mono ?_
  rintro e w5 ⟨rfl, hp⟩
  have HP5 := Lib.hid (HP4.out.trans' hp)
  have HC5 := Lib.hid ((hp.cell (cell_lt HC4.out)).trans HC4.out)
  clear hp HP4 HC4
  go_wp2_with fail
  rw [rounds_succ]
  go_wp2_with fail
  go_ret
  exact ⟨gb, _, rfl, HC5.out, HP5.out⟩

/-- The names of the codes lie in the variable that the readers of names take. -/
def Names (w : World) : Prop := w.cell? ⟨1, 6, none⟩ = some (.string ⟨#[108, 101, 110, 103, 116, 104]⟩)
theorem Names.past {w w' : World} (h : Names w) (hp : Past w w') : Names w' := (hp.cell (cell_lt h)).trans h
theorem name_six (w : World) (h : Names w) : Calls Tryd.prog 17 #[.int .i64 6] w fun e w' => e = .returned (.string ⟨#[108, 101, 110, 103, 116, 104]⟩) ∧ w = w' := by
  unfold Names at h
  go_enter Tryd.func17, Tryd.ntmps17
  go_wp2
  go_ret
  exact ⟨rfl, rfl⟩

end Go.Proofs.YtjaklopkammmdaaDoor
