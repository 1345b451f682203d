/- The fixed results that the law asks for first: the contract of awake. -/
import Derived.Test.YtjaklopkammmdaaDoorParts
import Derived.Test.YtjaklopkammmdaaDoorErr10
import Derived.Test.YtjaklopkammmdaaDoorBuild
namespace Go.Proofs.YtjaklopkammmdaaDoor
open Go.RowKit

/-- What the law needs of the variables of the program and of the library. -/
structure Vars (T : Nat → Int) (w : World) : Prop where
  glob : Glob w
  tab : Tab T w
  names : Names w
theorem Vars.past {T : Nat → Int} {w w' : World} (h : Vars T w) (hp : Past w w') : Vars T w' := ⟨h.glob.past hp, h.tab.past hp, h.names.past hp⟩

def derErr : ByteArray := ⟨#[100, 101, 114, 58, 32, 101, 114, 114, 111, 114, 32, 54]⟩
theorem text_der (T : Nat → Int) (g : Nat) : (Ch.loc g der (.flt 6 7)).text T = derErr := by
  have h : itS T 6 = ⟨#[54]⟩ := by
    unfold itS
    rw [if_pos (by decide)]
    have e : Lib.decDigits 6 = [54] := by decide +kernel
    show (⟨(Lib.decDigits 6).toArray⟩ : ByteArray) = _
    rw [e]
  show (der ++ ⟨#[58, 32]⟩) ++ (errW ++ itS T 6) = derErr
  rw [h]
  decide +kernel
theorem derErr_eq : derErr.toList = [100, 101, 114, 58, 32, 101, 114, 114, 111, 114, 32, 54] := by decide +kernel

set_option maxHeartbeats 4000000 in
theorem awake_any (T : Nat → Int) (w : World) (hV : Vars T w) : Calls Tryd.prog 4 #[] w fun e w' => e = .returned (.bool true) ∧ Past w w' := by
  have HV := Lib.hid hV
  clear hV
  go_enter Tryd.func4, Tryd.ntmps4
  go_wp2_with fail
  refine (new_any 6 7 _).mono ?_
  rintro e w1 ⟨rfl, hp⟩
  have HP := Lib.hid hp
  replace HV := Lib.hid (HV.out.past hp)
  clear hp
  go_wp2_with fail
  refine (in_any der (.flt 6 7) _ trivial).mono ?_
  rintro e w2 ⟨g1, rfl, hi, hp⟩
  have HI := Lib.hid hi
  replace HP := Lib.hid (HP.out.trans' hp)
  replace HV := Lib.hid (HV.out.past hp)
  clear hp hi
  simp only [valLoc]
  go_wp2_with fail
  refine (shift_any 3 (.loc g1 der (.flt 6 7)) _ HI.out).mono ?_
  rintro e w3 ⟨g2, rfl, hi, hp⟩
  have HJ := Lib.hid hi
  replace HI := Lib.hid (HI.out.past hp)
  replace HP := Lib.hid (HP.out.trans' hp)
  replace HV := Lib.hid (HV.out.past hp)
  clear hp hi
  simp only [valShf]
  go_wp2_with fail
  refine (code_any (.shf g2 3 (.loc g1 der (.flt 6 7))) _ HJ.out HV.out.glob).mono ?_
  rintro e w4 ⟨rfl, hp⟩
  replace HI := Lib.hid (HI.out.past hp)
  replace HJ := Lib.hid (HJ.out.past hp)
  replace HP := Lib.hid (HP.out.trans' hp)
  replace HV := Lib.hid (HV.out.past hp)
  clear hp
  rw [show (Ch.shf g2 3 (.loc g1 der (.flt 6 7))).cd = 6 from rfl]
  go_wp2_with fail
  refine (at_any (.shf g2 3 (.loc g1 der (.flt 6 7))) _ HJ.out HV.out.glob).mono ?_
  rintro e w5 ⟨rfl, hp⟩
  replace HI := Lib.hid (HI.out.past hp)
  replace HJ := Lib.hid (HJ.out.past hp)
  replace HP := Lib.hid (HP.out.trans' hp)
  replace HV := Lib.hid (HV.out.past hp)
  clear hp
  rw [show atVal (.shf g2 3 (.loc g1 der (.flt 6 7))) = .tuple #[.int .i64 10, .bool true] by simp [atVal, Ch.base, Ch.acc, wrap64]]
  go_wp2_with fail
  refine (code_nil _).mono ?_
  rintro e w6 ⟨rfl, hp⟩
  replace HI := Lib.hid (HI.out.past hp)
  replace HJ := Lib.hid (HJ.out.past hp)
  replace HP := Lib.hid (HP.out.trans' hp)
  replace HV := Lib.hid (HV.out.past hp)
  clear hp
  have n1 := fun n w => neLoc n w ⟨g1, 0, none⟩
  have m1 := fun n w => meLoc n w ⟨g1, 0, none⟩
  have n2 := fun n w => neShf n w ⟨g2, 0, none⟩
  have m2 := fun n w => meShf n w ⟨g2, 0, none⟩
  have hok : (Ch.loc g1 der (.flt 6 7)).ok := ⟨by decide, by decide, by decide⟩
  have HT1 := Lib.hid (fun W hI hT => text_any T (.loc g1 der (.flt 6 7)) W hI hT hok (by simp [Ch.depth]))
  have HT2 := Lib.hid (fun W hI hT => text_any T (.shf g2 3 (.loc g1 der (.flt 6 7))) W hI hT hok (by simp [Ch.depth]))
  clear hok
  go_wp2_with fail
  refine (HT1.out _ HI.out HV.out.tab).mono ?_
  rintro e w7 ⟨rfl, hp⟩
  replace HJ := Lib.hid (HJ.out.past hp)
  replace HP := Lib.hid (HP.out.trans' hp)
  replace HV := Lib.hid (HV.out.past hp)
  clear hp
  rw [text_der]
  have q1 := derErr_eq
  go_wp2_with fail
  refine (HT2.out _ HJ.out HV.out.tab).mono ?_
  rintro e w8 ⟨rfl, hp⟩
  replace HJ := Lib.hid (HJ.out.past hp)
  replace HP := Lib.hid (HP.out.trans' hp)
  replace HV := Lib.hid (HV.out.past hp)
  clear hp
  rw [show (Ch.shf g2 3 (.loc g1 der (.flt 6 7))).text T = derErr from text_der T g1]
  go_wp2_with fail
  refine (parts_der g2 g1 _ HJ.out).mono ?_
  rintro e w9 ⟨gp, cp, rfl, hcp, hp⟩
  have HC := Lib.hid hcp
  replace HP := Lib.hid (HP.out.trans' hp)
  replace HV := Lib.hid (HV.out.past hp)
  clear hp hcp
  go_wp2_with fail
  have hp : Past w9 (w9.alloc (.cells #[.string ⟨#[100, 101, 114]⟩] 9)) := (Below.refl _ _).alloc (Nat.le_refl _) _
  have hq := Tryd.slices_Equal_string gp 0 1 cp w9.heap.size 0 1 1 [der] [der] (w9.alloc (.cells #[.string ⟨#[100, 101, 114]⟩] 9)) (by simp) (by simp) (by omega) (by omega)
    (fun j hj => by
      obtain rfl : j = 0 := by simpa using hj
      exact (hp.cell (cell_lt HC.out)).trans HC.out)
    (fun j hj => by
      obtain rfl : j = 0 := by simpa using hj
      exact (Row.new w9 _ _).cell 0)
  rw [show decide (([der] : List ByteArray).take 1 = [der].take 1) = true from by simp] at hq
  have HQ := Lib.hid hq
  replace HP := Lib.hid (HP.out.trans' hp)
  replace HV := Lib.hid (HV.out.past hp)
  clear hp hq HC
  refine HQ.out.mono ?_
  rintro e w' ⟨rfl, m, rfl⟩
  replace HP := Lib.hid (HP.out.drewN m)
  have HNM : Hid (Names ((w9.alloc (.cells #[.string ⟨#[100, 101, 114]⟩] 9)).drewN m)) := HV.out.names
  clear HQ HV
  go_wp2_with fail
  refine (name_six _ HNM.out).mono ?_
  rintro e w' ⟨rfl, rfl⟩
  go_wp2_with fail
  refine (in_nil _ _).mono ?_
  rintro e w' ⟨rfl, rfl⟩
  go_wp2_with fail
  refine (shift_nil _ _).mono ?_
  rintro e w' ⟨rfl, rfl⟩
  go_wp2_with fail
  go_ret
  exact ⟨rfl, HP.out⟩

end Go.Proofs.YtjaklopkammmdaaDoor
