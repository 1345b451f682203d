/- A list of polynomials that a function returns one by one. -/
import Derived.Test.YtalhdalmafhofaaGreatDoorRow16
namespace Go.Proofs.YtalhdalmafhofaaGreatDoor
open Go.RowKit
set_option maxRecDepth 100000
set_option linter.unusedVariables false

/-- The cells of the first n polynomials. -/
def cellsP (F : Nat → Nat → Int) : Nat → List Value
  | 0 => []
  | n + 1 => cellsP F n ++ lst (F n)
/-- A polynomial that a function makes: any, but its coefficients are of 16 bits. -/
def MkP (w : World) (e : Ending) (w' : World) : Prop := ∃ F : Nat → Int, e = .returned (.agg (arr .u16 256 F)) ∧ R16 F ∧ Past w w'
/-- A list of n polynomials of the call's own. -/
def RowsP (base : Nat) (w : World) (v : Value) (n : Nat) : Prop := ∃ F : Nat → Nat → Int, (∀ i, R16 (F i)) ∧ w.ownsRow base 30 256 v n (cellsP F n)
theorem cellsP_congr {F G : Nat → Nat → Int} (n : Nat) (h : ∀ i, i < n → F i = G i) : cellsP F n = cellsP G n := by
  induction n with
  | zero => rfl
  | succ n ih => rw [cellsP, cellsP, ih fun i hi => h i (by omega), h n (by omega)]
theorem R16_lst (F : Nat → Int) : lst F = lst F := rfl
set_option maxHeartbeats 2000000 in
theorem rowOf_any (k : Nat) (f : FuncId) (more : Array Value) (w : World) (hk : k ≤ 9)
    (hent : ∀ args w, (callFunc f args).run Tryz.prog w = .ok (.enter f args) w)
    (hf : ∀ i : Nat, i < k → ∀ w', Past w w' → Calls Tryz.prog f (#[.int .i64 (i : Int)] ++ more) w' (MkP w')) :
    Calls Tryz.prog 27 #[.int .i64 (k : Int), .func (.func f) #[] more] w fun r w' => ∃ v, r = .returned v ∧ RowsP w.heap.size w' v k ∧ Past w w' := by
  obtain ⟨b, hb⟩ : ∃ b, w.heap.size = b := ⟨_, rfl⟩
  obtain ⟨w1, hw1⟩ : ∃ w', w.alloc (.cells #[.slice none 0 0] 82) = w' := ⟨_, rfl⟩
  have hp1 : Past w w1 := by rw [← hw1]; exact (Below.refl _ _).alloc (Nat.le_refl _) _
  have hr1 : Row w1 b 82 #[.slice none 0 0] := by rw [← hw1, ← hb]; exact Row.new _ _ _
  have hn1 : w1.ownsRow w.heap.size 30 256 (.slice none 0 0) 0 [] := World.ownsRow_nil _ _ _ _
  have H0 : Hid (∃ v F, (∀ i, R16 (F i)) ∧ Row w1 b 82 #[v] ∧ w1.ownsRow w.heap.size 30 256 v 0 (cellsP F 0) ∧ Past w w1) := Lib.hid ⟨_, fun _ _ => 0, fun _ _ => by simp, hr1, hn1, hp1⟩
  have HK := Lib.hid hk
  have HF := Lib.hid hf
  have HB := Lib.hid hb
  have HW1 := Lib.hid hw1
  have hgr : ∀ args w, (callFunc 42 args).run Tryz.prog w = .ok (.enter 42 args) w := enters_of Tryz.func42 (by kernel_rfl) rfl
  clear hp1 hr1 hn1 hw1 hf hk
  go_enter Tryz.func27, Tryz.ntmps27
  go_wp2_with fail
  rw [HW1.out]
  try rw [hb]
  clear HW1 hb
  go_loopg [10] k (fun q s10 wx => ∃ i : Nat, i ≤ k ∧ q = k - i ∧ s10 = .int .i64 (i : Int) ∧ Hid (∃ v F, (∀ i, R16 (F i)) ∧ Row wx b 82 #[v] ∧ wx.ownsRow w.heap.size 30 256 v i (cellsP F i) ∧ Past w wx))
  case atStart => exact ⟨0, Nat.zero_le _, rfl, rfl, H0⟩
  case round =>
    clear H0
    obtain ⟨i, hi, hq, rfl, HI⟩ := hrel
    have HGQ := Lib.hid hq
    clear hq
    have hi0 : (0 : Int) ≤ (i : Int) := by omega
    obtain ⟨v, F, hF, hrb, hown, hpw⟩ := HI.out
    by_cases hlt : i < k
    · have hii : (i : Int) < (k : Int) := by omega
      have HLT := Lib.hid hlt
      have HFF := Lib.hid (And.intro hF (And.intro hrb (And.intro hown hpw)))
      have HC := Lib.hid (HF.out i hlt wr hpw)
      have HNI : Hid (wrap64 ((i : Int) + 1) = ((i + 1 : Nat) : Int)) := Lib.hid (by have := HK.out; rw [IntWalk.wrap64_in _ (by omega)]; omega)
      clear hF hrb hown hpw hlt hi HI
      go_wp2_with fail
      refine HC.out.mono ?_
      rintro r w2 ⟨G, rfl, hG, hp2⟩
      obtain ⟨hF, hrb, hown, hpw⟩ := HFF.out
      have HGW := Lib.hid (grow_any b i v w.heap.size _ G w2 (hrb.past hp2) (own_past15 hown hp2) (by have := HB.out; omega) (by have := HK.out; have := HLT.out; omega))
      have HP2 : Hid (Past w w2) := Lib.hid (hpw.trans' hp2)
      have HGR := Lib.hid hG
      have HFR := Lib.hid hF
      clear hG hp2 hF hrb hown hpw HFF HC
      generalize arr .u16 256 G = cG at *
      go_wp2_with fail
      refine HGW.out.mono ?_
      rintro r w3 ⟨rfl, v', hrb, hown, hbel⟩
      have HI2 : Hid (∃ v F, (∀ i, R16 (F i)) ∧ Row w3 b 82 #[v] ∧ w3.ownsRow w.heap.size 30 256 v (i + 1) (cellsP F (i + 1)) ∧ Past w w3) := Lib.hid (by
        refine ⟨v', fun j => if j = i then G else F j, fun j => ?_, hrb, ?_, Below.trans HP2.out hbel⟩
        · show R16 (if j = i then G else F j)
          by_cases e : j = i
          · rw [if_pos e]; exact HGR.out
          · rw [if_neg e]; exact HFR.out j
        · rw [cellsP, if_pos rfl, cellsP_congr (G := F) i fun j hj => if_neg (by omega)]
          exact hown)
      clear hrb hown hbel HGW HP2
      go_wp2_with fail
      go_roundg (k - (i + 1))
      case rel => exact ⟨i + 1, HLT.out, rfl, by first | exact congrArg (Value.int .i64) HNI.out | go_num, HI2⟩
      case measure => have := HGQ.out; have := HLT.out; omega
    · obtain rfl : i = k := by omega
      have hii : ¬ (i : Int) < (i : Int) := by omega
      obtain ⟨A, c, rfl⟩ := own_slice hown
      have kb := hrb.cell 0
      have HE : Hid (RowsP w.heap.size wr (.slice A i c) i ∧ Past w wr) := Lib.hid ⟨⟨F, hF, hown⟩, hpw⟩
      clear hF hrb hown hpw hlt hi HI
      go_wp2_with fail
      go_ret
      exact ⟨.slice A i c, rfl, HE.out⟩
end Go.Proofs.YtalhdalmafhofaaGreatDoor
