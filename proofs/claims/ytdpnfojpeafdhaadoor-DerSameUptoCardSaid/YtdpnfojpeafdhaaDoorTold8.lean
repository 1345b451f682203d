/- The law's own functions on errors: code and told, at a fault of package api. -/
import Derived.Test.YtdpnfojpeafdhaaDoorErr10
namespace Go.Proofs.YtdpnfojpeafdhaaDoor
open Go.RowKit

theorem lcode_flt (c a : Int) (w : World) (hG : Glob w) : Calls Tryd.prog 18 #[(Ch.flt c a).val] w fun e w' => e = .returned (.int .i64 c) ∧ Past w w' := by
  have H := Lib.hid (code_any (.flt c a) w trivial hG)
  clear hG
  simp only [valFlt] at H ⊢
  go_enter Tryd.func18, Tryd.ntmps18
  go_wp2_with fail
  refine H.out.mono ?_
  rintro e w1 ⟨rfl, hp⟩
  have HP := Lib.hid hp
  clear hp H
  go_wp2_with fail
  go_ret
  exact ⟨rfl, HP.out⟩

theorem lcode_code (c : Int) (w : World) (hG : Glob w) : Calls Tryd.prog 18 #[(Ch.code c).val] w fun e w' => e = .returned (.int .i64 c) ∧ Past w w' := by
  have H := Lib.hid (code_any (.code c) w trivial hG)
  clear hG
  simp only [valCode] at H ⊢
  go_enter Tryd.func18, Tryd.ntmps18
  go_wp2_with fail
  refine H.out.mono ?_
  rintro e w1 ⟨rfl, hp⟩
  have HP := Lib.hid hp
  clear hp H
  go_wp2_with fail
  go_ret
  exact ⟨rfl, HP.out⟩

theorem ltold_flt (c a : Int) (w : World) (hG : Glob w) (ha : -1099511627776 ≤ a ∧ a ≤ 1099511627776) :
    Calls Tryd.prog 10 #[(Ch.flt c a).val, .int .i64 c, .int .i64 a] w fun e w' => e = .returned (.bool true) ∧ Past w w' := by
  have H := Lib.hid (at_any (.flt c a) w trivial hG)
  have HC := Lib.hid (fun w hG => lcode_flt c a w hG)
  have HG := Lib.hid hG
  have e : atVal (.flt c a) = .tuple #[.int .i64 a, .bool true] := by
    show Value.tuple #[.int .i64 (wrap64 (a + 0)), .bool true] = _
    rw [Int.add_zero, show wrap64 a = a by unfold wrap64; omega]
  rw [e] at H
  clear e hG ha
  simp only [valFlt] at H HC ⊢
  go_enter Tryd.func10, Tryd.ntmps10
  go_wp2_with fail
  refine H.out.mono ?_
  rintro e w1 ⟨rfl, hp⟩
  have HP := Lib.hid hp
  clear hp H
  go_wp2_with fail
  refine (HC.out _ (HG.out.past HP.out)).mono ?_
  rintro e w2 ⟨rfl, hp⟩
  have HP2 := Lib.hid (HP.out.trans' hp)
  clear hp HC HP
  go_wp2_with fail
  go_ret
  exact ⟨rfl, HP2.out⟩

end Go.Proofs.YtdpnfojpeafdhaaDoor
