/- The reference's Few and Valid. -/
import Derived.Test.YtdpnfojpeafdhaaDoorRef8E
namespace Go.Proofs.YtdpnfojpeafdhaaDoor
open Go.RowKit

def fewB (t : T) : Bool := decide (dep t ≤ 20 ∧ cnt t ≤ 200 ∧ wgt t ≤ 5000)
set_option maxHeartbeats 1000000 in
theorem rfew_any {w0 : World} {x y z : Value} {t : T} (h : InM w0 (.agg #[x, y, z]) t) (w : World) (hw : Past w0 w) (hn : cnt t ≤ 1000000000) (hg : wgt t ≤ 1000000000) :
    Calls Tryd.prog 14 #[.agg #[x, y, z]] w fun e w' => e = .returned (.bool (fewB t)) ∧ Past w w' := by
  have HD := Lib.hid (fun w1 (hp : Past w0 w1) => rdepth_any h w1 hp hn)
  have HC := Lib.hid (fun w1 (hp : Past w0 w1) => rcount_any h w1 hp hn)
  have HG := Lib.hid (fun w1 (hp : Past w0 w1) => rweight_any h w1 hp hn hg)
  have HR : Hid (Past w (w.alloc (.cells #[x, y, z] 33)) ∧ Row (w.alloc (.cells #[x, y, z] 33)) w.heap.size 33 #[x, y, z]) := ⟨past_alloc8 _ _, Row.new _ _ _⟩
  have HW := Lib.hid hw
  have a0 := HR.out.2.cell 0
  have a1 := HR.out.2.cell 1
  have a2 := HR.out.2.cell 2
  simp at a0 a1 a2
  have hFB : Hid (fewB t = decide (dep t ≤ 20 ∧ cnt t ≤ 200 ∧ wgt t ≤ 5000)) := rfl
  clear h hw hn hg
  generalize dep t = dd at *
  generalize cnt t = cc at *
  generalize wgt t = gg at *
  by_cases c1 : dd ≤ 20
  · have c1i : (dd : Int) ≤ 20 := by omega
    by_cases c2 : cc ≤ 200
    · have c2i : (cc : Int) ≤ 200 := by omega
      have hF : Hid (fewB t = decide ((gg : Int) ≤ 5000)) := by
        show _ = _
        rw [hFB.out]
        exact decide_eq_decide.2 ⟨fun h => by omega, fun h => ⟨c1, c2, by omega⟩⟩
      clear c1 c2
      go_enter Tryd.func14, Tryd.ntmps14
      go_wp2_with fail
      refine (HD.out _ (HW.out.trans' HR.out.1)).mono ?_
      rintro e w1 ⟨rfl, hp⟩
      have H1 : Hid (Past w w1 ∧ Row w1 w.heap.size 33 #[x, y, z]) := ⟨HR.out.1.trans' hp, HR.out.2.past hp⟩
      clear hp
      have b0 := H1.out.2.cell 0
      have b1 := H1.out.2.cell 1
      have b2 := H1.out.2.cell 2
      simp at b0 b1 b2
      go_wp2_with fail
      refine (HC.out _ (HW.out.trans' H1.out.1)).mono ?_
      rintro e w2 ⟨rfl, hp⟩
      have H2 : Hid (Past w w2 ∧ Row w2 w.heap.size 33 #[x, y, z]) := ⟨H1.out.1.trans' hp, H1.out.2.past hp⟩
      clear hp
      have d0 := H2.out.2.cell 0
      have d1 := H2.out.2.cell 1
      have d2 := H2.out.2.cell 2
      simp at d0 d1 d2
      go_wp2_with fail
      refine (HG.out _ (HW.out.trans' H2.out.1)).mono ?_
      rintro e w3 ⟨rfl, hp⟩
      have H3 := Lib.hid (H2.out.1.trans' hp)
      clear hp
      go_wp2_with fail
      go_ret
      exact ⟨by rw [hF.out]; simp, H3.out⟩
    · have c2i : ¬ (cc : Int) ≤ 200 := by omega
      have c2b : decide ((cc : Int) ≤ 200) = false := decide_eq_false c2i
      have hF : Hid (fewB t = false) := by
        show _ = _
        rw [hFB.out]
        exact decide_eq_false fun h => c2 h.2.1
      clear c1 c2
      go_enter Tryd.func14, Tryd.ntmps14
      go_wp2_with fail
      refine (HD.out _ (HW.out.trans' HR.out.1)).mono ?_
      rintro e w1 ⟨rfl, hp⟩
      have H1 : Hid (Past w w1 ∧ Row w1 w.heap.size 33 #[x, y, z]) := ⟨HR.out.1.trans' hp, HR.out.2.past hp⟩
      clear hp
      have b0 := H1.out.2.cell 0
      have b1 := H1.out.2.cell 1
      have b2 := H1.out.2.cell 2
      simp at b0 b1 b2
      go_wp2_with fail
      refine (HC.out _ (HW.out.trans' H1.out.1)).mono ?_
      rintro e w2 ⟨rfl, hp⟩
      have H2 := Lib.hid (H1.out.1.trans' hp)
      clear hp
      go_wp2_with fail
      go_ret
      exact ⟨by rw [hF.out]; rfl, H2.out⟩
  · have c1i : ¬ (dd : Int) ≤ 20 := by omega
    have hF : Hid (fewB t = false) := by
      show _ = _
      rw [hFB.out]
      exact decide_eq_false fun h => c1 h.1
    clear c1
    go_enter Tryd.func14, Tryd.ntmps14
    go_wp2_with fail
    refine (HD.out _ (HW.out.trans' HR.out.1)).mono ?_
    rintro e w1 ⟨rfl, hp⟩
    have H1 := Lib.hid (HR.out.1.trans' hp)
    clear hp
    go_wp2_with fail
    go_ret
    exact ⟨by rw [hF.out]; rfl, H1.out⟩

end Go.Proofs.YtdpnfojpeafdhaaDoor
