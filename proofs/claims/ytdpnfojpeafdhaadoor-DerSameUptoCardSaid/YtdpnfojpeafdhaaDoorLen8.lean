/- A bound on the length of the encoding of a tree. -/
import Derived.Test.YtdpnfojpeafdhaaDoorRef8G
namespace Go.Proofs.YtdpnfojpeafdhaaDoor
open Go.RowKit

theorem lenB_le (l : Nat) (h : l < 4294967296) : (lenB l).length ≤ 5 := by
  unfold lenB
  split
  · simp
  · have := numB_le 4 l (by simpa using h)
    simp only [List.length_cons]
    omega
theorem wgt_le_L (ks : List T) (k : T) (W : Nat) : W ≤ wgtL (k :: ks) W := wgtL_le _ _
mutual
theorem txt_len : ∀ t : T, wgt t + 6 * cnt t < 4294967296 → (txt t).length ≤ wgt t + 6 * cnt t
  | .node tag bs ks, h => by
    have e : cntL ks 1 = cntL ks 0 + 1 := cntL_add ks 0 1
    simp only [wgt, cnt] at h
    have hl := txtL_len ks bs bs.length 0 (by omega) (by omega)
    have hb := lenB_le (txtL ks bs).length (by omega)
    simp only [txt, headB, wgt, cnt, List.length_cons, List.length_append]
    omega
theorem txtL_len : ∀ (ks : List T) (a : List Int) (W C : Nat), a.length ≤ W + 6 * C → wgtL ks W + 6 * cntL ks C < 4294967296 → (txtL ks a).length ≤ wgtL ks W + 6 * cntL ks C
  | [], a, W, C, h, _ => by simpa [txtL, wgtL, cntL] using h
  | k :: ks, a, W, C, h, hb => by
    simp only [wgtL, cntL] at hb
    have h1 := wgtL_le ks (W + wgt k)
    have h2 := cntL_le ks (C + cnt k)
    have hk := txt_len k (by omega)
    simp only [txtL, wgtL, cntL]
    exact txtL_len ks (a ++ txt k) (W + wgt k) (C + cnt k) (by rw [List.length_append]; omega) hb
end
theorem few_txt {t : T} (h : fewB t = true) : (txt t).length ≤ 10000 := by
  have h := of_decide_eq_true h
  have := txt_len t (by omega)
  omega

end Go.Proofs.YtdpnfojpeafdhaaDoor
