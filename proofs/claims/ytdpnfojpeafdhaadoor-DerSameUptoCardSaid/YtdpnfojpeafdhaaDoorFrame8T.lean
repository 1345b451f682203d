/- A tree of the reference that came in, opened. -/
import Derived.Test.YtdpnfojpeafdhaaDoorFrame8
import Derived.Deep.Slices
import Derived.ChangeSame
namespace Go.Proofs.YtdpnfojpeafdhaaDoor
open Go.RowKit Go.ChangeShapes Go.WideShapes Go.ChangeAt Go.Deep

theorem kNode : Tryd.prog.cellsOf 33 = 3 := by kernel_rfl
theorem kU8 : Tryd.prog.cellsOf 5 = 1 := by kernel_rfl
theorem kSl8 : Tryd.prog.cellsOf 22 = 1 := by kernel_rfl
theorem kSlN : Tryd.prog.cellsOf 31 = 1 := by kernel_rfl

theorem fields3f {H : Type} {enc : TypeId × Value → H} {P : Program} {w : World} {base : Nat} {sp : Nat → Bool} {hd : Bool} {fuel : Nat} {t : TypeId} {f0 f1 f2 : Field} {cs : List Value} {x : DataW H × List MemPlace}
    (hs : P.underlying t = some (.struct #[f0, f1, f2])) (hC : P.cellsOf t = 3) (o0 : f0.offset = 0) (k0 : P.cellsOf f0.type = 1) (o1 : f1.offset = 1) (k1 : P.cellsOf f1.type = 1) (o2 : f2.offset = 2) (k2 : P.cellsOf f2.type = 1) (h : DataW.trod enc P w base sp hd fuel t cs = some x) :
    ∃ (v0 v1 v2 : Value) (y0 y1 y2 : DataW H × List MemPlace) (n : Nat), fuel = n + 1 ∧ x.1 = .agg [y0.1, y1.1, y2.1] ∧ cs = [v0, v1, v2] ∧ DataW.trod enc P w base sp hd n f0.type [v0] = some y0 ∧ DataW.trod enc P w base sp hd n f1.type [v1] = some y1 ∧ DataW.trod enc P w base sp hd n f2.type [v2] = some y2 := by
  obtain ⟨xs, n, hn, hx, hl, hxl, hg⟩ := DataW.trod_struct hs h
  rw [hC] at hl
  match cs, hl, xs, hxl with
  | [c0, c1, c2], _, [y0, y1, y2], _ => exact ⟨c0, c1, c2, y0, y1, y2, n, hn, by rw [hx]; rfl, rfl, by simpa [o0, k0] using hg 0 f0 rfl, by simpa [o1, k1] using hg 1 f1 rfl, by simpa [o2, k2] using hg 2 f2 rfl⟩

theorem bulk_one {H : Type} (d : DataW H) : 1 ≤ Rows.uptoBulk d := by
  cases d with
  | lit l => cases l <;> simp [Rows.uptoBulk]
  | nil => simp [Rows.uptoBulk]
  | ptr d => simp [Rows.uptoBulk]
  | slice elems spare => simp [Rows.uptoBulk]
  | agg parts => simp [Rows.uptoBulk]
  | iface t d => simp [Rows.uptoBulk]
  | map entries => simp [Rows.uptoBulk]
  | held h => simp [Rows.uptoBulk]
theorem bulk_len {H : Type} (l : List (DataW H)) : l.length ≤ Rows.uptoBulkAll l := by
  induction l with
  | nil => simp [Rows.uptoBulkAll]
  | cons x r ih => have := bulk_one x; simp only [Rows.uptoBulkAll, List.length_cons]; omega
theorem bulk_append {H : Type} (l r : List (DataW H)) : Rows.uptoBulkAll (l ++ r) = Rows.uptoBulkAll l + Rows.uptoBulkAll r := by
  induction l with
  | nil => simp [Rows.uptoBulkAll]
  | cons x l ih => simp only [List.cons_append, Rows.uptoBulkAll, ih]; omega
theorem bulk_small {H : Type} {l : List (DataW H)} (hk : Rows.uptoSmall H l = true) : Rows.uptoBulkAll l ≤ 1048576 := of_decide_eq_true hk
theorem bulk_kids {H : Type} : ∀ (ds : List (DataW H)) (ks : List T) (a b : Nat), ks.length = ds.length → (∀ (i : Nat) (t : T) (d : DataW H), ks[i]? = some t → ds[i]? = some d → cnt t + wgt t ≤ Rows.uptoBulk d) → cntL ks a + wgtL ks b ≤ a + b + Rows.uptoBulkAll ds
  | [], [], a, b, _, _ => by simp [cntL, wgtL, Rows.uptoBulkAll]
  | d :: ds, k :: ks, a, b, hl, h => by
    have h1 := h 0 k d rfl rfl
    have h2 := bulk_kids ds ks (a + cnt k) (b + wgt k) (by simpa using hl) fun i t d' ht hd => h (i + 1) t d' (by simpa using ht) (by simpa using hd)
    simp only [cntL, wgtL, Rows.uptoBulkAll]
    omega
  | [], _ :: _, _, _, hl, _ => by simp at hl
  | _ :: _, [], _, _, hl, _ => by simp at hl

section
variable {H : Type} {enc : TypeId × Value → H} {W : World}
set_option maxRecDepth 100000 in
theorem tree_fuel : ∀ (fuel : Nat) (cs : List Value) (x : DataW H × List MemPlace), DataW.trod enc Tryd.prog W 0 (fun _ => true) true fuel 33 cs = some x → ∃ a b c t, cs = [a, b, c] ∧ InM W (.agg #[a, b, c]) t ∧ cnt t + wgt t ≤ Rows.uptoBulk x.1 := by
  intro fuel
  induction fuel using Nat.strongRecOn with
  | _ fuel ih =>
    intro cs x h
    obtain ⟨c0, c1, c2, y0, y1, y2, n, hn, hx, rfl, g0, g1, g2⟩ := fields3f Tryd.underlying33 kNode rfl kU8 rfl kSl8 rfl kSlN h
    obtain ⟨tg, e0, _, hw⟩ := DataW.trod_int Tryd.underlying5 g0
    simp at e0
    subst e0
    have hb := bounds_u8 hw
    obtain ⟨A, l, cap, bytes, e1, hS, hSb⟩ : ∃ A l cap bytes, c1 = .slice A l cap ∧ Sl W A l cap bytes ∧ bytes.length ≤ Rows.uptoBulk y1.1 := by
      rcases open_ints Tryd.underlying22 Tryd.underlying5 (by kernel_rfl) g1 with ⟨hcs, _⟩ | ⟨a, l, c, zs, hcs, _, hl, hm, hz, hx1, hcell, hwz⟩
      · simp at hcs
        exact ⟨none, 0, 0, [], hcs, Sl.nil W, Nat.zero_le _⟩
      · simp at hcs
        refine ⟨some a, l, c, _, hcs, Sl.of_row (.inr ⟨_, rfl, hl, hm, by simpa using hz, hcell, hwz⟩), ?_⟩
        rw [hx1]
        have h1 := bulk_len (lits (H := H) .u8 (zs.take l))
        simp only [Rows.uptoBulk]
        have h2 : (lits (H := H) .u8 (zs.take l)).length = (zs.take l).length := by simp [lits]
        omega
    subst e1
    rcases DataW.trod_slice Tryd.underlying31 g2 with ⟨hcs, _⟩ | ⟨a, len, cap2, elems, rest, n', hn', hcs, hx2, _, hle, hm, hlen, hel, _, _⟩
    · simp at hcs
      subst hcs
      refine ⟨_, _, _, _, rfl, leaf_in tg (by omega) hS, ?_⟩
      rw [hx]
      show cntL [] 1 + wgtL [] bytes.length ≤ _
      have h0 := bulk_one y0.1
      simp only [cntL, wgtL, Rows.uptoBulk, Rows.uptoBulkAll]
      omega
    · simp at hcs
      subst hcs
      have each : ∀ i, i < len → ∃ q : (Value × Value × Value) × T, W.cell? (a.add (i * 3)) = some q.1.1 ∧ W.cell? (a.add (i * 3 + 1)) = some q.1.2.1 ∧ W.cell? (a.add (i * 3 + 2)) = some q.1.2.2 ∧ InM W (.agg #[q.1.1, q.1.2.1, q.1.2.2]) q.2 ∧ ∀ y, elems[i]? = some y → cnt q.2 + wgt q.2 ≤ Rows.uptoBulk y.1 := by
        intro i hi
        have h1 := hel i hi
        rw [List.getElem?_eq_getElem (by omega)] at h1
        obtain ⟨cs', h2, h3⟩ := Option.bind_eq_some_iff.1 h1
        obtain ⟨x0, x1, x2, t, rfl, hin, hbk⟩ := ih n' (by omega) cs' _ h3
        rw [kNode] at h2
        obtain ⟨_, _, hcell⟩ := World.cells?_some h2
        have e0 := hcell 0 (by omega)
        have e1 := hcell 1 (by omega)
        have e2 := hcell 2 (by omega)
        rw [Go.Deep.add_add] at e0 e1 e2
        exact ⟨((x0, x1, x2), t), by simpa using e0, by simpa using e1, by simpa using e2, hin, fun y hy => by
            rw [List.getElem?_eq_getElem (by omega)] at hy
            rw [← Option.some.inj hy]
            exact hbk⟩
      obtain ⟨q, hq⟩ := choose_lt each
      refine ⟨_, _, _, .node tg bytes ((List.range len).map fun i => (q i).2), rfl, ?_, ?_⟩
      · refine .mk (fun i => (q i).1.1) (fun i => (q i).1.2.1) (fun i => (q i).1.2.2) (by omega) hS (by simp) hle hm (fun e => by cases e) (fun hn => ?_) fun i hi => ?_
        · obtain ⟨b, o, s⟩ := a
          obtain rfl : s = none := by
            have h := (hq 0 (by omega)).1
            simpa [Addr.add] using World.cell?_spot h
          refine ⟨b, o, rfl, fun i hi => ?_⟩
          obtain ⟨h1, h2, h3, _, _⟩ := hq i hi
          rw [add_none] at h1 h2 h3
          exact ⟨h1, by rw [Nat.add_assoc]; exact h2, by rw [Nat.add_assoc]; exact h3⟩
        · have : ((List.range len).map fun i => (q i).2).getD i default = (q i).2 := by simp [List.getD, hi]
          rw [this]
          exact (hq i hi).2.2.2.1
      · rw [hx]
        show cntL _ 1 + wgtL _ bytes.length ≤ _
        have h1 := bulk_kids (elems.map (·.1)) ((List.range len).map fun i => (q i).2) 1 bytes.length (by simp [hlen]) fun i t d ht hd => by
          rw [List.getElem?_map] at ht hd
          obtain ⟨j, hj, rfl⟩ := Option.map_eq_some_iff.1 ht
          obtain ⟨y, hy, rfl⟩ := Option.map_eq_some_iff.1 hd
          obtain ⟨h1, h2⟩ := List.getElem?_eq_some_iff.1 hj
          rw [List.getElem_range] at h2
          rw [List.length_range] at h1
          subst h2
          exact (hq _ h1).2.2.2.2 y hy
        have h0 := bulk_one y0.1
        rw [hx2]
        simp only [Rows.uptoBulk, Rows.uptoBulkAll]
        rw [hx2] at *
        omega
set_option maxRecDepth 100000 in
theorem tree_of {v : Value} {d : DataW H} {p : List MemPlace} {base : Nat} (hv : Value.okWide Tryd.prog W .any base 33 v) (h : DataW.Trod enc Tryd.prog W 0 (fun _ => true) true 33 v d p) :
    ∃ x y z t, v = .agg #[x, y, z] ∧ InM W (.agg #[x, y, z]) t ∧ cnt t + wgt t ≤ Rows.uptoBulk d := by
  obtain ⟨cs, rfl, hsz⟩ := okWide_struct Tryd.underlying33 hv
  obtain ⟨fuel, hf⟩ := h
  obtain ⟨a, b, c, t, hcs, hin, hbk⟩ := tree_fuel fuel _ _ hf
  have hcs' : cs = #[a, b, c] := by
    have h : cs.toList = [a, b, c] := hcs
    exact Array.toList_inj.1 h
  subst hcs'
  exact ⟨a, b, c, t, rfl, hin, hbk⟩
end

end Go.Proofs.YtdpnfojpeafdhaaDoor
