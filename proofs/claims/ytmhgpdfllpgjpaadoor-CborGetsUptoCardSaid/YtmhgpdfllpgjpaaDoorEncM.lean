/- A tree of the reference that came in, opened. What the laws about trees share. -/
import Derived.Test.YtmhgpdfllpgjpaaDoorFrame10
import Derived.Deep.Slices
import Derived.ChangeSame
import Derived.Test.YtmhgpdfllpgjpaaDoorGivM
import Derived.Test.YtmhgpdfllpgjpaaDoorC10P
import Derived.Test.YtmhgpdfllpgjpaaDoorC10MC
import Derived.Test.YtmhgpdfllpgjpaaDoorRef10L
import Derived.Test.YtmhgpdfllpgjpaaDoorRd10E
import Derived.Deep.RegionHeld3
namespace Go.Proofs.YtmhgpdfllpgjpaaDoor
open Go.RowKit Go.ChangeShapes Go.WideShapes Go.ChangeAt Go.Deep

theorem kNode : Tryd.prog.cellsOf 34 = 4 := by kernel_rfl
theorem kI : Tryd.prog.cellsOf 3 = 1 := by kernel_rfl
theorem kU64 : Tryd.prog.cellsOf 24 = 1 := by kernel_rfl
theorem kSl8 : Tryd.prog.cellsOf 22 = 1 := by kernel_rfl
theorem kSlN : Tryd.prog.cellsOf 32 = 1 := by kernel_rfl

theorem fields4f {H : Type} {enc : TypeId × Value → H} {P : Program} {w : World} {base : Nat} {sp : Nat → Bool} {hd : Bool} {fuel : Nat} {t : TypeId} {f0 f1 f2 f3 : Field} {cs : List Value} {x : DataW H × List MemPlace}
    (hs : P.underlying t = some (.struct #[f0, f1, f2, f3])) (hC : P.cellsOf t = 4) (o0 : f0.offset = 0) (k0 : P.cellsOf f0.type = 1) (o1 : f1.offset = 1) (k1 : P.cellsOf f1.type = 1) (o2 : f2.offset = 2) (k2 : P.cellsOf f2.type = 1) (o3 : f3.offset = 3) (k3 : P.cellsOf f3.type = 1) (h : DataW.trod enc P w base sp hd fuel t cs = some x) :
    ∃ (v0 v1 v2 v3 : Value) (y0 y1 y2 y3 : DataW H × List MemPlace) (n : Nat), fuel = n + 1 ∧ x.1 = .agg [y0.1, y1.1, y2.1, y3.1] ∧ cs = [v0, v1, v2, v3] ∧ DataW.trod enc P w base sp hd n f0.type [v0] = some y0 ∧ DataW.trod enc P w base sp hd n f1.type [v1] = some y1 ∧ DataW.trod enc P w base sp hd n f2.type [v2] = some y2 ∧ DataW.trod enc P w base sp hd n f3.type [v3] = some y3 := by
  obtain ⟨xs, n, hn, hx, hl, hxl, hg⟩ := DataW.trod_struct hs h
  rw [hC] at hl
  match cs, hl, xs, hxl with
  | [c0, c1, c2, c3], _, [y0, y1, y2, y3], _ => exact ⟨c0, c1, c2, c3, y0, y1, y2, y3, n, hn, by rw [hx]; rfl, rfl, by simpa [o0, k0] using hg 0 f0 rfl, by simpa [o1, k1] using hg 1 f1 rfl, by simpa [o2, k2] using hg 2 f2 rfl, by simpa [o3, k3] using hg 3 f3 rfl⟩

theorem bulk_one {H : Type} (d : DataW H) : 1 ≤ Rows.uptoBulk d := by
  cases d with
  | lit l => cases l <;> simp [Rows.uptoBulk]
  | nil => simp [Rows.uptoBulk]
  | ptr d => simp [Rows.uptoBulk]
  | slice elems spare => simp [Rows.uptoBulk]
  | agg parts => simp [Rows.uptoBulk]
  | iface t d => simp [Rows.uptoBulk]
  | map entries => simp [Rows.uptoBulk]
  | held h => simp [Rows.uptoBulk]
theorem bulk_len {H : Type} (l : List (DataW H)) : l.length ≤ Rows.uptoBulkAll l := by
  induction l with
  | nil => simp [Rows.uptoBulkAll]
  | cons x r ih => have := bulk_one x; simp only [Rows.uptoBulkAll, List.length_cons]; omega
theorem bulk_append {H : Type} (l r : List (DataW H)) : Rows.uptoBulkAll (l ++ r) = Rows.uptoBulkAll l + Rows.uptoBulkAll r := by
  induction l with
  | nil => simp [Rows.uptoBulkAll]
  | cons x l ih => simp only [List.cons_append, Rows.uptoBulkAll, ih]; omega
theorem bulk_small {H : Type} {l : List (DataW H)} (hk : Rows.uptoSmall H l = true) : Rows.uptoBulkAll l ≤ 1048576 := of_decide_eq_true hk
theorem bulk_kids {H : Type} : ∀ (ds : List (DataW H)) (ks : List T) (a : Nat), ks.length = ds.length → (∀ (i : Nat) (t : T) (d : DataW H), ks[i]? = some t → ds[i]? = some d → cnt t ≤ Rows.uptoBulk d) → cntL ks a ≤ a + Rows.uptoBulkAll ds
  | [], [], a, _, _ => by simp [cntL, Rows.uptoBulkAll]
  | d :: ds, k :: ks, a, hl, h => by
    have h1 := h 0 k d rfl rfl
    have h2 := bulk_kids ds ks (a + cnt k) (by simpa using hl) fun i t d' ht hd => h (i + 1) t d' (by simpa using ht) (by simpa using hd)
    simp only [cntL, Rows.uptoBulkAll]
    omega
  | [], _ :: _, _, hl, _ => by simp at hl
  | _ :: _, [], _, hl, _ => by simp at hl

section
variable {H : Type} {enc : TypeId × Value → H} {W : World}
set_option maxRecDepth 100000 in
theorem tree_fuel : ∀ (fuel : Nat) (cs : List Value) (x : DataW H × List MemPlace), DataW.trod enc Tryd.prog W 0 (fun _ => true) true fuel 34 cs = some x → ∃ a b c d t, cs = [a, b, c, d] ∧ InM W (.agg #[a, b, c, d]) t ∧ cnt t ≤ Rows.uptoBulk x.1 := by
  intro fuel
  induction fuel using Nat.strongRecOn with
  | _ fuel ih =>
    intro cs x h
    obtain ⟨c0, c1, c2, c3, y0, y1, y2, y3, n, hn, hx, rfl, g0, g1, g2, g3⟩ := fields4f Tryd.underlying34 kNode rfl kI rfl kU64 rfl kSl8 rfl kSlN h
    obtain ⟨kd, e0, _, hw0⟩ := DataW.trod_int Tryd.underlying3 g0
    simp at e0
    subst e0
    obtain ⟨nm, e0, _, hw1⟩ := DataW.trod_int Tryd.underlying24 g1
    simp at e0
    subst e0
    have hb := bounds_i64 hw0
    have hb1 := bounds_u64 hw1
    obtain ⟨A, l, cap, bytes, e1, hS, hSb⟩ : ∃ A l cap bytes, c2 = .slice A l cap ∧ Sl W A l cap bytes ∧ bytes.length ≤ Rows.uptoBulk y2.1 := by
      rcases open_ints Tryd.underlying22 Tryd.underlying5 (by kernel_rfl) g2 with ⟨hcs, _⟩ | ⟨a, l, c, zs, hcs, _, hl, hm, hz, hx1, hcell, hwz⟩
      · simp at hcs
        exact ⟨none, 0, 0, [], hcs, Sl.nil W, Nat.zero_le _⟩
      · simp at hcs
        refine ⟨some a, l, c, _, hcs, Sl.of_row (.inr ⟨_, rfl, hl, hm, by simpa using hz, hcell, hwz⟩), ?_⟩
        rw [hx1]
        have h1 := bulk_len (lits (H := H) .u8 (zs.take l))
        simp only [Rows.uptoBulk]
        have h2 : (lits (H := H) .u8 (zs.take l)).length = (zs.take l).length := by simp [lits]
        omega
    subst e1
    rcases DataW.trod_slice Tryd.underlying32 g3 with ⟨hcs, _⟩ | ⟨a, len, cap2, elems, rest, n', hn', hcs, hx2, _, hle, hm, hlen, hel, _, _⟩
    · simp at hcs
      subst hcs
      refine ⟨_, _, _, _, _, rfl, leaf4 kd nm (by omega) (by omega) hS, ?_⟩
      rw [hx]
      show cntL [] (1 + bytes.length) ≤ _
      have h0 := bulk_one y0.1
      simp only [cntL, Rows.uptoBulk, Rows.uptoBulkAll]
      omega
    · simp at hcs
      subst hcs
      have each : ∀ i, i < len → ∃ q : (Value × Value × Value × Value) × T, W.cell? (a.add (i * 4)) = some q.1.1 ∧ W.cell? (a.add (i * 4 + 1)) = some q.1.2.1 ∧ W.cell? (a.add (i * 4 + 2)) = some q.1.2.2.1 ∧ W.cell? (a.add (i * 4 + 3)) = some q.1.2.2.2 ∧ InM W (.agg #[q.1.1, q.1.2.1, q.1.2.2.1, q.1.2.2.2]) q.2 ∧ ∀ y, elems[i]? = some y → cnt q.2 ≤ Rows.uptoBulk y.1 := by
        intro i hi
        have h1 := hel i hi
        rw [List.getElem?_eq_getElem (by omega)] at h1
        obtain ⟨cs', h2, h3⟩ := Option.bind_eq_some_iff.1 h1
        obtain ⟨x0, x1, x2, x3, t, rfl, hin, hbk⟩ := ih n' (by omega) cs' _ h3
        rw [kNode] at h2
        obtain ⟨_, _, hcell⟩ := World.cells?_some h2
        have e0 := hcell 0 (by omega)
        have e1 := hcell 1 (by omega)
        have e2 := hcell 2 (by omega)
        have e3 := hcell 3 (by omega)
        rw [Go.Deep.add_add] at e0 e1 e2 e3
        exact ⟨((x0, x1, x2, x3), t), by simpa using e0, by simpa using e1, by simpa using e2, by simpa using e3, hin, fun y hy => by
            rw [List.getElem?_eq_getElem (by omega)] at hy
            rw [← Option.some.inj hy]
            exact hbk⟩
      obtain ⟨q, hq⟩ := choose_lt each
      refine ⟨_, _, _, _, .node kd nm bytes ((List.range len).map fun i => (q i).2), rfl, ?_, ?_⟩
      · refine .mk (fun i => (q i).1.1) (fun i => (q i).1.2.1) (fun i => (q i).1.2.2.1) (fun i => (q i).1.2.2.2) (by omega) (by omega) hS (by simp) hle hm (fun e => by cases e) (fun hn => ?_) fun i hi => ?_
        · obtain ⟨b, o, s⟩ := a
          obtain rfl : s = none := by
            have h := (hq 0 (by omega)).1
            simpa [Addr.add] using World.cell?_spot h
          refine ⟨b, o, rfl, fun i hi => ?_⟩
          obtain ⟨h1, h2, h3, h4, _, _⟩ := hq i hi
          rw [add_none] at h1 h2 h3 h4
          exact ⟨h1, by rw [Nat.add_assoc]; exact h2, by rw [Nat.add_assoc]; exact h3, by rw [Nat.add_assoc]; exact h4⟩
        · have : ((List.range len).map fun i => (q i).2).getD i default = (q i).2 := by simp [List.getD, hi]
          rw [this]
          exact (hq i hi).2.2.2.2.1
      · rw [hx]
        show cntL _ (1 + bytes.length) ≤ _
        have h1 := bulk_kids (elems.map (·.1)) ((List.range len).map fun i => (q i).2) (1 + bytes.length) (by simp [hlen]) fun i t d ht hd => by
          rw [List.getElem?_map] at ht hd
          obtain ⟨j, hj, rfl⟩ := Option.map_eq_some_iff.1 ht
          obtain ⟨y, hy, rfl⟩ := Option.map_eq_some_iff.1 hd
          obtain ⟨h1, h2⟩ := List.getElem?_eq_some_iff.1 hj
          rw [List.getElem_range] at h2
          rw [List.length_range] at h1
          subst h2
          exact (hq _ h1).2.2.2.2.2 y hy
        have h0 := bulk_one y0.1
        rw [hx2]
        simp only [Rows.uptoBulk, Rows.uptoBulkAll]
        rw [hx2] at *
        omega
set_option maxRecDepth 100000 in
theorem tree_of {v : Value} {d : DataW H} {p : List MemPlace} {base : Nat} (hv : Value.okWide Tryd.prog W .any base 34 v) (h : DataW.Trod enc Tryd.prog W 0 (fun _ => true) true 34 v d p) :
    ∃ x y z u t, v = .agg #[x, y, z, u] ∧ InM W (.agg #[x, y, z, u]) t ∧ cnt t ≤ Rows.uptoBulk d := by
  obtain ⟨cs, rfl, hsz⟩ := okWide_struct Tryd.underlying34 hv
  obtain ⟨fuel, hf⟩ := h
  obtain ⟨a, b, c, e, t, hcs, hin, hbk⟩ := tree_fuel fuel _ _ hf
  have hcs' : cs = #[a, b, c, e] := by
    have h : cs.toList = [a, b, c, e] := hcs
    exact Array.toList_inj.1 h
  subst hcs'
  exact ⟨a, b, c, e, t, rfl, hin, hbk⟩
end

end Go.Proofs.YtmhgpdfllpgjpaaDoor

namespace Go.Proofs.YtmhgpdfllpgjpaaDoor
open Go.RowKit
set_option linter.unusedVariables false

/-- A tree of the reference in a block of its own. -/
structure Bi (wx : World) (b : Nat) (kd nm : Int) (A : Option Addr) (n c : Nat) (K : Option Addr) (m d : Nat) (t : T) : Prop where
  row : Row wx b 34 #[.int .i64 kd, .int .u64 nm, .slice A n c, .slice K m d]
  inm : InM wx (.agg #[.int .i64 kd, .int .u64 nm, .slice A n c, .slice K m d]) t
theorem Bi.later {wx wy : World} {b : Nat} {kd nm : Int} {A : Option Addr} {n c : Nat} {K : Option Addr} {m d : Nat} {t : T} (h : Bi wx b kd nm A n c K m d t) (hp : Past wx wy) : Bi wy b kd nm A n c K m d t := ⟨h.row.past hp, h.inm.past hp⟩
theorem okTL_of : ∀ ks : List T, (∀ i, i < ks.length → okT (ks.getD i default)) → okTL ks
  | [], _ => trivial
  | k :: ks, h => ⟨h 0 (by simp), okTL_of ks fun i hi => h (i + 1) (by simpa using hi)⟩
theorem InM.okT {w : World} {v : Value} {t : T} (h : InM w v t) : okT t := by
  induction h with
  | mk v0 v1 v2 v3 ht hu hb hl hm hd h0 hc hk ih =>
    have h1 := hb.len
    have h2 := hb.cap
    have h3 := hb.big
    unfold maxLen at h3 hd
    exact ⟨hu, by omega, by omega, okTL_of _ fun i hi => ih i (by omega)⟩
theorem vld_parts {t : T} (h : vldT t = true) : dep t ≤ 8 ∧ shp t = true ∧ (txt t).length ≤ 1048576 := by
  unfold vldT at h
  simpa using h
theorem vld_parse {t : T} {L : Nat} (h : dep t ≤ 8 ∧ shp t = true ∧ (txt t).length ≤ 1048576) (ho : Go.Proofs.YtmhgpdfllpgjpaaDoor.okT t) (hL : (txt t).length = L) : parsL (txt t) L = .good t L := by
  subst hL
  unfold parsL
  rw [if_neg (by omega)]
  exact pars_put h.2.1 h.1 ho

end Go.Proofs.YtmhgpdfllpgjpaaDoor
