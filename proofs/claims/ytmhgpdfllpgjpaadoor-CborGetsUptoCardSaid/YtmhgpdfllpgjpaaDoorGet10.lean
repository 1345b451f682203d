/- What the law about Get keeps: the item in its block, the value found in another. -/
import Derived.Test.YtmhgpdfllpgjpaaDoorEncM
import Derived.Test.YtmhgpdfllpgjpaaDoorC10ME
import Derived.Test.YtmhgpdfllpgjpaaDoorC10MC
import Derived.Deep.Cut
import Derived.Deep.CutBlock
import Derived.Deep.DeepCutAuto
namespace Go.Proofs.YtmhgpdfllpgjpaaDoor
open Go.RowKit
set_option linter.unusedVariables false

theorem InM.parts {w : World} {x y z u : Value} {kd nm : Int} {bs : List Int} {ks : List T} (h : InM w (.agg #[x, y, z, u]) (.node kd nm bs ks)) : ∃ A n c K m d, x = .int .i64 kd ∧ y = .int .u64 nm ∧ z = .slice A n c ∧ u = .slice K m d := by
  cases h with
  | mk v0 v1 v2 v3 ht hu hb hl hm hd h0 hc hk => exact ⟨_, _, _, _, _, _, rfl, rfl, rfl, rfl⟩
theorem GetT.uniq' {kd nm : Int} {bs : List Int} {ks : List T} {kk : T} {o o' : Option T} (h : GetT (.node kd nm bs ks) kk o) (h' : GetT (.node kd nm bs ks) kk o') : o' = o := by
  by_cases h5 : kd = 5
  · exact (h'.1 h5).uniq (h.1 h5)
  · rw [h.2 h5, h'.2 h5]
theorem kid_cnt (ks : List T) (a i : Nat) (h : i < ks.length) : cnt (ks.getD i default) ≤ cntL ks a := by
  have := cnt_kid ks a i h
  omega
theorem get_cnt {kd nm : Int} {bs : List Int} {ks : List T} {kk : T} {o : Option T} {N : Nat} (h : GetT (.node kd nm bs ks) kk o) (hn : cnt (.node kd nm bs ks) ≤ N) (hN : 1 ≤ N := by omega) : cnt (o.getD (.node 0 0 [] [])) ≤ N := by
  cases o with
  | none => exact hN
  | some v =>
    by_cases h5 : kd = 5
    · obtain ⟨j, hj, _, _, rfl⟩ := h.1 h5
      exact Nat.le_trans (kid_cnt ks (1 + bs.length) _ hj) hn
    · have := h.2 h5
      cases this
/-- What the law's loop keeps of the search. -/
structure Li (kids : List T) (kk : T) (kd : Int) (i : Nat) (o : Option T) : Prop where
  even : ∃ j, i = 2 * j
  hit : ∀ v, o = some v → kd = 5 ∧ GetIs kids kk (some v)
  miss : o = none → ∀ j, 2 * j < i → 2 * j + 1 < kids.length → kids.getD (2 * j) default ≠ kk
theorem Li.start (kids : List T) (kk : T) (kd : Int) : Li kids kk kd 0 none := ⟨⟨0, rfl⟩, fun v h => (by cases h), fun _ j h => by omega⟩
theorem Li.next {kids : List T} {kk : T} {kd : Int} {i : Nat} (h : Li kids kk kd i none) (hn : kids.getD i default ≠ kk) : Li kids kk kd (i + 2) none := by
  obtain ⟨j0, hj0⟩ := h.even
  refine ⟨⟨j0 + 1, by omega⟩, fun v h => (by cases h), fun _ j hj hl => ?_⟩
  by_cases hij : 2 * j = i
  · rw [hij]; exact hn
  · exact h.miss rfl j (by omega) hl
theorem Li.found {kids : List T} {kk : T} {kd : Int} {i : Nat} (h : Li kids kk kd i none) (h5 : kd = 5) (hl : i + 1 < kids.length) (he : kids.getD i default = kk) : Li kids kk kd (i + 2) (some (kids.getD (i + 1) default)) := by
  obtain ⟨j0, hj0⟩ := h.even
  refine ⟨⟨j0 + 1, by omega⟩, fun v hv => ⟨h5, ?_⟩, fun h => (by cases h)⟩
  obtain rfl := Option.some.inj hv
  subst hj0
  exact ⟨j0, hl, fun i' hi' => h.miss rfl i' (by omega) (by omega), he, rfl⟩
theorem Li.out {kids : List T} {kk : T} {kd nm : Int} {bs : List Int} {i : Nat} {o : Option T} (h : Li kids kk kd i o) (hx : kd ≠ 5 ∨ o.isSome = true ∨ kids.length ≤ i + 1) : GetT (.node kd nm bs kids) kk o := by
  refine ⟨fun h5 => ?_, fun h5 => ?_⟩
  · cases o with
    | some v => exact (h.hit v rfl).2
    | none =>
      rcases hx with hx | hx | hx
      · exact absurd h5 hx
      · cases hx
      · intro j hj
        exact h.miss rfl j (by omega) hj
  · cases o with
    | some v => exact absurd (h.hit v rfl).1 h5
    | none => rfl
/-- What the law's loop keeps of the memory. -/
structure Gl (w wx : World) (g gw : Nat) (kd nm : Int) (A : Option Addr) (n c : Nat) (K : Option Addr) (m d : Nat) (kd2 nm2 : Int) (A2 : Option Addr) (n2 c2 : Nat) (K2 : Option Addr) (m2 d2 : Nat) (o : Option T) : Prop where
  past : Past w wx
  rg : Row wx g 34 #[.int .i64 kd, .int .u64 nm, .slice A n c, .slice K m d]
  rr : Row wx gw 34 #[.int .i64 kd2, .int .u64 nm2, .slice A2 n2 c2, .slice K2 m2 d2]
  iw : InM w (.agg #[.int .i64 kd2, .int .u64 nm2, .slice A2 n2 c2, .slice K2 m2 d2]) (o.getD (.node 0 0 [] []))
  ge : w.heap.size ≤ g
  lt : g < gw
variable {w wx wy : World} {g gw : Nat} {kd nm : Int} {A : Option Addr} {n c : Nat} {K : Option Addr} {m d : Nat} {kd2 nm2 : Int} {A2 : Option Addr} {n2 c2 : Nat} {K2 : Option Addr} {m2 d2 : Nat} {o : Option T}
theorem Gl.later (h : Gl w wx g gw kd nm A n c K m d kd2 nm2 A2 n2 c2 K2 m2 d2 o) (hp : Past wx wy) : Gl w wy g gw kd nm A n c K m d kd2 nm2 A2 n2 c2 K2 m2 d2 o := ⟨h.past.trans' hp, h.rg.past hp, h.rr.past hp, h.iw, h.ge, h.lt⟩
theorem Gl.store (h : Gl w wx g gw kd nm A n c K m d kd2 nm2 A2 n2 c2 K2 m2 d2 o) {kd3 nm3 : Int} {A3 : Option Addr} {n3 c3 : Nat} {K3 : Option Addr} {m3 d3 : Nat} {v : T} (hv : InM w (.agg #[.int .i64 kd3, .int .u64 nm3, .slice A3 n3 c3, .slice K3 m3 d3]) v) :
    Gl w (wx.setRow gw #[.int .i64 kd3, .int .u64 nm3, .slice A3 n3 c3, .slice K3 m3 d3]) g gw kd nm A n c K m d kd3 nm3 A3 n3 c3 K3 m3 d3 (some v) := by
  have h1 := h.ge
  have h2 := h.lt
  refine ⟨below_setRow h.past (by omega) _, ?_, setRow_heap wx gw _ _ _ _ h.rr, hv, h.ge, h.lt⟩
  show (wx.setRow gw _).heap[g]? = _
  rw [setRow_other _ gw _ _ (by omega)]
  exact h.rg

end Go.Proofs.YtmhgpdfllpgjpaaDoor
