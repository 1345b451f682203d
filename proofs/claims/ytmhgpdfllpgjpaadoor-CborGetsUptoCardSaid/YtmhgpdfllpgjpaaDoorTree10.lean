/- Trees of items, and how they lie in memory: an item is a kind, a number, bytes, and a slice of items. -/
import Derived.Test.YtmhgpdfllpgjpaaDoorRows
import Derived.Test.YtmhgpdfllpgjpaaDoorBase
import Derived.Deep.QuietTactic
import Derived.BigQuiet
import Derived.Deep.LoopGhost
import Derived.Laws.AppendOwn
import Derived.Outline
namespace Go.Proofs.YtmhgpdfllpgjpaaDoor
open Go.RowKit

inductive T where
  | node (kd nm : Int) (bytes : List Int) (kids : List T)
instance : Inhabited T := ⟨.node 0 0 [] []⟩
def T.kids : T → List T
  | .node _ _ _ ks => ks

/- The number of items and bytes, and the depth: each reckoned from the left. -/
mutual
def cnt : T → Nat
  | .node _ _ bs ks => cntL ks (1 + bs.length)
def cntL : List T → Nat → Nat
  | [], a => a
  | t :: ts, a => cntL ts (a + cnt t)
end
mutual
def dep : T → Nat
  | .node _ _ _ ks => depL ks 1
def depL : List T → Nat → Nat
  | [], a => a
  | t :: ts, a => depL ts (max a (1 + dep t))
end
theorem cntL_snoc (t : T) : ∀ (ks : List T) (a : Nat), cntL (ks ++ [t]) a = cntL ks a + cnt t
  | [], a => by simp [cntL]
  | k :: ks, a => by simp only [List.cons_append, cntL]; exact cntL_snoc t ks _
theorem depL_snoc (t : T) : ∀ (ks : List T) (a : Nat), depL (ks ++ [t]) a = max (depL ks a) (1 + dep t)
  | [], a => by simp [depL]
  | k :: ks, a => by simp only [List.cons_append, depL]; exact depL_snoc t ks _
theorem take_next {α : Type} [Inhabited α] (l : List α) (i : Nat) (h : i < l.length) : l.take (i + 1) = l.take i ++ [l.getD i default] := by
  rw [List.take_add_one]
  simp [List.getD, h]
theorem cntL_le : ∀ (ks : List T) (a : Nat), a ≤ cntL ks a
  | [], a => by simp [cntL]
  | k :: ks, a => by
    have := cntL_le ks (a + cnt k)
    simp only [cntL]
    omega
theorem cntL_app : ∀ (ks ls : List T) (a : Nat), cntL (ks ++ ls) a = cntL ls (cntL ks a)
  | [], ls, a => by simp [cntL]
  | k :: ks, ls, a => by simp only [List.cons_append, cntL]; exact cntL_app ks ls _
theorem cnt_pos (t : T) : 1 ≤ cnt t := by
  cases t with
  | node _ _ bs ks =>
    have := cntL_le ks (1 + bs.length)
    show 1 ≤ cntL ks (1 + bs.length)
    omega
/-- A kid, and those ahead of it, have fewer items. -/
theorem cnt_kid (ks : List T) (a i : Nat) (h : i < ks.length) : cntL (ks.take i) a + cnt (ks.getD i default) ≤ cntL ks a := by
  rw [← cntL_snoc, ← take_next ks i h]
  have := cntL_app (ks.take (i + 1)) (ks.drop (i + 1)) a
  rw [List.take_append_drop] at this
  rw [this]
  exact cntL_le _ _
theorem len_cntL (ks : List T) : ∀ a, a + ks.length ≤ cntL ks a := by
  induction ks with
  | nil => intro a; simp [cntL]
  | cons k ks ih =>
    intro a
    have h := ih (a + cnt k)
    have := cnt_pos k
    simp only [cntL, List.length_cons]
    omega
mutual
theorem dep_le : ∀ t : T, dep t ≤ cnt t
  | .node _ _ bs ks => by
    have := depL_le ks 1 (1 + bs.length) (by omega) (by omega)
    simpa [dep, cnt] using this
theorem depL_le : ∀ (ks : List T) (a b : Nat), a ≤ b → 1 ≤ b → depL ks a ≤ cntL ks b
  | [], a, b, h, _ => by simpa [depL, cntL] using h
  | k :: ks, a, b, h, h1 => by
    have hk := dep_le k
    simp only [depL, cntL]
    exact depL_le ks _ _ (by omega) (by omega)
end
theorem depL_one : ∀ (ks : List T) (a : Nat), a ≤ depL ks a
  | [], a => by simp [depL]
  | k :: ks, a => by
    have := depL_one ks (max a (1 + dep k))
    simp only [depL]
    omega

/-- A tree in memory. -/
inductive InM (w : World) : Value → T → Prop
  | mk {kd nm : Int} {A : Option Addr} {n c : Nat} {bytes : List Int} {K : Option Addr} {m d : Nat} {kids : List T} (v0 v1 v2 v3 : Nat → Value)
    (ht : -9223372036854775808 ≤ kd ∧ kd < 9223372036854775808) (hu : 0 ≤ nm ∧ nm < 18446744073709551616) (hb : Sl w A n c bytes) (hl : kids.length = m) (hm : m ≤ d) (hd : d ≤ maxLen) (h0 : K = none → d = 0)
    (hc : 0 < m → ∃ b o, K = some ⟨b, o, none⟩ ∧ ∀ i, i < m → w.cell? ⟨b, o + i * 4, none⟩ = some (v0 i) ∧ w.cell? ⟨b, o + i * 4 + 1, none⟩ = some (v1 i) ∧ w.cell? ⟨b, o + i * 4 + 2, none⟩ = some (v2 i) ∧ w.cell? ⟨b, o + i * 4 + 3, none⟩ = some (v3 i))
    (hk : ∀ i, i < m → InM w (.agg #[v0 i, v1 i, v2 i, v3 i]) (kids.getD i default)) :
    InM w (.agg #[.int .i64 kd, .int .u64 nm, .slice A n c, .slice K m d]) (.node kd nm bytes kids)
theorem InM.past {w w' : World} {v : Value} {t : T} (h : InM w v t) (hp : Past w w') : InM w' v t := by
  induction h with
  | mk v0 v1 v2 v3 ht hu hb hl hm hd h0 hc hk ih =>
    refine .mk v0 v1 v2 v3 ht hu (hb.past hp) hl hm hd h0 (fun hn => ?_) ih
    obtain ⟨b, o, e, hcell⟩ := hc hn
    refine ⟨b, o, e, fun i hi => ?_⟩
    obtain ⟨h1, h2, h3, h4⟩ := hcell i hi
    exact ⟨by rw [Below.cell hp (cell_lt h1)]; exact h1, by rw [Below.cell hp (cell_lt h2)]; exact h2, by rw [Below.cell hp (cell_lt h3)]; exact h3, by rw [Below.cell hp (cell_lt h4)]; exact h4⟩
theorem InM.agg {w : World} {v : Value} {t : T} (h : InM w v t) : ∃ kd nm A n c K m d, v = .agg #[.int .i64 kd, .int .u64 nm, .slice A n c, .slice K m d] := by
  cases h with
  | mk v0 v1 v2 v3 ht hu hb hl hm hd h0 hc hk => exact ⟨_, _, _, _, _, _, _, _, rfl⟩
theorem InM.shape {w : World} {x y z u : Value} {t : T} (h : InM w (.agg #[x, y, z, u]) t) : ∃ kd nm A n c K m d, x = .int .i64 kd ∧ y = .int .u64 nm ∧ z = .slice A n c ∧ u = .slice K m d := by
  cases h with
  | mk v0 v1 v2 v3 ht hu hb hl hm hd h0 hc hk => exact ⟨_, _, _, _, _, _, _, _, rfl, rfl, rfl, rfl⟩
theorem past_alloc8 (w : World) (o : Obj) : Past w (w.alloc o) := (Below.refl _ _).alloc (Nat.le_refl _) _
theorem info8 : (Tryd.prog.info? 5).map (fun i => (i.zero, i.size, i.bytes)) = some (some (.int .u8 0), 1, 1) := by kernel_rfl
theorem own_block_ge {w : World} {base : Nat} {e : TypeId} {size : Nat} {v : Value} {n : Nat} {xs : List Value} (h : w.ownsRow base e size v n xs) : ∀ g, v.ownBlock = some g → base ≤ g := fun g hg => (h.lt g hg).1
theorem own_past {w w' : World} {base : Nat} {e : TypeId} {size : Nat} {v : Value} {n : Nat} {xs : List Value} (h : w.ownsRow base e size v n xs) (hp : Past w w') : w'.ownsRow base e size v n xs :=
  h.kept (only_of_past hp none) (by cases v.ownBlock <;> simp)
/-- Bytes of the call's own, with more bytes behind them. -/
theorem past_push {w wr w2 : World} {v : Value} {base n : Nat} {e : TypeId} {xs : List Value} (hp : Past w wr) (hb : w.heap.size ≤ base) (ho : wr.ownsRow base e 1 v n xs) (hg : wr.grownBy w2 v.ownBlock) : Past w w2 :=
  hp.grown hg hp.size (fun g hg => Nat.le_trans hb (own_block_ge ho g hg))
/-- The cells of a kid, in a later world. -/
theorem kid_cells {w w' : World} {b o i : Nat} {x y z u : Value} (h : w.cell? ⟨b, o + i * 4, none⟩ = some x ∧ w.cell? ⟨b, o + i * 4 + 1, none⟩ = some y ∧ w.cell? ⟨b, o + i * 4 + 2, none⟩ = some z ∧ w.cell? ⟨b, o + i * 4 + 3, none⟩ = some u) (hp : Past w w') :
    w'.cell? ⟨b, o + i * 4, none⟩ = some x ∧ w'.cell? ⟨b, o + i * 4 + 1, none⟩ = some y ∧ w'.cell? ⟨b, o + i * 4 + 2, none⟩ = some z ∧ w'.cell? ⟨b, o + i * 4 + 3, none⟩ = some u := by
  obtain ⟨q0, q1, q2, q3⟩ := h
  exact ⟨by rw [Below.cell hp (cell_lt q0)]; exact q0, by rw [Below.cell hp (cell_lt q1)]; exact q1, by rw [Below.cell hp (cell_lt q2)]; exact q2, by rw [Below.cell hp (cell_lt q3)]; exact q3⟩

end Go.Proofs.YtmhgpdfllpgjpaaDoor
