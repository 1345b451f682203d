/- Trees of nodes, and how they lie in memory: a node is a tag, bytes, and a slice of nodes. -/
import Derived.Test.YtdpnfojpeafdhaaDoorRows
import Derived.Test.YtdpnfojpeafdhaaDoorBase
import Derived.Deep.QuietTactic
import Derived.BigQuiet
import Derived.Deep.LoopGhost
import Derived.Laws.AppendOwn
import Derived.Outline
namespace Go.Proofs.YtdpnfojpeafdhaaDoor
open Go.RowKit

inductive T where
  | node (tag : Int) (bytes : List Int) (kids : List T)
instance : Inhabited T := ⟨.node 0 [] []⟩
def T.kids : T → List T
  | .node _ _ ks => ks

/- The number of nodes, the depth, the number of bytes: each reckoned from the left. -/
mutual
def cnt : T → Nat
  | .node _ _ ks => cntL ks 1
def cntL : List T → Nat → Nat
  | [], a => a
  | t :: ts, a => cntL ts (a + cnt t)
end
mutual
def dep : T → Nat
  | .node _ _ ks => depL ks 1
def depL : List T → Nat → Nat
  | [], a => a
  | t :: ts, a => depL ts (max a (1 + dep t))
end
mutual
def wgt : T → Nat
  | .node _ bs ks => wgtL ks bs.length
def wgtL : List T → Nat → Nat
  | [], a => a
  | t :: ts, a => wgtL ts (a + wgt t)
end
theorem cntL_snoc (t : T) : ∀ (ks : List T) (a : Nat), cntL (ks ++ [t]) a = cntL ks a + cnt t
  | [], a => by simp [cntL]
  | k :: ks, a => by simp only [List.cons_append, cntL]; exact cntL_snoc t ks _
theorem depL_snoc (t : T) : ∀ (ks : List T) (a : Nat), depL (ks ++ [t]) a = max (depL ks a) (1 + dep t)
  | [], a => by simp [depL]
  | k :: ks, a => by simp only [List.cons_append, depL]; exact depL_snoc t ks _
theorem wgtL_snoc (t : T) : ∀ (ks : List T) (a : Nat), wgtL (ks ++ [t]) a = wgtL ks a + wgt t
  | [], a => by simp [wgtL]
  | k :: ks, a => by simp only [List.cons_append, wgtL]; exact wgtL_snoc t ks _
theorem take_next {α : Type} [Inhabited α] (l : List α) (i : Nat) (h : i < l.length) : l.take (i + 1) = l.take i ++ [l.getD i default] := by
  rw [List.take_add_one]
  simp [List.getD, h]
theorem cntL_le : ∀ (ks : List T) (a : Nat), a ≤ cntL ks a
  | [], a => by simp [cntL]
  | k :: ks, a => by
    have := cntL_le ks (a + cnt k)
    simp only [cntL]
    omega
theorem cntL_add : ∀ (ks : List T) (a b : Nat), cntL ks (a + b) = cntL ks a + b
  | [], a, b => by simp [cntL]
  | k :: ks, a, b => by
    simp only [cntL]
    rw [show a + b + cnt k = a + cnt k + b by omega]
    exact cntL_add ks _ b
theorem cntL_app : ∀ (ks ls : List T) (a : Nat), cntL (ks ++ ls) a = cntL ls (cntL ks a)
  | [], ls, a => by simp [cntL]
  | k :: ks, ls, a => by simp only [List.cons_append, cntL]; exact cntL_app ks ls _
theorem cnt_pos (t : T) : 1 ≤ cnt t := by
  cases t with
  | node _ _ ks => exact cntL_le ks 1
/-- A kid, and those ahead of it, have fewer nodes. -/
theorem cnt_kid (ks : List T) (i : Nat) (h : i < ks.length) : cntL (ks.take i) 1 + cnt (ks.getD i default) ≤ cntL ks 1 := by
  rw [← cntL_snoc, ← take_next ks i h]
  have := cntL_app (ks.take (i + 1)) (ks.drop (i + 1)) 1
  rw [List.take_append_drop] at this
  rw [this]
  exact cntL_le _ _
theorem wgtL_le : ∀ (ks : List T) (a : Nat), a ≤ wgtL ks a
  | [], a => by simp [wgtL]
  | k :: ks, a => by
    have := wgtL_le ks (a + wgt k)
    simp only [wgtL]
    omega
theorem wgtL_app : ∀ (ks ls : List T) (a : Nat), wgtL (ks ++ ls) a = wgtL ls (wgtL ks a)
  | [], ls, a => by simp [wgtL]
  | k :: ks, ls, a => by simp only [List.cons_append, wgtL]; exact wgtL_app ks ls _
theorem wgt_kid (ks : List T) (a i : Nat) (h : i < ks.length) : wgtL (ks.take i) a + wgt (ks.getD i default) ≤ wgtL ks a := by
  rw [← wgtL_snoc, ← take_next ks i h]
  have := wgtL_app (ks.take (i + 1)) (ks.drop (i + 1)) a
  rw [List.take_append_drop] at this
  rw [this]
  exact wgtL_le _ _
theorem len_cntL (ks : List T) : ∀ a, a + ks.length ≤ cntL ks a := by
  induction ks with
  | nil => intro a; simp [cntL]
  | cons k ks ih =>
    intro a
    have h := ih (a + cnt k)
    have := cnt_pos k
    simp only [cntL, List.length_cons]
    omega
mutual
theorem dep_le : ∀ t : T, dep t ≤ cnt t
  | .node _ _ ks => by
    have := depL_le ks 1 1 (Nat.le_refl _) (Nat.le_refl _)
    simpa [dep, cnt] using this
theorem depL_le : ∀ (ks : List T) (a b : Nat), a ≤ b → 1 ≤ b → depL ks a ≤ cntL ks b
  | [], a, b, h, _ => by simpa [depL, cntL] using h
  | k :: ks, a, b, h, h1 => by
    have hk := dep_le k
    simp only [depL, cntL]
    exact depL_le ks _ _ (by omega) (by omega)
end

/-- A tree in memory. -/
inductive InM (w : World) : Value → T → Prop
  | mk {tag : Int} {A : Option Addr} {n c : Nat} {bytes : List Int} {K : Option Addr} {m d : Nat} {kids : List T} (v0 v1 v2 : Nat → Value)
    (ht : 0 ≤ tag ∧ tag < 256) (hb : Sl w A n c bytes) (hl : kids.length = m) (hm : m ≤ d) (hd : d ≤ maxLen) (h0 : K = none → d = 0)
    (hc : 0 < m → ∃ b o, K = some ⟨b, o, none⟩ ∧ ∀ i, i < m → w.cell? ⟨b, o + i * 3, none⟩ = some (v0 i) ∧ w.cell? ⟨b, o + i * 3 + 1, none⟩ = some (v1 i) ∧ w.cell? ⟨b, o + i * 3 + 2, none⟩ = some (v2 i))
    (hk : ∀ i, i < m → InM w (.agg #[v0 i, v1 i, v2 i]) (kids.getD i default)) :
    InM w (.agg #[.int .u8 tag, .slice A n c, .slice K m d]) (.node tag bytes kids)
theorem InM.past {w w' : World} {v : Value} {t : T} (h : InM w v t) (hp : Past w w') : InM w' v t := by
  induction h with
  | mk v0 v1 v2 ht hb hl hm hd h0 hc hk ih =>
    refine .mk v0 v1 v2 ht (hb.past hp) hl hm hd h0 (fun hn => ?_) ih
    obtain ⟨b, o, e, hcell⟩ := hc hn
    refine ⟨b, o, e, fun i hi => ?_⟩
    obtain ⟨h1, h2, h3⟩ := hcell i hi
    exact ⟨by rw [Below.cell hp (cell_lt h1)]; exact h1, by rw [Below.cell hp (cell_lt h2)]; exact h2, by rw [Below.cell hp (cell_lt h3)]; exact h3⟩

end Go.Proofs.YtdpnfojpeafdhaaDoor
