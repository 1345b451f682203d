/- A range over an iterator that keeps its place in a box of its own. -/
import Derived.RangeFuncFrom
import Derived.RangeFuncNested
import Derived.RangeFuncBound
import Derived.RangeFuncCalls
import Derived.RangeFuncLeaves
import Derived.Shelf.Abstract
import Derived.Shelf.RegionOpen
import Derived.OwnWalkIn
import Derived.TacticsInMore
import Derived.LoopNIn
import Derived.LoopIn
import Derived.Test.YtnnonidiogoffaaGreatDoorPm12A
namespace Go.Proofs.YtnnonidiogoffaaGreatDoor
open Go.RowKit Go.Shelf
set_option linter.unusedVariables false

/-- What the iterator does to the world by itself: it grows it, or writes its box. -/
def stepB (X : Nat) (A B : World) : Prop := A.grownBy B none ∨ ∃ v, B = A.setCell ⟨X, 0, none⟩ v
/-- Three blocks lie as they lay. -/
structure K3 (a b c : Nat) (W W' : World) : Prop where
  ha : W'.heap[a]? = W.heap[a]?
  hb : W'.heap[b]? = W.heap[b]?
  hc : W'.heap[c]? = W.heap[c]?
theorem K3.refl (a b c : Nat) (W : World) : K3 a b c W W := ⟨rfl, rfl, rfl⟩
theorem K3.trans {a b c : Nat} {A B C : World} (h : K3 a b c A B) (k : K3 a b c B C) : K3 a b c A C := ⟨k.ha.trans h.ha, k.hb.trans h.hb, k.hc.trans h.hc⟩
theorem K3.put {a b c r : Nat} {W : World} {o : Obj} (ha : a < r) (hb : b < r) (hc : c < r) : K3 a b c W (W.putObj r o) := ⟨World.putObj_heap_other (by omega), World.putObj_heap_other (by omega), World.putObj_heap_other (by omega)⟩
/-- What such an iterator promises at a yield whose rounds keep three blocks. -/
def SeqBox {α : Type} (P : Program) (gf : Nat) (lb : Array Value) (encs : α → Array Value) (a b c X : Nat) (S Sp : List α → Prop) (N : Nat) (w : World) : Prop :=
  ∀ (l : Nat) (J Jx : List α → World → Prop) (W : World), Below w.heap.size w W → (∀ s A B, J s A → stepB X A B → J s B) →
    (∀ pre x W1, J pre W1 → pre.length < N → YieldAt Fence.wide 1 P l (encs x) W1 fun e W' =>
      (e = .returned (.bool true) ∧ J (pre ++ [x]) W' ∧ K3 a b c W1 W') ∨ (e = .returned (.bool false) ∧ Jx (pre ++ [x]) W')) →
    J [] W → CallsIn Fence.wide 2 P gf (#[.func (.yield l) #[] #[]] ++ lb) W fun e W' => (∃ v, e = .returned v) ∧ ((∃ xs, S xs ∧ J xs W') ∨ (∃ pre, Sp pre ∧ Jx pre W'))
/-- How a round's body ends: it goes on, or it returns. -/
def roundEnd (K I Ix : World → Prop) (W : World) : Exit → Act → World → Prop
  | .normal, _, W' => KeepsOthers W W' ∧ K W' ∧ I W'
  | .ret, _, W' => KeepsOthers W W' ∧ Ix W'
  | _, _, _ => False

theorem range_box {α : Type} {P : Program} {g : Operand} {ps : Array Tmp} {assign body : Code} {Q : Exit → Act → World → Prop} {a : Act} {w : World} {gf : Nat} {lb : Array Value} (hg : a.eval g = .func (.func gf) #[] lb) (eg : ∀ args w, (callFunc gf args).run P w = .ok (.enter gf args) w)
    {encs : α → Array Value} {b1 b2 b3 X : Nat} (hb1 : b1 < w.heap.size) (hb2 : b2 < w.heap.size) (hb3 : b3 < w.heap.size) (hX : X < w.heap.size) {S Sp : List α → Prop} {N : Nat} (hseq : SeqBox P gf lb encs b1 b2 b3 X S Sp N w) (hps : ∀ x, (encs x).size = ps.size)
    (I Ix : List α → World → Prop) (hI : ∀ s A B, I s A → stepB X A B → I s B) (hIp : ∀ s A r o o', I s A → w.heap.size ≤ r → A.heap[r]? = some o → o.isCells = false → I s (A.putObj r o')) (hIx : ∀ s A r o o', Ix s A → w.heap.size ≤ r → A.heap[r]? = some o → o.isCells = false → Ix s (A.putObj r o'))
    (h0 : I [] w) (a₁ : α → Act)
    (hassign : ∀ (l : Nat) (x : α) (W : World) (K : Act → World → Prop), K (a₁ x) W → assign.wpIn (Fence.wide.inRound l) 1 P (Exit.then K (fun _ _ _ => False)) { tmps := (ps.zip (encs x)).foldl (fun t (p, v) => t.setIfInBounds p v) a.tmps, defers := [] } W)
    (hbody : ∀ (l : Nat) (pre : List α) (x : α) (W : World), I pre W → pre.length < N → body.wpIn (Fence.wide.inRound l) 1 P (roundEnd (K3 b1 b2 b3 W) (I (pre ++ [x])) (Ix (pre ++ [x])) W) (a₁ x) W)
    (hdone : ∀ (D : Nat) (xs : List α) (W : World), w.heap.size ≤ D → S xs → I xs W → W.heap[D]? = some (.deferred (some [])) → Q .normal { a with defers := { target := .collected D, args := #[] } :: a.defers } W)
    (hstop : ∀ (D : Nat) (pre : List α) (W : World), w.heap.size ≤ D → Sp pre → Ix pre W → W.heap[D]? = some (.deferred (some [])) → Code.ret.wpIn Fence.wide 3 P Q { a with defers := { target := .collected D, args := #[] } :: a.defers } W) :
    (Code.rangeFunc g ps assign body).wpIn Fence.wide 3 P Q a w := by
  refine wpIn_rangeFunc fun fn hfn => ?_
  obtain ⟨n, hn⟩ : ∃ n, w.heap.size = n := ⟨_, rfl⟩
  rw [hn] at hb1 hb2 hb3 hX hIp hIx hdone hstop
  obtain ⟨rc, hrc⟩ : ∃ rc : LoopState → Option Code → Obj, rc = fun st pe => .loop { state := st, pending := pe, fn, tmps := a.tmps, params := ps, assign, body, defers := n } := ⟨_, rfl⟩
  have hwalk : ∀ st pe, (rc st pe).isCells = false ∧ (rc st pe).isWalk = false := fun st pe => by rw [hrc]; exact ⟨rfl, rfl⟩
  -- what the law itself lays: the collected calls' block at n, the record at n + 1
  obtain ⟨V, hV⟩ : ∃ V, (w.alloc (.deferred (some []))).alloc (rc .ready none) = V := ⟨_, rfl⟩
  have gV : w.grownBy V none := by
    rw [← hV]
    exact only_trans (World.grownBy_alloc w _ none) (World.grownBy_alloc _ _ none)
  have vD : V.heap[n]? = some (.deferred (some [])) := by
    rw [← hV, ← hn]
    exact (Below.heap_alloc _ _ _ (by simp)).trans (World.alloc_heap_new w _)
  have vR : V.heap[n + 1]? = some (rc .ready none) := by
    rw [← hV, ← hn]
    have := World.alloc_heap_new (w.alloc (.deferred (some []))) (rc .ready none)
    rwa [World.size_alloc] at this
  -- the caller's word beside the two blocks
  obtain ⟨T, hT⟩ : ∃ T : Obj → World → Prop, T = fun r W => W.heap[n + 1]? = some r ∧ W.heap[n]? = some (.deferred (some [])) := ⟨_, rfl⟩
  have Tput : ∀ {r r' : Obj} {W : World}, T r W → T r' (W.putObj (n + 1) r') := fun h => by
    rw [hT] at h ⊢
    exact ⟨World.putObj_heap_same (Array.getElem?_eq_some_iff.1 h.1).1, (World.putObj_heap_other (by omega)).trans h.2⟩
  have Tstep : ∀ {r : Obj} {A B : World}, T r A → stepB X A B → T r B := fun {_ A _} h hs => by
    rw [hT] at h ⊢
    rcases hs with hg' | ⟨v, rfl⟩
    · exact ⟨(hg'.block _ (Array.getElem?_eq_some_iff.1 h.1).1 (fun e => by cases e)).trans h.1, (hg'.block _ (Array.getElem?_eq_some_iff.1 h.2).1 (fun e => by cases e)).trans h.2⟩
    · exact ⟨(Below.heap_setCell A _ v _ (by show n + 1 ≠ X; omega)).trans h.1, (Below.heap_setCell A _ v _ (by show n ≠ X; omega)).trans h.2⟩
  have key := hseq (n + 1) (fun s W => I s W ∧ T (rc .ready none) W) (fun s W => Ix s W ∧ T (rc .done (some .ret)) W) V
    (Below.refl _ w |>.grown gV (Nat.le_refl _) fun k e => by cases e) (fun s A B h hs => ⟨hI s A B h.1 hs, Tstep h.2 hs⟩)
  refine ⟨n + 1, [{ target := .collected n, args := #[] }], V, { target := .fn (.func gf) lb, args := #[.func (.yield (n + 1)) #[] #[]] }, V, gf, #[.func (.yield (n + 1)) #[] #[]] ++ lb, V, ?_, ?_, fun _ _ => trivial, ?_, fun _ => by omega, ?_⟩
  · rw [← hV, hrc, ← hn]
    exact run_enterLoop_outer _ _ _ _ _
  · simp only [resolve, hg]
    simp [go_sem]
  · simp [invoke, go_sem, eg]
  refine (key ?_ ⟨hI [] w V h0 (.inl gV), by rw [hT]; exact ⟨vR, vD⟩⟩).mono ?_
  · rintro pre x W ⟨hi, ht⟩ hlen
    have hr1 : W.heap[n + 1]? = some (rc .ready none) := by rw [hT] at ht; exact ht.1
    have hy := run_yield (P := P) (args := encs x) (by rw [hrc] at hr1; exact hr1) (hps x)
    refine ⟨fn, _, assign, body, hy, roundIn_of_wpIn hfn (hassign _ x W _ ⟨_, run_beginRound (by rw [hrc] at hr1; exact hr1) rfl, ?_⟩)⟩
    change body.wpIn _ _ _ _ _ (W.putObj (n + 1) (.loop { (_ : Loop) with state := .busy }))
    obtain ⟨U, hU⟩ : ∃ U, W.putObj (n + 1) (rc .busy none) = U := ⟨_, rfl⟩
    have hU' : W.putObj (n + 1) (.loop { state := .busy, pending := none, fn, tmps := a.tmps, params := ps, assign, body, defers := n }) = U := by rw [← hU, hrc]
    rw [hU']
    have hiU : I pre U := by rw [← hU]; exact hIp _ _ _ _ _ hi (by omega) hr1 (hwalk _ _).1
    have htU : T (rc .busy none) U := by rw [← hU]; exact Tput ht
    have hkU : K3 b1 b2 b3 W U := by rw [← hU]; exact K3.put (by omega) (by omega) (by omega)
    refine wpIn_mono (hbody _ pre x U hiU hlen) ?_
    have fin : ∀ (W3 : World), KeepsOthers U W3 → T (rc .busy none) W3 := fun W3 hk => by
      rw [hT] at htU ⊢
      exact ⟨hk.same _ _ htU.1 (hwalk _ _).1, hk.same _ _ htU.2 rfl⟩
    rintro e a3 W3 hp
    cases e with
    | normal =>
      obtain ⟨hk, hk3, hi3⟩ := hp
      have ht3 := fin W3 hk
      have hl3 : W3.heap[n + 1]? = some (rc .busy none) := by rw [hT] at ht3; exact ht3.1
      have hr := run_endRound (P := P) none (by rw [hrc] at hl3; exact hl3)
      refine ⟨_, _, hr, .inl ⟨rfl, ⟨hIp _ _ _ _ _ hi3 (by omega) hl3 (hwalk _ _).1, ?_⟩, (hkU.trans hk3).trans (K3.put (by omega) (by omega) (by omega))⟩⟩
      have := Tput (r' := rc .ready none) ht3
      rw [hrc] at this ⊢
      exact this
    | ret =>
      obtain ⟨hk, hi3⟩ := hp
      have ht3 := fin W3 hk
      have hl3 : W3.heap[n + 1]? = some (rc .busy none) := by rw [hT] at ht3; exact ht3.1
      have hr := run_endRound (P := P) (some .ret) (by rw [hrc] at hl3; exact hl3)
      refine ⟨_, _, hr, .inr ⟨rfl, hIx _ _ _ _ _ hi3 (by omega) hl3 (hwalk _ _).1, ?_⟩⟩
      have := Tput (r' := rc .done (some .ret)) ht3
      rw [hrc] at this ⊢
      exact this
    | exit id => exact hp.elim
    | goto t => exact hp.elim
    | panic ch => exact hp.elim
    | outgrown => exact hp.elim
  · rintro e W2 ⟨⟨v, rfl⟩, (⟨xs, hS, hi, ht⟩ | ⟨pre, hSp, hi, ht⟩)⟩
    · have hl : W2.heap[n + 1]? = some (rc .ready none) := by rw [hT] at ht; exact ht.1
      have hD : W2.heap[n]? = some (.deferred (some [])) := by rw [hT] at ht; exact ht.2
      have hr := run_endLoop (P := P) (by rw [hrc] at hl; exact hl) (by simp)
      exact ⟨none, _, hr, hdone n xs _ (Nat.le_refl _) hS (hIp _ _ _ _ _ hi (by omega) hl (hwalk _ _).1) ((World.putObj_heap_other (by omega)).trans hD)⟩
    · have hl : W2.heap[n + 1]? = some (rc .done (some .ret)) := by rw [hT] at ht; exact ht.1
      have hD : W2.heap[n]? = some (.deferred (some [])) := by rw [hT] at ht; exact ht.2
      have hr := run_endLoop (P := P) (by rw [hrc] at hl; exact hl) (by simp)
      exact ⟨some .ret, _, hr, hstop n pre _ (Nat.le_refl _) hSp (hIx _ _ _ _ _ hi (by omega) hl (hwalk _ _).1) ((World.putObj_heap_other (by omega)).trans hD)⟩
end Go.Proofs.YtnnonidiogoffaaGreatDoor
