/- A range over an iterator that hands its rounds in a fixed order. -/
import Derived.Test.YtnnonidiogoffaaGreatDoorPm12M
namespace Go.Proofs.YtnnonidiogoffaaGreatDoor
open Go.RowKit Go.Shelf
set_option linter.unusedVariables false
attribute [local go_sem] Oper.semAt_some

/-- What such an iterator promises. -/
def SeqAt {α : Type} (P : Program) (gf : Nat) (lb : Array Value) (encs : α → Array Value) (a b : Nat) (T : List α → α → Prop) (S Sp : List α → Prop) (w : World) : Prop :=
  ∀ (l : Nat) (J Jx : List α → World → Prop) (W : World), Below w.heap.size w W → (∀ s A B, J s A → A.grownBy B none → J s B) →
    (∀ pre x W1, J pre W1 → T pre x → YieldAt Fence.wide 1 P l (encs x) W1 fun e W' =>
      (e = .returned (.bool true) ∧ J (pre ++ [x]) W' ∧ KR a b W1 W') ∨ (e = .returned (.bool false) ∧ Jx (pre ++ [x]) W')) →
    J [] W → CallsIn Fence.wide 2 P gf (#[.func (.yield l) #[] #[]] ++ lb) W fun e W' => (∃ v, e = .returned v) ∧ ((∃ xs, S xs ∧ J xs W') ∨ (∃ pre, Sp pre ∧ Jx pre W'))
theorem KR.put {a b r : Nat} {W : World} {o : Obj} (ha : a < r) (hb : b < r) : KR a b W (W.putObj r o) := ⟨World.putObj_heap_other (by omega), World.putObj_heap_other (by omega)⟩
theorem range_at {α : Type} {P : Program} {g : Operand} {ps : Array Tmp} {assign body : Code} {Q : Exit → Act → World → Prop} {a : Act} {w : World} {gf : Nat} {lb : Array Value} (hg : a.eval g = .func (.func gf) #[] lb) (eg : ∀ args w, (callFunc gf args).run P w = .ok (.enter gf args) w)
    {encs : α → Array Value} {b1 b2 : Nat} {T0 : List α → α → Prop} (hb1 : b1 < w.heap.size) (hb2 : b2 < w.heap.size) {S Sp : List α → Prop} (hseq : SeqAt P gf lb encs b1 b2 T0 S Sp w) (hps : ∀ x, (encs x).size = ps.size)
    (I Ix : List α → World → Prop) (hI : ∀ s A B, I s A → A.grownBy B none → I s B) (hIp : ∀ s A r o o', I s A → w.heap.size ≤ r → A.heap[r]? = some o → o.isCells = false → I s (A.putObj r o')) (hIx : ∀ s A r o o', Ix s A → w.heap.size ≤ r → A.heap[r]? = some o → o.isCells = false → Ix s (A.putObj r o'))
    (h0 : I [] w) (a₁ : α → Act)
    (hassign : ∀ (l : Nat) (x : α) (W : World) (K : Act → World → Prop), K (a₁ x) W → assign.wpIn (Fence.wide.inRound l) 1 P (Exit.then K (fun _ _ _ => False)) { tmps := (ps.zip (encs x)).foldl (fun t (p, v) => t.setIfInBounds p v) a.tmps, defers := [] } W)
    (hbody : ∀ (l : Nat) (pre : List α) (x : α) (W : World), I pre W → T0 pre x → body.wpIn (Fence.wide.inRound l) 1 P (roundEnd (KR b1 b2 W) (I (pre ++ [x])) (Ix (pre ++ [x])) W) (a₁ x) W)
    (hdone : ∀ (D : Nat) (xs : List α) (W : World), w.heap.size ≤ D → S xs → I xs W → W.heap[D]? = some (.deferred (some [])) → Q .normal { a with defers := { target := .collected D, args := #[] } :: a.defers } W)
    (hstop : ∀ (D : Nat) (pre : List α) (W : World), w.heap.size ≤ D → Sp pre → Ix pre W → W.heap[D]? = some (.deferred (some [])) → Code.ret.wpIn Fence.wide 3 P Q { a with defers := { target := .collected D, args := #[] } :: a.defers } W) :
    (Code.rangeFunc g ps assign body).wpIn Fence.wide 3 P Q a w := by
  refine wpIn_rangeFunc fun fn hfn => ?_
  obtain ⟨n, hn⟩ : ∃ n, w.heap.size = n := ⟨_, rfl⟩
  rw [hn] at hb1 hb2 hIp hIx hdone hstop
  obtain ⟨rc, hrc⟩ : ∃ rc : LoopState → Option Code → Obj, rc = fun st pe => .loop { state := st, pending := pe, fn, tmps := a.tmps, params := ps, assign, body, defers := n } := ⟨_, rfl⟩
  have hwalk : ∀ st pe, (rc st pe).isCells = false ∧ (rc st pe).isWalk = false := fun st pe => by rw [hrc]; exact ⟨rfl, rfl⟩
  -- what the law itself lays: the collected calls' block at n, the record at n + 1
  obtain ⟨V, hV⟩ : ∃ V, (w.alloc (.deferred (some []))).alloc (rc .ready none) = V := ⟨_, rfl⟩
  have gV : w.grownBy V none := by
    rw [← hV]
    exact only_trans (World.grownBy_alloc w _ none) (World.grownBy_alloc _ _ none)
  have vD : V.heap[n]? = some (.deferred (some [])) := by
    rw [← hV, ← hn]
    exact (Below.heap_alloc _ _ _ (by simp)).trans (World.alloc_heap_new w _)
  have vR : V.heap[n + 1]? = some (rc .ready none) := by
    rw [← hV, ← hn]
    have := World.alloc_heap_new (w.alloc (.deferred (some []))) (rc .ready none)
    rwa [World.size_alloc] at this
  -- the caller's word beside the two blocks
  obtain ⟨T, hT⟩ : ∃ T : Obj → World → Prop, T = fun r W => W.heap[n + 1]? = some r ∧ W.heap[n]? = some (.deferred (some [])) := ⟨_, rfl⟩
  have Tput : ∀ {r r' : Obj} {W : World}, T r W → T r' (W.putObj (n + 1) r') := fun h => by
    rw [hT] at h ⊢
    exact ⟨World.putObj_heap_same (Array.getElem?_eq_some_iff.1 h.1).1, (World.putObj_heap_other (by omega)).trans h.2⟩
  have Tstep : ∀ {r : Obj} {A B : World}, T r A → A.grownBy B none → T r B := fun {_ A _} h hs => by
    rw [hT] at h ⊢
    exact ⟨(hs.block _ (Array.getElem?_eq_some_iff.1 h.1).1 (fun e => by cases e)).trans h.1, (hs.block _ (Array.getElem?_eq_some_iff.1 h.2).1 (fun e => by cases e)).trans h.2⟩
  have key := hseq (n + 1) (fun s W => I s W ∧ T (rc .ready none) W) (fun s W => Ix s W ∧ T (rc .done (some .ret)) W) V
    (Below.refl _ w |>.grown gV (Nat.le_refl _) fun k e => by cases e) (fun s A B h hs => ⟨hI s A B h.1 hs, Tstep h.2 hs⟩)
  refine ⟨n + 1, [{ target := .collected n, args := #[] }], V, { target := .fn (.func gf) lb, args := #[.func (.yield (n + 1)) #[] #[]] }, V, gf, #[.func (.yield (n + 1)) #[] #[]] ++ lb, V, ?_, ?_, fun _ _ => trivial, ?_, fun _ => by omega, ?_⟩
  · rw [← hV, hrc, ← hn]
    exact run_enterLoop_outer _ _ _ _ _
  · simp only [resolve, hg]
    simp [go_sem]
  · simp [invoke, go_sem, eg]
  refine (key ?_ ⟨hI [] w V h0 gV, by rw [hT]; exact ⟨vR, vD⟩⟩).mono ?_
  · rintro pre x W ⟨hi, ht⟩ hlen
    have hr1 : W.heap[n + 1]? = some (rc .ready none) := by rw [hT] at ht; exact ht.1
    have hy := run_yield (P := P) (args := encs x) (by rw [hrc] at hr1; exact hr1) (hps x)
    refine ⟨fn, _, assign, body, hy, roundIn_of_wpIn hfn (hassign _ x W _ ⟨_, run_beginRound (by rw [hrc] at hr1; exact hr1) rfl, ?_⟩)⟩
    change body.wpIn _ _ _ _ _ (W.putObj (n + 1) (.loop { (_ : Loop) with state := .busy }))
    obtain ⟨U, hU⟩ : ∃ U, W.putObj (n + 1) (rc .busy none) = U := ⟨_, rfl⟩
    have hU' : W.putObj (n + 1) (.loop { state := .busy, pending := none, fn, tmps := a.tmps, params := ps, assign, body, defers := n }) = U := by rw [← hU, hrc]
    rw [hU']
    have hiU : I pre U := by rw [← hU]; exact hIp _ _ _ _ _ hi (by omega) hr1 (hwalk _ _).1
    have htU : T (rc .busy none) U := by rw [← hU]; exact Tput ht
    have hkU : KR b1 b2 W U := by rw [← hU]; exact KR.put (by omega) (by omega)
    refine wpIn_mono (hbody _ pre x U hiU hlen) ?_
    have fin : ∀ (W3 : World), KeepsOthers U W3 → T (rc .busy none) W3 := fun W3 hk => by
      rw [hT] at htU ⊢
      exact ⟨hk.same _ _ htU.1 (hwalk _ _).1, hk.same _ _ htU.2 rfl⟩
    rintro e a3 W3 hp
    cases e with
    | normal =>
      obtain ⟨hk, hk3, hi3⟩ := hp
      have ht3 := fin W3 hk
      have hl3 : W3.heap[n + 1]? = some (rc .busy none) := by rw [hT] at ht3; exact ht3.1
      have hr := run_endRound (P := P) none (by rw [hrc] at hl3; exact hl3)
      refine ⟨_, _, hr, .inl ⟨rfl, ⟨hIp _ _ _ _ _ hi3 (by omega) hl3 (hwalk _ _).1, ?_⟩, (hkU.trans hk3).trans (KR.put (by omega) (by omega))⟩⟩
      have := Tput (r' := rc .ready none) ht3
      rw [hrc] at this ⊢
      exact this
    | ret =>
      obtain ⟨hk, hi3⟩ := hp
      have ht3 := fin W3 hk
      have hl3 : W3.heap[n + 1]? = some (rc .busy none) := by rw [hT] at ht3; exact ht3.1
      have hr := run_endRound (P := P) (some .ret) (by rw [hrc] at hl3; exact hl3)
      refine ⟨_, _, hr, .inr ⟨rfl, hIx _ _ _ _ _ hi3 (by omega) hl3 (hwalk _ _).1, ?_⟩⟩
      have := Tput (r' := rc .done (some .ret)) ht3
      rw [hrc] at this ⊢
      exact this
    | exit id => exact hp.elim
    | goto t => exact hp.elim
    | panic ch => exact hp.elim
    | outgrown => exact hp.elim
  · rintro e W2 ⟨⟨v, rfl⟩, (⟨xs, hS, hi, ht⟩ | ⟨pre, hSp, hi, ht⟩)⟩
    · have hl : W2.heap[n + 1]? = some (rc .ready none) := by rw [hT] at ht; exact ht.1
      have hD : W2.heap[n]? = some (.deferred (some [])) := by rw [hT] at ht; exact ht.2
      have hr := run_endLoop (P := P) (by rw [hrc] at hl; exact hl) (by simp)
      exact ⟨none, _, hr, hdone n xs _ (Nat.le_refl _) hS (hIp _ _ _ _ _ hi (by omega) hl (hwalk _ _).1) ((World.putObj_heap_other (by omega)).trans hD)⟩
    · have hl : W2.heap[n + 1]? = some (rc .done (some .ret)) := by rw [hT] at ht; exact ht.1
      have hD : W2.heap[n]? = some (.deferred (some [])) := by rw [hT] at ht; exact ht.2
      have hr := run_endLoop (P := P) (by rw [hrc] at hl; exact hl) (by simp)
      exact ⟨some .ret, _, hr, hstop n pre _ (Nat.le_refl _) hSp (hIx _ _ _ _ _ hi (by omega) hl (hwalk _ _).1) ((World.putObj_heap_other (by omega)).trans hD)⟩
set_option maxRecDepth 100000 in
set_option maxHeartbeats 4000000 in
theorem chunk1_in (F : Fence) (n : Nat) (h7 : F.fn 53) (hro : F.round = none) (hn : 1 ≤ n) (l Bs Bn b o q m d : Nat) (hqm : q = (m + 63) / 64) (hm : m ≤ d) (hd : m ≤ 1000000000) (J Jx : List (Fin q) → World → Prop) (hJd : ∀ s A, J s A → J s A.drew)
    (hY : ∀ pre x W, J pre W → pre = starts q x.1 → YieldAt F (n - 1) Tryz.prog l (encD b o m q x) W fun e W' =>
      (e = .returned (.bool true) ∧ J (pre ++ [x]) W' ∧ KR Bs Bn W W') ∨ (e = .returned (.bool false) ∧ Jx (pre ++ [x]) W'))
    (W : World) (hBs : W.cell? ⟨Bs, 0, none⟩ = some (.slice (some ⟨b, o, none⟩) m d)) (hBn : W.cell? ⟨Bn, 0, none⟩ = some (.int .i64 64)) (h0 : J [] W) :
    CallsIn F n Tryz.prog 53 #[.func (.yield l) #[] #[], .pointer (some ⟨Bs, 0, none⟩), .pointer (some ⟨Bn, 0, none⟩)] W fun e W' => (∃ v, e = .returned v) ∧
      ((∃ ys, ys = List.finRange q ∧ J ys W') ∨ (∃ pre, (∃ k, k ≤ q ∧ pre = starts q k) ∧ Jx pre W')) := by
  refine callsIn_of_wp Tryz.func53 rfl h7 ?_ hro
  simp only [Tryz.ntmps53, List.size_toArray, List.length_cons, List.length_nil, Nat.reduceAdd, Nat.reduceSub, Array.replicate_succ, Array.replicate_zero, List.push_toArray, List.append_toArray, List.nil_append, List.cons_append]
  gi_wp2
  gi_loopw [4, 5] (fun i _ wr => ∃ k : Nat, k ≤ q ∧ i = .int .i64 ((64 * k : Nat) : Int) ∧ J (starts q k) wr ∧ KR Bs Bn W wr)
    (fun i _ _ => m + 64 - (intOf i).toNat)
  case atStart => exact ⟨0, Nat.zero_le _, rfl, h0, KR.refl _ _ _⟩
  case round =>
    obtain ⟨k, hk, rfl, hJs, hnx⟩ := hrel
    have q1 : wr.cell? ⟨Bs, 0, none⟩ = some (.slice (some ⟨b, o, none⟩) m d) := (World.cell?_of_block (a := ⟨Bs, 0, none⟩) hnx.ha).trans hBs
    have q2 : wr.cell? ⟨Bn, 0, none⟩ = some (.int .i64 64) := (World.cell?_of_block (a := ⟨Bn, 0, none⟩) hnx.hb).trans hBn
    obtain ⟨i, hi⟩ : ∃ i, 64 * k = i := ⟨_, rfl⟩
    rw [hi]
    by_cases hlt : i < m
    · have hlti : (i : Int) < (m : Int) := by omega
      obtain ⟨X, c, hsl⟩ := slice1_12 b o m d i (by omega) hm
      have hml : ((m - i : Nat) : Int) = (m : Int) - (i : Int) := by omega
      have hkq : k < q := by omega
      obtain ⟨fn, tmps, assign, body, hy, hR⟩ := hY _ ⟨k, hkq⟩ wr.drew (hJd _ _ hJs) rfl
      dsimp only [encD] at hy
      rw [hi] at hy
      obtain ⟨e, he⟩ : ∃ e, min 64 (m - i) = e := ⟨_, rfl⟩
      rw [he] at hy
      have he1 : 1 ≤ e ∧ i + e ≤ m := by omega
      have hs3 := slice3_12 b o m d i e hlt he1.2 he1.1 hm
      have hmin : min (64 : Int) ((m : Int) - (i : Int)) = (e : Int) := by omega
      have hmin2 : min (64 : Int) ((m - i : Nat) : Int) = (e : Int) := by omega
      have hw1 : IntKind.i64.wrap ((i : Int) + (e : Int)) = (i : Int) + (e : Int) := by rw [IntKind.wrap_i64]; omega
      have hw2 : IntKind.i64.wrap ((i : Int) + 64) = ((i + 64 : Nat) : Int) := by rw [IntKind.wrap_i64]; omega
      have hmx : Tryz.prog.follows .mixedOrders = true := by kernel_rfl
      have q1d : wr.drew.cell? ⟨Bs, 0, none⟩ = some (.slice (some ⟨b, o, none⟩) m d) := q1
      have q2d : wr.drew.cell? ⟨Bn, 0, none⟩ = some (.int .i64 64) := q2
      have hnd : KR Bs Bn W wr.drew := ⟨hnx.ha, hnx.hb⟩
      gi_wp2
      gi_region
      all_goals
        gi_wp2
        refine hR.mono ?_
        rintro ee W3 (⟨rfl, hJ3, hk3⟩ | ⟨rfl, hJx3⟩)
        · have q23 : W3.cell? ⟨Bn, 0, none⟩ = some (.int .i64 64) := (World.cell?_of_block (a := ⟨Bn, 0, none⟩) hk3.hb).trans q2d
          gi_wp2
          go_roundw
          case rel => exact ⟨k + 1, by omega, by rw [show 64 * (k + 1) = i + 64 by omega, show ((i + 64 : Nat) : Int) = (i : Int) + 64 by omega], by rw [← starts_succ q k hkq]; exact hJ3, hnd.trans hk3⟩
          case measure => simp [intOf]; omega
        · gi_wp2
          refine bodyPost_ret (results_none rfl _ _ _) rfl ?_
          exact ⟨⟨_, rfl⟩, .inr ⟨_, ⟨k + 1, by omega, by rw [← starts_succ q k hkq]⟩, hJx3⟩⟩
    · have hlti : ¬ (i : Int) < (m : Int) := by omega
      have hkq : k = q := by omega
      have hJq : J (List.finRange q) wr := by rw [← starts_all]; rw [hkq] at hJs; exact hJs
      gi_wp2
      go_end0
      exact ⟨⟨_, rfl⟩, .inl hJq⟩

theorem chunk_at (Bs Bn b o q m d : Nat) (hqm : q = (m + 63) / 64) (hm : m ≤ d) (hd : m ≤ 1000000000) (w : World) (hbs : Bs < w.heap.size) (hbn : Bn < w.heap.size)
    (hBs : w.cell? ⟨Bs, 0, none⟩ = some (.slice (some ⟨b, o, none⟩) m d)) (hBn : w.cell? ⟨Bn, 0, none⟩ = some (.int .i64 64)) :
    SeqAt Tryz.prog 53 #[.pointer (some ⟨Bs, 0, none⟩), .pointer (some ⟨Bn, 0, none⟩)] (encD b o m q) Bs Bn (fun pre x => pre = starts q x.1) (fun ys => ys = List.finRange q) (fun pre => ∃ k, k ≤ q ∧ pre = starts q k) w := fun l J Jx W hW hJ hY h0 => by
  have hBs' := (hW.cell (p := ⟨Bs, 0, none⟩) (by show Bs < _; omega)).trans hBs
  have hBn' := (hW.cell (p := ⟨Bn, 0, none⟩) (by show Bn < _; omega)).trans hBn
  exact chunk1_in Fence.wide 2 trivial rfl (by omega) l Bs Bn b o q m d hqm hm hd J Jx (fun s A hs => hJ s A A.drew hs (only_drewN (World.grownBy.refl A none) 1)) hY W hBs' hBn' h0

end Go.Proofs.YtnnonidiogoffaaGreatDoor
