/- The program's cut: the text of pairs is cut into them. -/
import Derived.Test.YtclnoblcdaimiaaDoorPg11I
import Derived.Test.YtclnoblcdaimiaaDoorPg11H
import Derived.Test.YtclnoblcdaimiaaDoorShelf
namespace Go.Proofs.YtclnoblcdaimiaaDoor
open Go.RowKit Go.Shelf
set_option linter.unusedVariables false
attribute [local go_sem] Oper.semAt_some

theorem row_kept {W W' : World} {row : Option Nat} {b : Nat} {t : TypeId} {cs : Array Value} (h : Row W b t cs) (hg : W.grownBy W' row) (hr : ∀ r, row = some r → ∃ o : Obj, W.heap[r]? = some o ∧ o.isCells = false) : Row W' b t cs :=
  (hg.block b h.lt fun e => by
    obtain ⟨o, ho, hc⟩ := hr b e.symm
    rw [h] at ho
    cases ho
    cases hc).trans h
theorem keeps_past {W W' : World} (h : Past W W') : KeepsOthers W W' := KeepsOthers.of_grownBy (only_of_past h none) (fun j o e => by cases e)
/-- The cells of pairs. -/
def pcells (l : List P2) : List Value := l.flatMap fun p => [.string p.1, .string p.2]
theorem pcells_len (l : List P2) : (pcells l).length = l.length * 2 := by
  unfold pcells
  induction l with
  | nil => rfl
  | cons p l ih =>
    rw [List.flatMap_cons, List.length_append, ih, List.length_cons]
    show 2 + l.length * 2 = (l.length + 1) * 2
    omega
theorem pcells_at (l : List P2) (i : Nat) (hi : i < l.length) : (pcells l)[i * 2]? = some (.string (l.getD i default).1) ∧ (pcells l)[i * 2 + 1]? = some (.string (l.getD i default).2) := by
  induction l generalizing i with
  | nil => cases hi
  | cons p l ih =>
    have e : pcells (p :: l) = .string p.1 :: .string p.2 :: pcells l := rfl
    rw [e]
    cases i with
    | zero => exact ⟨rfl, rfl⟩
    | succ i =>
      have := ih i (by simpa using hi)
      rw [show (i + 1) * 2 = i * 2 + 1 + 1 by omega]
      exact this
theorem pcells_snoc (l : List P2) (p : P2) : pcells (l ++ [p]) = pcells l ++ [.string p.1, .string p.2] := by
  unfold pcells
  rw [List.flatMap_append]
  simp
theorem Ps.of_own {w : World} {B : Nat} {e : TypeId} {A : Option Addr} {n c : Nat} {l : List P2} (h : w.ownsRow B e 2 (.slice A n c) n (pcells l)) : Ps w A n c l := by
  have hl : l.length = n := by have := h.1; rw [pcells_len] at this; omega
  rcases h.2 with ⟨e1, e2⟩ | ⟨g, cap, cur, e1, e2, e3, e4, e5, e6, e7⟩
  · injection e1 with a1 a2 a3
    subst a1 a2 a3
    exact ⟨hl, Nat.le_refl _, by unfold maxLen; omega, fun hn => absurd hn (Nat.lt_irrefl 0), fun _ => rfl⟩
  · injection e1 with a1 a2 a3
    subst a1 a3
    refine ⟨hl, e4, e5, fun hn => ⟨g, 0, rfl, fun i hi => ?_⟩, fun e => by cases e⟩
    obtain ⟨q1, q2⟩ := pcells_at l i (by omega)
    have c1 := h.cells (g := g) rfl _ _ q1
    have c2 := h.cells (g := g) rfl _ _ q2
    rw [add_none] at c1 c2
    exact ⟨c1, c2⟩

/-- What the rounds keep: the variable with the pairs so far, and the strings. -/
structure Ci (w : World) (l : List P2) (g b B : Nat) (qs : List P2) (W : World) : Prop where
  past : Past w W
  own : ∃ v, Row W g 24 #[v] ∧ W.ownsRow B 54 2 v qs.length (pcells qs)
  str : Row W b 9 ((pcsB l).map Value.string).toArray
  sz : B ≤ W.heap.size
theorem own_kept {W W' : World} {B : Nat} {e : TypeId} {v : Value} {n sz : Nat} {xs : List Value} {row : Option Nat} (h : W.ownsRow B e sz v n xs) (hg : W.grownBy W' row) (hr : ∀ r, row = some r → ∃ o : Obj, W.heap[r]? = some o ∧ o.isCells = false) : W'.ownsRow B e sz v n xs := by
  refine h.kept hg ?_
  rcases h.2 with ⟨rfl, _⟩ | ⟨k, cap, cur, rfl, _, e3, _⟩
  · exact .inl rfl
  · refine .inr fun e => ?_
    obtain ⟨o, ho, hc⟩ := hr k e.symm
    rw [e3] at ho
    cases ho
    cases hc
theorem Ci.later {w W W' : World} {l qs : List P2} {g b B : Nat} (h : Ci w l g b B qs W) (hp : Past W W') : Ci w l g b B qs W' := by
  obtain ⟨v, h1, h2⟩ := h.own
  exact ⟨h.past.trans' hp, ⟨v, h1.past hp, own_past h2 hp⟩, h.str.past hp, Nat.le_trans h.sz hp.size⟩
theorem Ci.kept {w W W' : World} {l qs : List P2} {g b B : Nat} (h : Ci w l g b B qs W) {row : Option Nat} {B' : Nat} (hg : W.grownBy W' row) (hr : ∀ r, row = some r → B' ≤ r ∧ ∃ o : Obj, W.heap[r]? = some o ∧ o.isCells = false) (hB : w.heap.size ≤ B') : Ci w l g b B qs W' := by
  obtain ⟨v, h1, h2⟩ := h.own
  have hr' := fun r e => (hr r e).2
  exact ⟨h.past.grown hg h.past.size fun k e => Nat.le_trans hB (hr k e).1, ⟨v, row_kept h1 hg hr', own_kept h2 hg hr'⟩, row_kept h.str hg hr', Nat.le_trans h.sz hg.size⟩

theorem rest_len (p : P2) (r : List P2) : (restU (p :: r)).length + 2 = (textP (p :: r)).size := by
  have h := congrArg List.length (text_data p r)
  simp only [List.length_append, List.length_cons, List.length_nil] at h
  have e : (uL (textP (p :: r))).length = (textP (p :: r)).size := by
    rw [uL, Array.length_toList]
    rfl
  omega
theorem bytes_size (x : List UInt8) : (⟨x.toArray⟩ : ByteArray).size = x.length := by
  show x.toArray.size = _
  simp

/-- The pair with a number. -/
def atP (l : List P2) (n : Nat) (x : Fin n) : P2 := l.getD x.1 default
/-- The frame of a round of cut, with the slots that the round's region fills. -/
abbrev cutF (T R : ByteArray) (g n x : Nat) (t20 t21 t22 t23 t24 t25 t26 t27 t28 t29 : Value) : Act := { tmps := #[.string T, undef, .slice none 0 0, .string ⟨#[123]⟩, .string R, .bool true, .pointer (some ⟨g, 0, none⟩), .slice (some ⟨g + 1, 4 * x, none⟩) 4 4, .tuple #[.string ⟨#[123]⟩, .string R, .bool true], .string T, .tuple #[.string ⟨#[123]⟩, .string R, .bool true], .string ⟨#[123]⟩, .string R, .bool true, .bool true, .bool false, .string R, .slice (some ⟨g + 1, 0, none⟩) (4 * n) (4 * n), .func (.func 58) #[] #[.pointer (some ⟨g + 1 + 1, 0, none⟩), .pointer (some ⟨g + 1 + 1 + 1, 0, none⟩)], .slice (some ⟨g + 1, 4 * x, none⟩) 4 4, t20, t21, t22, t23, t24, t25, t26, t27, t28, t29, undef], defers := [] }
theorem any_via {F : Fence} {n : Nat} {P : Program} {md : Region.Mode} {ops : Array Oper} {Q : Exit → Act → World → Prop} {fuel : Nat} {listed : Array Bool} {a : Act} {w : World} (h : ∀ G, G = wpAnyIn F n P md ops Q → G fuel listed a w) : wpAnyIn F n P md ops Q fuel listed a w := h _ rfl
theorem gto {G G' : Nat → Array Bool → Act → World → Prop} (h : G = G') {fuel : Nat} {listed : Array Bool} {a : Act} {w : World} (k : G fuel listed a w) : G' fuel listed a w := by
  rw [← h]
  exact k
theorem infoP : (Tryd.prog.info? 54).map (fun i => (i.zero, i.size, i.bytes)) = some (some (.agg #[.string ⟨#[]⟩, .string ⟨#[]⟩]), 2, 32) := by kernel_rfl
/-- append of one pair to pairs of the call's own, as one operation that comes up, inside a fence. -/
theorem step_push {F : Fence} {n : Nat} {P : Program} {w : World} {ops : Array Oper} {o : Oper} {a : Act} {K : Act → World → Prop} {Q : Exit → Act → World → Prop} {E : Prop} (hgd : o.guard = none) (s x : Operand) (t e : TypeId)
    (ho : o.op = .call { callee := .builtin .append, args := #[s, x], argTypes := #[t, t] }) (ht : P.underlying t = some (.slice e)) (hP : (P.info? e).map (fun i => (i.zero, i.size, i.bytes)) = some (some (.agg #[.string ⟨#[]⟩, .string ⟨#[]⟩]), 2, 32))
    (base : Nat) (v : Value) (k : Nat) (l : List P2) (hs : a.eval s = v) (hown : w.ownsRow base e 2 v k (pcells l)) (b : Nat) (p : P2) (hx : a.eval x = .slice (some ⟨b, 0, none⟩) 1 1) (hb : Row w b e #[.string p.1, .string p.2]) (hk : k ≤ 2000000) (hbase : base ≤ w.heap.size)
    (h : ∀ v' w', w'.ownsRow base e 2 v' (k + 1) (pcells (l ++ [p])) → w.grownBy w' v.ownBlock → K (a.put o.dst v') w') : if Region.wanted o (yielded ops a.tmps) = true then Oper.wpIn F n P o a w K Q else E := by
  have hw : Region.wanted o (yielded ops a.tmps) = true := by simp [Region.wanted, hgd]
  rw [if_pos hw]
  obtain ⟨i, hi, hz, hsz, hby⟩ := info_parts hP
  obtain ⟨v', w', hrun, r1, r2, _⟩ := run_append_own (P := P) w base t o.type e i _ 2 32 ht hi hz hsz hby rfl (by decide) v k _ hown ⟨b, 0, none⟩ 1 1 [.string p.1, .string p.2] rfl (fun j u hj => by
    rw [add_none, hb.cell]
    match j, hj with
    | 0, hj => exact hj
    | 1, hj => exact hj) (by simp [Value.oneCell']) (by unfold maxLen; omega) (by omega) hbase
  rw [← pcells_snoc] at r1
  unfold Oper.wpIn
  refine ⟨?_, ?_⟩
  · simp [Oper.about, ho, resolve, Target.leads, Sem.run_pure]
  · rw [Oper.semAt_plain F _ _ (by rw [ho]; intro c hc; cases hc)]
    simp [execOp, ho, resolve, invoke, builtin, hs, hx, hrun, Result.andThen]
    exact h _ _ r1 r2
/-- What a round of cut leaves. -/
theorem Ci.push {w W w' : World} {l qs : List P2} {g B : Nat} {v v' : Value} {p : P2} (hC : Ci w l g (g + 1) B qs W) (hv : Row W g 24 #[v]) (hown : W.ownsRow B 54 2 v qs.length (pcells qs)) (hg : w.heap.size = g) (hB : g + 1 + 1 + 1 < B)
    (h1 : w'.ownsRow B 54 2 v' (qs.length + 1) (pcells (qs ++ [p]))) (h2 : (W.alloc (.cells #[.string p.1, .string p.2] 54)).drew.grownBy w' v.ownBlock) :
    KeepsOthers W (w'.setCell ⟨g, 0, none⟩ v') ∧ KR (g + 1 + 1) (g + 1 + 1 + 1) W (w'.setCell ⟨g, 0, none⟩ v') ∧ Ci w l g (g + 1) B (qs ++ [p]) (w'.setCell ⟨g, 0, none⟩ v') := by
  obtain ⟨w1, hw1⟩ : ∃ w1, w1 = (W.alloc (.cells #[.string p.1, .string p.2] 54)).drew := ⟨_, rfl⟩
  have hp1 : Past W w1 := by
    rw [hw1]
    exact (past_alloc8 W _).drewN 1
  rw [← hw1] at h2
  have hsz := hC.sz
  have hne : ∀ k, k < B → some k ≠ v.ownBlock := fun k hk e => by
    have := (hown.lt k e.symm).1
    omega
  have hblk : ∀ k, k < B → k ≠ g → (w'.setCell ⟨g, 0, none⟩ v').heap[k]? = W.heap[k]? := fun k hk hkg =>
    (Below.heap_setCell w' ⟨g, 0, none⟩ v' k hkg).trans ((h2.block k (by have := hp1.size; omega) (hne k hk)).trans (hp1.block k (by omega)))
  have hcells : ∀ (j : Nat) (o : Obj), v.ownBlock = some j → w1.heap[j]? = some o → o.isCells = true := fun j o hj ho => by
    rcases (own_past hown hp1).2 with ⟨rfl, _⟩ | ⟨k, cap, cur, rfl, _, e3, _⟩
    · cases hj
    · injection hj with hj
      have hj' : k = j := hj
      subst hj'
      rw [e3] at ho
      cases ho
      rfl
  refine ⟨(keeps_past hp1).trans ((KeepsOthers.of_grownBy h2 hcells).trans (KeepsOthers.setCell _ _ _)), ⟨hblk _ (by omega) (by omega), hblk _ (by omega) (by omega)⟩, ?_, ?_, ?_, ?_⟩
  · have hw1' : Past w w1 := hC.past.trans' hp1
    have hw2 : Past w w' := hw1'.grown h2 hw1'.size fun k e => by
      have := (hown.lt k e).1
      omega
    exact hw2.setCell (by show w.heap.size ≤ g; omega) _
  · have hr : Row w' g 24 #[v] := Row.grown (hv.past hp1) h2 (hne g (by omega))
    refine ⟨v', hr.set 0 v', ?_⟩
    rw [List.length_append]
    exact ownsRow_setCell_below (a := ⟨g, 0, none⟩) h1 (by show g < B; omega) v'
  · exact (hblk (g + 1) (by omega) (by omega)).trans hC.str
  · have := h2.size
    have := hp1.size
    show B ≤ (w'.setCell _ _).heap.size
    simp [World.setCell]
    omega

set_option maxRecDepth 100000 in
set_option maxHeartbeats 8000000 in
theorem cut_any (l : List P2) (hl : Loose l) (hs : (textP l).size ≤ 2000000) (w : World) (mx : Int) (hm : w.cell? ⟨2, 0, none⟩ = some (.int .i64 mx)) :
    Calls Tryd.prog 25 #[.string (textP l)] w fun e w' => ∃ A c, e = .returned (.slice A l.length c) ∧ Ps w' A l.length c l ∧ Past w w' := by
  have HCut := fun w hm => Tryd.strings_Cut (textP l) ⟨#[34]⟩ mx w (by omega) hm
  cases l with
  | nil =>
    have hc : Lib.cut (textP []).data.toList (⟨#[34]⟩ : ByteArray).data.toList = ([123, 125], [], false) := cut_none
    simp only [hc] at HCut
    have HC := Lib.hid (HCut w hm)
    obtain ⟨T, hT⟩ : ∃ T, textP [] = T := ⟨_, rfl⟩
    rw [hT] at HC ⊢
    clear HCut hc hT hs
    go_enter Tryd.func25, Tryd.ntmps25
    go_wp2_with fail
    refine HC.out.mono ?_
    rintro e w1 ⟨rfl, k, rfl⟩
    go_wp2_with fail
    go_ret
    exact ⟨none, 0, rfl, Ps.nil _, Past.drewN (Below.refl _ w) k⟩
  | cons p r =>
    have hc : Lib.cut (textP (p :: r)).data.toList (⟨#[34]⟩ : ByteArray).data.toList = ([123], restU (p :: r), true) := cut_text p r
    simp only [hc] at HCut
    have HC := Lib.hid (HCut w hm)
    have hrl := rest_len p r
    have HSp := fun w hm => Tryd.strings_Split ⟨(restU (p :: r)).toArray⟩ ⟨#[34]⟩ mx w (by rw [bytes_size]; omega) hm (Nat.le_refl _)
    obtain ⟨s1, s2⟩ := split_text (p :: r) (by simp) hl
    simp only [s1, s2] at HSp
    obtain ⟨R, hR⟩ : ∃ R : ByteArray, (⟨(restU (p :: r)).toArray⟩ : ByteArray) = R := ⟨_, rfl⟩
    obtain ⟨T, hT⟩ : ∃ T, textP (p :: r) = T := ⟨_, rfl⟩
    rw [hR] at HC HSp
    rw [hT] at HC ⊢
    have hlen2 : (p :: r).length ≤ 2000000 := by
      have h1 := count_rest (p :: r) (by simp) hl
      have h2 := List.count_le_length (a := (34 : UInt8)) (l := restU (p :: r))
      omega
    obtain ⟨n, hn⟩ : ∃ n, (p :: r).length = n := ⟨_, rfl⟩
    have hn1 : 1 ≤ n := by rw [← hn]; simp
    rw [hn] at HSp hlen2 ⊢
    rw [show 4 * n - 1 + 1 = 4 * n by omega] at HSp
    obtain ⟨l, hle⟩ : ∃ l, p :: r = l := ⟨_, rfl⟩
    rw [hle] at hn hl HSp ⊢
    have HN := Lib.hid hn
    have HSP := Lib.hid HSp
    have HPC : Hid (((pcsB l).map Value.string).toArray.size = 4 * n) := Lib.hid (by simp [pcsB_len, hn])
    have HCH := Lib.hid (fun K m d w1 => chunk_any K m d w1)
    obtain ⟨cs, hcs⟩ : ∃ cs, ((pcsB l).map Value.string).toArray = cs := ⟨_, rfl⟩
    rw [hcs] at HSP
    have HCS := Lib.hid hcs
    obtain ⟨g, hg⟩ : ∃ g, w.heap.size = g := ⟨_, rfl⟩
    have HG := Lib.hid hg
    have HM := Lib.hid hm
    clear HCut HSp hc hrl s1 s2 hR hT hle hs hcs hg hl hn hm
    refine (callsIn_wide (n := 3)).1 ?_
    refine callsIn_of_wp_marks Tryd.func25 rfl trivial ?_ rfl
    simp only [Tryd.ntmps25, List.size_toArray, List.length_cons, List.length_nil, Nat.reduceAdd, Nat.reduceSub, Array.replicate_succ, Array.replicate_zero, List.push_toArray, List.append_toArray, List.nil_append, List.cons_append]
    gi_wp2_with (first
      | (refine ⟨trivial, ?_⟩; gi_at_call 41; refine (callsIn_wide.2 HC.out).mono ?_; rintro e w2 ⟨rfl, k, rfl⟩)
      | (refine ⟨trivial, ?_⟩; gi_at_call 43; refine (callsIn_wide.2 (HSP.out _ (by exact (Below.cell (past_alloc8 (w.drewN k) _) (cell_lt (w := w.drewN k) HM.out)).trans HM.out))).mono ?_; rintro e w3 ⟨rfl, rfl⟩)
      | (refine ⟨trivial, ?_⟩; gi_at_call 42; refine (callsIn_wide.2 (HCH.out _ _ _ _)).mono ?_; rintro e w4 ⟨rfl, rfl⟩))
    obtain ⟨w2, hw2⟩ : ∃ w2, w2 = w.drewN k := ⟨_, rfl⟩
    have hz2 : w2.heap.size = g := by rw [hw2]; exact HG.out
    have hpw2 : Past w w2 := by rw [hw2]; exact Past.drewN (Below.refl _ w) k
    rw [← hw2, show w.heap.size = g from HG.out]
    obtain ⟨w3, hw3⟩ : ∃ w3, w3 = w2.alloc (.cells #[.slice none 0 0] 24) := ⟨_, rfl⟩
    have hz3 : w3.heap.size = g + 1 := by rw [hw3]; simp [hz2]
    have hr3 : Row w3 g 24 #[.slice none 0 0] := by rw [hw3, ← hz2]; exact Row.new _ _ _
    have hp3 : Past w2 w3 := by rw [hw3]; exact past_alloc8 _ _
    rw [← hw3]
    obtain ⟨w4, hw4⟩ : ∃ w4, w4 = w3.alloc (.cells cs 9) := ⟨_, rfl⟩
    have hz4 : w4.heap.size = g + 1 + 1 := by rw [hw4]; simp [hz3]
    have hr4 : Row w4 (g + 1) 9 cs := by rw [hw4, ← hz3]; exact Row.new _ _ _
    have hp4 : Past w3 w4 := by rw [hw4]; exact past_alloc8 _ _
    rw [← hw4]
    obtain ⟨w5, hw5⟩ : ∃ w5, w5 = w4.alloc (.cells #[.slice (some ⟨g + 1, 0, none⟩) (4 * n) (4 * n)] 81) := ⟨_, rfl⟩
    have hz5 : w5.heap.size = g + 1 + 1 + 1 := by rw [hw5]; simp [hz4]
    have hr5 : Row w5 (g + 1 + 1) 81 #[.slice (some ⟨g + 1, 0, none⟩) (4 * n) (4 * n)] := by rw [hw5, ← hz4]; exact Row.new _ _ _
    have hp5 : Past w4 w5 := by rw [hw5]; exact past_alloc8 _ _
    rw [← hw5]
    obtain ⟨W0, hW0⟩ : ∃ W0, W0 = w5.alloc (.cells #[.int .i64 4] 3) := ⟨_, rfl⟩
    have hz0 : W0.heap.size = g + 1 + 1 + 1 + 1 := by rw [hW0]; simp [hz5]
    have hr6 : Row W0 (g + 1 + 1 + 1) 3 #[.int .i64 4] := by rw [hW0, ← hz5]; exact Row.new _ _ _
    have hp6 : Past w5 W0 := by rw [hW0]; exact past_alloc8 _ _
    rw [← hW0]
    have HPW : Hid (Past w W0) := Lib.hid (hpw2.trans' (hp3.trans' (hp4.trans' (hp5.trans' hp6))))
    have HR3 := Lib.hid (hr3.past (hp4.trans' (hp5.trans' hp6)))
    have HR4 := Lib.hid (hr4.past (hp5.trans' hp6))
    have HR5 := Lib.hid (hr5.past hp6)
    have HR6 := Lib.hid hr6
    have HZ0 := Lib.hid hz0
    clear hw2 hw3 hw4 hw5 hW0 hz2 hz3 hz4 hz5 hz0 hr3 hr4 hr5 hr6 hp3 hp4 hp5 hp6 hpw2
    obtain ⟨B, hB⟩ : ∃ B, W0.heap.size = B := ⟨_, rfl⟩
    have HB := Lib.hid hB
    have HGB : Hid (g + 1 + 1 + 1 < B ∧ w.heap.size ≤ B) := Lib.hid (by rw [← hB, HZ0.out]; have := HG.out; omega)
    clear hB
    have H0 : Hid (Ci w l g (g + 1) B [] W0) := Lib.hid ⟨HPW.out, ⟨_, HR3.out, World.ownsRow_nil _ _ _ _⟩, by rw [HCS.out]; exact HR4.out, by rw [HB.out]; exact Nat.le_refl _⟩
    refine wpIn_rangeFunc_ownF rfl (by omega) (gf := 58) (lb := #[.pointer (some ⟨g + 1 + 1, 0, none⟩), .pointer (some ⟨g + 1 + 1 + 1, 0, none⟩)]) rfl trivial (enters_of Tryd.func58 (by kernel_rfl) rfl)
      (chunk_stops Fence.wide _ trivial rfl (by omega) (g + 1 + 1) (g + 1 + 1 + 1) (g + 1) 0 n (4 * n) (4 * n) rfl (Nat.le_refl _) (by omega) W0 HR5.out.lt HR6.out.lt (HR5.out.cell 0) (HR6.out.cell 0)) KR.trans (KR_b HR5.out.lt HR6.out.lt) (Below.refl _ _) (fun _ => rfl)
      (fun (pre : List (Fin n)) W => Ci w l g (g + 1) B (pre.map (atP l n)) W)
      (fun c pre W => False)
      (fun s A B' row hs hg hr => hs.kept hg hr HPW.out.size)
      (fun c s A B row hs hg hr => hs)
      H0.out
      (fun (x : Fin n) => { tmps := #[.string T, undef, .slice none 0 0, .string ⟨#[123]⟩, .string R, .bool true, .pointer (some ⟨g, 0, none⟩), .slice (some ⟨g + 1, 4 * x.1, none⟩) 4 4, .tuple #[.string ⟨#[123]⟩, .string R, .bool true], .string T, .tuple #[.string ⟨#[123]⟩, .string R, .bool true], .string ⟨#[123]⟩, .string R, .bool true, .bool true, .bool false, .string R, .slice (some ⟨g + 1, 0, none⟩) (4 * n) (4 * n), .func (.func 58) #[] #[.pointer (some ⟨g + 1 + 1, 0, none⟩), .pointer (some ⟨g + 1 + 1 + 1, 0, none⟩)], .slice (some ⟨g + 1, 4 * x.1, none⟩) 4 4, undef, undef, undef, undef, undef, undef, undef, undef, undef, undef, undef], defers := [] }) ?assign ?body ?done ?stop
    case assign =>
      intro l x W KK hKK
      unfold encC
      simp only [Nat.zero_add]
      gi_wp2
      exact hKK
    case body =>
      rintro lp pre x W hC hlt
      obtain ⟨x, hx⟩ := x
      obtain ⟨v, hv, hown⟩ := hC.own
      obtain ⟨p1, p2⟩ := pcsB_at l x (by rw [HN.out]; exact hx)
      have f0 : W.drew.cell? ⟨g, 0, none⟩ = some v := hv.cell 0
      have f0' : W.drew.frozen? ⟨g, 0, none⟩ = false := hv.fr 0
      have f1 : W.drew.cell? ⟨g + 1, 4 * x, none⟩ = some (.string (l.getD x default).1) := by
        show W.cell? _ = _
        rw [hC.str.cell]
        simp [p1]
      have f2 : W.drew.cell? ⟨g + 1, 4 * x + 2, none⟩ = some (.string (l.getD x default).2) := by
        show W.cell? _ = _
        rw [hC.str.cell]
        simp [p2]
      obtain ⟨q, hq⟩ : ∃ q, l.getD x default = q := ⟨_, rfl⟩
      rw [hq] at f1 f2
      obtain ⟨qa, qb⟩ := q
      have fa0 : (W.alloc (.cells #[.string qa, .string qb] 54)).cell? ⟨g, 0, none⟩ = some v := (hv.past (past_alloc8 W _)).cell 0
      have hmx : Tryd.prog.follows .mixedOrders = true := by kernel_rfl
      have hlq : (pre.map (atP l n)).length ≤ 2000000 := by rw [List.length_map]; omega
      have HKP : Hid (∀ v' w', w'.ownsRow B 54 2 v' ((pre.map (atP l n)).length + 1) (pcells ((pre.map (atP l n)) ++ [(qa, qb)])) → ((W.alloc (.cells #[.string qa, .string qb] 54)).drew).grownBy w' v.ownBlock → KeepsOthers W (w'.setCell ⟨g, 0, none⟩ v') ∧ KR (g + 1 + 1) (g + 1 + 1 + 1) W (w'.setCell ⟨g, 0, none⟩ v') ∧ Ci w l g (g + 1) B ((pre ++ [(⟨x, hx⟩ : Fin n)]).map (atP l n)) (w'.setCell ⟨g, 0, none⟩ v')) := Lib.hid fun v' w' h1 h2 => by
        have := Ci.push (p := (qa, qb)) hC hv hown HG.out HGB.out.1 h1 h2
        rw [List.map_append]
        show _ ∧ _ ∧ Ci w l g (g + 1) B (_ ++ [l.getD x default]) _
        rw [hq]
        exact this
      obtain ⟨A1, c1, hve⟩ := own_slice hown
      have HVE := Lib.hid hve
      clear hve
      have HO : Hid (((W.alloc (.cells #[.string qa, .string qb] 54)).drew).ownsRow B 54 2 v (pre.map (atP l n)).length (pcells (pre.map (atP l n)))) := Lib.hid (own_past hown ((past_alloc8 W _).drewN 1))
      have HRN : Hid (Row ((W.alloc (.cells #[.string qa, .string qb] 54)).drew) W.heap.size 54 #[.string qa, .string qb]) := Lib.hid (Row.new W _ _)
      have HBZ : Hid (B ≤ ((W.alloc (.cells #[.string qa, .string qb] 54)).drew).heap.size) := Lib.hid (by have := hC.sz; simp; omega)
      have HST : Hid (∀ w', ((W.alloc (.cells #[.string qa, .string qb] 54)).drew).grownBy w' v.ownBlock → Row w' g 24 #[v]) := Lib.hid fun w' hg' => Row.grown (hv.past ((past_alloc8 W _).drewN 1)) hg' fun e => by
        have := (hown.lt g e.symm).1
        have := HGB.out.1
        omega
      obtain ⟨qs, hqs⟩ : ∃ qs, (pre.map (atP l n)) = qs := ⟨_, rfl⟩
      rw [hqs] at HO HKP hlq
      obtain ⟨kq, hkq⟩ : ∃ kq, qs.length = kq := ⟨_, rfl⟩
      rw [hkq] at HO HKP hlq
      clear hC hv hown hqs hkq p1 p2 hq HR3 HR4 HR5 HR6 H0 HCS HSP HCH HPC HC
      have hx4 : 4 * x + 2 = 4 * x + 2 := rfl
      gi_wp2
      refine wpIn_region_any hmx ?_
      change wpAnyIn _ _ _ _ _ _ _ _ _ (World.drew _)
      refine any_via fun G hG => ?_
      have S1332 : G 2 #[true, true, true, true, true, true, true, true, true, false, false] (cutF T R g n x v (.slice (some ⟨g + 1, 4 * x, none⟩) 4 4) (.pointer (some ⟨g + 1, 4 * x, none⟩)) (.string qa) (.slice (some ⟨g + 1, 4 * x, none⟩) 4 4) (.pointer (some ⟨g + 1, 4 * x + 2, none⟩)) (.string qb) (.agg #[.string qa, .string qb]) (.slice (some ⟨W.heap.size, 0, none⟩) 1 1) undef) ((W.alloc (.cells #[.string qa, .string qb] 54)).drew) := by
        rw [hG]
        refine wpAnyIn_ready (rs := [9]) (by kernel_rfl) (by simp) ?_
        refine AllReadyIn.cons rfl (fun K hK => ?_) AllReadyIn.nil
        refine step_push rfl _ _ 24 54 rfl Tryd.underlying24 infoP B v kq qs rfl HO.out W.heap.size (qa, qb) rfl HRN.out hlq HBZ.out ?_
        intro v' w' h1 h2
        refine hK _ _ ?_
        have s0 : w'.cell? ⟨g, 0, none⟩ = some v := (HST.out w' h2).cell 0
        have s1 : w'.frozen? ⟨g, 0, none⟩ = false := (HST.out w' h2).fr 0
        have HKP2 := Lib.hid (HKP.out v' w' h1 h2)
        obtain ⟨A2, c2, hve2⟩ := own_slice h1
        clear h1 h2
        have hve := HVE.out
        subst hve hve2
        refine wpAnyIn_ready (rs := [10]) (by kernel_rfl) (by simp) ?_
        refine AllReadyIn.cons rfl (fun K hK => ?_) AllReadyIn.nil
        go_simp
        refine hK _ _ ?_
        refine wpAnyIn_done (by kernel_rfl) ?_ _
        gi_wp2
        exact HKP2.out
      have S0332 : G 3 #[false, true, true, true, true, true, true, true, true, false, false] (cutF T R g n x undef (.slice (some ⟨g + 1, 4 * x, none⟩) 4 4) (.pointer (some ⟨g + 1, 4 * x, none⟩)) (.string qa) (.slice (some ⟨g + 1, 4 * x, none⟩) 4 4) (.pointer (some ⟨g + 1, 4 * x + 2, none⟩)) (.string qb) (.agg #[.string qa, .string qb]) (.slice (some ⟨W.heap.size, 0, none⟩) 1 1) undef) ((W.alloc (.cells #[.string qa, .string qb] 54)).drew) := by
        rw [hG]
        refine wpAnyIn_ready (rs := [0]) (by kernel_rfl) (by simp) ?_
        refine AllReadyIn.cons rfl (fun K hK => ?_) ?_
        · unfold cutF
          go_simp
          exact hK _ _ (gto hG S1332)
        exact AllReadyIn.nil
      have S1331 : G 3 #[true, true, true, true, true, true, true, true, false, false, false] (cutF T R g n x v (.slice (some ⟨g + 1, 4 * x, none⟩) 4 4) (.pointer (some ⟨g + 1, 4 * x, none⟩)) (.string qa) (.slice (some ⟨g + 1, 4 * x, none⟩) 4 4) (.pointer (some ⟨g + 1, 4 * x + 2, none⟩)) (.string qb) (.agg #[.string qa, .string qb]) undef undef) W.drew := by
        rw [hG]
        refine wpAnyIn_ready (rs := [8]) (by kernel_rfl) (by simp) ?_
        refine AllReadyIn.cons rfl (fun K hK => ?_) ?_
        · unfold cutF
          go_simp
          exact hK _ _ (gto hG S1332)
        exact AllReadyIn.nil
      have S0331 : G 4 #[false, true, true, true, true, true, true, true, false, false, false] (cutF T R g n x undef (.slice (some ⟨g + 1, 4 * x, none⟩) 4 4) (.pointer (some ⟨g + 1, 4 * x, none⟩)) (.string qa) (.slice (some ⟨g + 1, 4 * x, none⟩) 4 4) (.pointer (some ⟨g + 1, 4 * x + 2, none⟩)) (.string qb) (.agg #[.string qa, .string qb]) undef undef) W.drew := by
        rw [hG]
        refine wpAnyIn_ready (rs := [0, 8]) (by kernel_rfl) (by simp) ?_
        refine AllReadyIn.cons rfl (fun K hK => ?_) ?_
        · unfold cutF
          go_simp
          exact hK _ _ (gto hG S1331)
        refine AllReadyIn.cons rfl (fun K hK => ?_) ?_
        · unfold cutF
          go_simp
          exact hK _ _ (gto hG S0332)
        exact AllReadyIn.nil
      have S1330 : G 4 #[true, true, true, true, true, true, true, false, false, false, false] (cutF T R g n x v (.slice (some ⟨g + 1, 4 * x, none⟩) 4 4) (.pointer (some ⟨g + 1, 4 * x, none⟩)) (.string qa) (.slice (some ⟨g + 1, 4 * x, none⟩) 4 4) (.pointer (some ⟨g + 1, 4 * x + 2, none⟩)) (.string qb) undef undef undef) W.drew := by
        rw [hG]
        refine wpAnyIn_ready (rs := [7]) (by kernel_rfl) (by simp) ?_
        refine AllReadyIn.cons rfl (fun K hK => ?_) ?_
        · unfold cutF
          go_simp
          exact hK _ _ (gto hG S1331)
        exact AllReadyIn.nil
      have S0330 : G 5 #[false, true, true, true, true, true, true, false, false, false, false] (cutF T R g n x undef (.slice (some ⟨g + 1, 4 * x, none⟩) 4 4) (.pointer (some ⟨g + 1, 4 * x, none⟩)) (.string qa) (.slice (some ⟨g + 1, 4 * x, none⟩) 4 4) (.pointer (some ⟨g + 1, 4 * x + 2, none⟩)) (.string qb) undef undef undef) W.drew := by
        rw [hG]
        refine wpAnyIn_ready (rs := [0, 7]) (by kernel_rfl) (by simp) ?_
        refine AllReadyIn.cons rfl (fun K hK => ?_) ?_
        · unfold cutF
          go_simp
          exact hK _ _ (gto hG S1330)
        refine AllReadyIn.cons rfl (fun K hK => ?_) ?_
        · unfold cutF
          go_simp
          exact hK _ _ (gto hG S0331)
        exact AllReadyIn.nil
      have S1230 : G 5 #[true, true, true, false, true, true, true, false, false, false, false] (cutF T R g n x v (.slice (some ⟨g + 1, 4 * x, none⟩) 4 4) (.pointer (some ⟨g + 1, 4 * x, none⟩)) undef (.slice (some ⟨g + 1, 4 * x, none⟩) 4 4) (.pointer (some ⟨g + 1, 4 * x + 2, none⟩)) (.string qb) undef undef undef) W.drew := by
        rw [hG]
        refine wpAnyIn_ready (rs := [3]) (by kernel_rfl) (by simp) ?_
        refine AllReadyIn.cons rfl (fun K hK => ?_) ?_
        · unfold cutF
          go_simp
          exact hK _ _ (gto hG S1330)
        exact AllReadyIn.nil
      have S1320 : G 5 #[true, true, true, true, true, true, false, false, false, false, false] (cutF T R g n x v (.slice (some ⟨g + 1, 4 * x, none⟩) 4 4) (.pointer (some ⟨g + 1, 4 * x, none⟩)) (.string qa) (.slice (some ⟨g + 1, 4 * x, none⟩) 4 4) (.pointer (some ⟨g + 1, 4 * x + 2, none⟩)) undef undef undef undef) W.drew := by
        rw [hG]
        refine wpAnyIn_ready (rs := [6]) (by kernel_rfl) (by simp) ?_
        refine AllReadyIn.cons rfl (fun K hK => ?_) ?_
        · unfold cutF
          go_simp
          exact hK _ _ (gto hG S1330)
        exact AllReadyIn.nil
      have S0230 : G 6 #[false, true, true, false, true, true, true, false, false, false, false] (cutF T R g n x undef (.slice (some ⟨g + 1, 4 * x, none⟩) 4 4) (.pointer (some ⟨g + 1, 4 * x, none⟩)) undef (.slice (some ⟨g + 1, 4 * x, none⟩) 4 4) (.pointer (some ⟨g + 1, 4 * x + 2, none⟩)) (.string qb) undef undef undef) W.drew := by
        rw [hG]
        refine wpAnyIn_ready (rs := [0, 3]) (by kernel_rfl) (by simp) ?_
        refine AllReadyIn.cons rfl (fun K hK => ?_) ?_
        · unfold cutF
          go_simp
          exact hK _ _ (gto hG S1230)
        refine AllReadyIn.cons rfl (fun K hK => ?_) ?_
        · unfold cutF
          go_simp
          exact hK _ _ (gto hG S0330)
        exact AllReadyIn.nil
      have S0320 : G 6 #[false, true, true, true, true, true, false, false, false, false, false] (cutF T R g n x undef (.slice (some ⟨g + 1, 4 * x, none⟩) 4 4) (.pointer (some ⟨g + 1, 4 * x, none⟩)) (.string qa) (.slice (some ⟨g + 1, 4 * x, none⟩) 4 4) (.pointer (some ⟨g + 1, 4 * x + 2, none⟩)) undef undef undef undef) W.drew := by
        rw [hG]
        refine wpAnyIn_ready (rs := [0, 6]) (by kernel_rfl) (by simp) ?_
        refine AllReadyIn.cons rfl (fun K hK => ?_) ?_
        · unfold cutF
          go_simp
          exact hK _ _ (gto hG S1320)
        refine AllReadyIn.cons rfl (fun K hK => ?_) ?_
        · unfold cutF
          go_simp
          exact hK _ _ (gto hG S0330)
        exact AllReadyIn.nil
      have S1130 : G 6 #[true, true, false, false, true, true, true, false, false, false, false] (cutF T R g n x v (.slice (some ⟨g + 1, 4 * x, none⟩) 4 4) undef undef (.slice (some ⟨g + 1, 4 * x, none⟩) 4 4) (.pointer (some ⟨g + 1, 4 * x + 2, none⟩)) (.string qb) undef undef undef) W.drew := by
        rw [hG]
        refine wpAnyIn_ready (rs := [2]) (by kernel_rfl) (by simp) ?_
        refine AllReadyIn.cons rfl (fun K hK => ?_) ?_
        · unfold cutF
          go_simp
          exact hK _ _ (gto hG S1230)
        exact AllReadyIn.nil
      have S1220 : G 6 #[true, true, true, false, true, true, false, false, false, false, false] (cutF T R g n x v (.slice (some ⟨g + 1, 4 * x, none⟩) 4 4) (.pointer (some ⟨g + 1, 4 * x, none⟩)) undef (.slice (some ⟨g + 1, 4 * x, none⟩) 4 4) (.pointer (some ⟨g + 1, 4 * x + 2, none⟩)) undef undef undef undef) W.drew := by
        rw [hG]
        refine wpAnyIn_ready (rs := [3, 6]) (by kernel_rfl) (by simp) ?_
        refine AllReadyIn.cons rfl (fun K hK => ?_) ?_
        · unfold cutF
          go_simp
          exact hK _ _ (gto hG S1320)
        refine AllReadyIn.cons rfl (fun K hK => ?_) ?_
        · unfold cutF
          go_simp
          exact hK _ _ (gto hG S1230)
        exact AllReadyIn.nil
      have S1310 : G 6 #[true, true, true, true, true, false, false, false, false, false, false] (cutF T R g n x v (.slice (some ⟨g + 1, 4 * x, none⟩) 4 4) (.pointer (some ⟨g + 1, 4 * x, none⟩)) (.string qa) (.slice (some ⟨g + 1, 4 * x, none⟩) 4 4) undef undef undef undef undef) W.drew := by
        rw [hG]
        refine wpAnyIn_ready (rs := [5]) (by kernel_rfl) (by simp) ?_
        refine AllReadyIn.cons rfl (fun K hK => ?_) ?_
        · unfold cutF
          go_simp
          exact hK _ _ (gto hG S1320)
        exact AllReadyIn.nil
      have S0130 : G 7 #[false, true, false, false, true, true, true, false, false, false, false] (cutF T R g n x undef (.slice (some ⟨g + 1, 4 * x, none⟩) 4 4) undef undef (.slice (some ⟨g + 1, 4 * x, none⟩) 4 4) (.pointer (some ⟨g + 1, 4 * x + 2, none⟩)) (.string qb) undef undef undef) W.drew := by
        rw [hG]
        refine wpAnyIn_ready (rs := [0, 2]) (by kernel_rfl) (by simp) ?_
        refine AllReadyIn.cons rfl (fun K hK => ?_) ?_
        · unfold cutF
          go_simp
          exact hK _ _ (gto hG S1130)
        refine AllReadyIn.cons rfl (fun K hK => ?_) ?_
        · unfold cutF
          go_simp
          exact hK _ _ (gto hG S0230)
        exact AllReadyIn.nil
      have S0220 : G 7 #[false, true, true, false, true, true, false, false, false, false, false] (cutF T R g n x undef (.slice (some ⟨g + 1, 4 * x, none⟩) 4 4) (.pointer (some ⟨g + 1, 4 * x, none⟩)) undef (.slice (some ⟨g + 1, 4 * x, none⟩) 4 4) (.pointer (some ⟨g + 1, 4 * x + 2, none⟩)) undef undef undef undef) W.drew := by
        rw [hG]
        refine wpAnyIn_ready (rs := [0, 3, 6]) (by kernel_rfl) (by simp) ?_
        refine AllReadyIn.cons rfl (fun K hK => ?_) ?_
        · unfold cutF
          go_simp
          exact hK _ _ (gto hG S1220)
        refine AllReadyIn.cons rfl (fun K hK => ?_) ?_
        · unfold cutF
          go_simp
          exact hK _ _ (gto hG S0320)
        refine AllReadyIn.cons rfl (fun K hK => ?_) ?_
        · unfold cutF
          go_simp
          exact hK _ _ (gto hG S0230)
        exact AllReadyIn.nil
      have S0310 : G 7 #[false, true, true, true, true, false, false, false, false, false, false] (cutF T R g n x undef (.slice (some ⟨g + 1, 4 * x, none⟩) 4 4) (.pointer (some ⟨g + 1, 4 * x, none⟩)) (.string qa) (.slice (some ⟨g + 1, 4 * x, none⟩) 4 4) undef undef undef undef undef) W.drew := by
        rw [hG]
        refine wpAnyIn_ready (rs := [0, 5]) (by kernel_rfl) (by simp) ?_
        refine AllReadyIn.cons rfl (fun K hK => ?_) ?_
        · unfold cutF
          go_simp
          exact hK _ _ (gto hG S1310)
        refine AllReadyIn.cons rfl (fun K hK => ?_) ?_
        · unfold cutF
          go_simp
          exact hK _ _ (gto hG S0320)
        exact AllReadyIn.nil
      have S1030 : G 7 #[true, false, false, false, true, true, true, false, false, false, false] (cutF T R g n x v undef undef undef (.slice (some ⟨g + 1, 4 * x, none⟩) 4 4) (.pointer (some ⟨g + 1, 4 * x + 2, none⟩)) (.string qb) undef undef undef) W.drew := by
        rw [hG]
        refine wpAnyIn_ready (rs := [1]) (by kernel_rfl) (by simp) ?_
        refine AllReadyIn.cons rfl (fun K hK => ?_) ?_
        · unfold cutF
          go_simp
          exact hK _ _ (gto hG S1130)
        exact AllReadyIn.nil
      have S1120 : G 7 #[true, true, false, false, true, true, false, false, false, false, false] (cutF T R g n x v (.slice (some ⟨g + 1, 4 * x, none⟩) 4 4) undef undef (.slice (some ⟨g + 1, 4 * x, none⟩) 4 4) (.pointer (some ⟨g + 1, 4 * x + 2, none⟩)) undef undef undef undef) W.drew := by
        rw [hG]
        refine wpAnyIn_ready (rs := [2, 6]) (by kernel_rfl) (by simp) ?_
        refine AllReadyIn.cons rfl (fun K hK => ?_) ?_
        · unfold cutF
          go_simp
          exact hK _ _ (gto hG S1220)
        refine AllReadyIn.cons rfl (fun K hK => ?_) ?_
        · unfold cutF
          go_simp
          exact hK _ _ (gto hG S1130)
        exact AllReadyIn.nil
      have S1210 : G 7 #[true, true, true, false, true, false, false, false, false, false, false] (cutF T R g n x v (.slice (some ⟨g + 1, 4 * x, none⟩) 4 4) (.pointer (some ⟨g + 1, 4 * x, none⟩)) undef (.slice (some ⟨g + 1, 4 * x, none⟩) 4 4) undef undef undef undef undef) W.drew := by
        rw [hG]
        refine wpAnyIn_ready (rs := [3, 5]) (by kernel_rfl) (by simp) ?_
        refine AllReadyIn.cons rfl (fun K hK => ?_) ?_
        · unfold cutF
          go_simp
          exact hK _ _ (gto hG S1310)
        refine AllReadyIn.cons rfl (fun K hK => ?_) ?_
        · unfold cutF
          go_simp
          exact hK _ _ (gto hG S1220)
        exact AllReadyIn.nil
      have S1300 : G 7 #[true, true, true, true, false, false, false, false, false, false, false] (cutF T R g n x v (.slice (some ⟨g + 1, 4 * x, none⟩) 4 4) (.pointer (some ⟨g + 1, 4 * x, none⟩)) (.string qa) undef undef undef undef undef undef) W.drew := by
        rw [hG]
        refine wpAnyIn_ready (rs := [4]) (by kernel_rfl) (by simp) ?_
        refine AllReadyIn.cons rfl (fun K hK => ?_) ?_
        · unfold cutF
          go_simp
          exact hK _ _ (gto hG S1310)
        exact AllReadyIn.nil
      have S0030 : G 8 #[false, false, false, false, true, true, true, false, false, false, false] (cutF T R g n x undef undef undef undef (.slice (some ⟨g + 1, 4 * x, none⟩) 4 4) (.pointer (some ⟨g + 1, 4 * x + 2, none⟩)) (.string qb) undef undef undef) W.drew := by
        rw [hG]
        refine wpAnyIn_ready (rs := [0, 1]) (by kernel_rfl) (by simp) ?_
        refine AllReadyIn.cons rfl (fun K hK => ?_) ?_
        · unfold cutF
          go_simp
          exact hK _ _ (gto hG S1030)
        refine AllReadyIn.cons rfl (fun K hK => ?_) ?_
        · unfold cutF
          go_simp
          exact hK _ _ (gto hG S0130)
        exact AllReadyIn.nil
      have S0120 : G 8 #[false, true, false, false, true, true, false, false, false, false, false] (cutF T R g n x undef (.slice (some ⟨g + 1, 4 * x, none⟩) 4 4) undef undef (.slice (some ⟨g + 1, 4 * x, none⟩) 4 4) (.pointer (some ⟨g + 1, 4 * x + 2, none⟩)) undef undef undef undef) W.drew := by
        rw [hG]
        refine wpAnyIn_ready (rs := [0, 2, 6]) (by kernel_rfl) (by simp) ?_
        refine AllReadyIn.cons rfl (fun K hK => ?_) ?_
        · unfold cutF
          go_simp
          exact hK _ _ (gto hG S1120)
        refine AllReadyIn.cons rfl (fun K hK => ?_) ?_
        · unfold cutF
          go_simp
          exact hK _ _ (gto hG S0220)
        refine AllReadyIn.cons rfl (fun K hK => ?_) ?_
        · unfold cutF
          go_simp
          exact hK _ _ (gto hG S0130)
        exact AllReadyIn.nil
      have S0210 : G 8 #[false, true, true, false, true, false, false, false, false, false, false] (cutF T R g n x undef (.slice (some ⟨g + 1, 4 * x, none⟩) 4 4) (.pointer (some ⟨g + 1, 4 * x, none⟩)) undef (.slice (some ⟨g + 1, 4 * x, none⟩) 4 4) undef undef undef undef undef) W.drew := by
        rw [hG]
        refine wpAnyIn_ready (rs := [0, 3, 5]) (by kernel_rfl) (by simp) ?_
        refine AllReadyIn.cons rfl (fun K hK => ?_) ?_
        · unfold cutF
          go_simp
          exact hK _ _ (gto hG S1210)
        refine AllReadyIn.cons rfl (fun K hK => ?_) ?_
        · unfold cutF
          go_simp
          exact hK _ _ (gto hG S0310)
        refine AllReadyIn.cons rfl (fun K hK => ?_) ?_
        · unfold cutF
          go_simp
          exact hK _ _ (gto hG S0220)
        exact AllReadyIn.nil
      have S0300 : G 8 #[false, true, true, true, false, false, false, false, false, false, false] (cutF T R g n x undef (.slice (some ⟨g + 1, 4 * x, none⟩) 4 4) (.pointer (some ⟨g + 1, 4 * x, none⟩)) (.string qa) undef undef undef undef undef undef) W.drew := by
        rw [hG]
        refine wpAnyIn_ready (rs := [0, 4]) (by kernel_rfl) (by simp) ?_
        refine AllReadyIn.cons rfl (fun K hK => ?_) ?_
        · unfold cutF
          go_simp
          exact hK _ _ (gto hG S1300)
        refine AllReadyIn.cons rfl (fun K hK => ?_) ?_
        · unfold cutF
          go_simp
          exact hK _ _ (gto hG S0310)
        exact AllReadyIn.nil
      have S1020 : G 8 #[true, false, false, false, true, true, false, false, false, false, false] (cutF T R g n x v undef undef undef (.slice (some ⟨g + 1, 4 * x, none⟩) 4 4) (.pointer (some ⟨g + 1, 4 * x + 2, none⟩)) undef undef undef undef) W.drew := by
        rw [hG]
        refine wpAnyIn_ready (rs := [1, 6]) (by kernel_rfl) (by simp) ?_
        refine AllReadyIn.cons rfl (fun K hK => ?_) ?_
        · unfold cutF
          go_simp
          exact hK _ _ (gto hG S1120)
        refine AllReadyIn.cons rfl (fun K hK => ?_) ?_
        · unfold cutF
          go_simp
          exact hK _ _ (gto hG S1030)
        exact AllReadyIn.nil
      have S1110 : G 8 #[true, true, false, false, true, false, false, false, false, false, false] (cutF T R g n x v (.slice (some ⟨g + 1, 4 * x, none⟩) 4 4) undef undef (.slice (some ⟨g + 1, 4 * x, none⟩) 4 4) undef undef undef undef undef) W.drew := by
        rw [hG]
        refine wpAnyIn_ready (rs := [2, 5]) (by kernel_rfl) (by simp) ?_
        refine AllReadyIn.cons rfl (fun K hK => ?_) ?_
        · unfold cutF
          go_simp
          exact hK _ _ (gto hG S1210)
        refine AllReadyIn.cons rfl (fun K hK => ?_) ?_
        · unfold cutF
          go_simp
          exact hK _ _ (gto hG S1120)
        exact AllReadyIn.nil
      have S1200 : G 8 #[true, true, true, false, false, false, false, false, false, false, false] (cutF T R g n x v (.slice (some ⟨g + 1, 4 * x, none⟩) 4 4) (.pointer (some ⟨g + 1, 4 * x, none⟩)) undef undef undef undef undef undef undef) W.drew := by
        rw [hG]
        refine wpAnyIn_ready (rs := [3, 4]) (by kernel_rfl) (by simp) ?_
        refine AllReadyIn.cons rfl (fun K hK => ?_) ?_
        · unfold cutF
          go_simp
          exact hK _ _ (gto hG S1300)
        refine AllReadyIn.cons rfl (fun K hK => ?_) ?_
        · unfold cutF
          go_simp
          exact hK _ _ (gto hG S1210)
        exact AllReadyIn.nil
      have S0020 : G 9 #[false, false, false, false, true, true, false, false, false, false, false] (cutF T R g n x undef undef undef undef (.slice (some ⟨g + 1, 4 * x, none⟩) 4 4) (.pointer (some ⟨g + 1, 4 * x + 2, none⟩)) undef undef undef undef) W.drew := by
        rw [hG]
        refine wpAnyIn_ready (rs := [0, 1, 6]) (by kernel_rfl) (by simp) ?_
        refine AllReadyIn.cons rfl (fun K hK => ?_) ?_
        · unfold cutF
          go_simp
          exact hK _ _ (gto hG S1020)
        refine AllReadyIn.cons rfl (fun K hK => ?_) ?_
        · unfold cutF
          go_simp
          exact hK _ _ (gto hG S0120)
        refine AllReadyIn.cons rfl (fun K hK => ?_) ?_
        · unfold cutF
          go_simp
          exact hK _ _ (gto hG S0030)
        exact AllReadyIn.nil
      have S0110 : G 9 #[false, true, false, false, true, false, false, false, false, false, false] (cutF T R g n x undef (.slice (some ⟨g + 1, 4 * x, none⟩) 4 4) undef undef (.slice (some ⟨g + 1, 4 * x, none⟩) 4 4) undef undef undef undef undef) W.drew := by
        rw [hG]
        refine wpAnyIn_ready (rs := [0, 2, 5]) (by kernel_rfl) (by simp) ?_
        refine AllReadyIn.cons rfl (fun K hK => ?_) ?_
        · unfold cutF
          go_simp
          exact hK _ _ (gto hG S1110)
        refine AllReadyIn.cons rfl (fun K hK => ?_) ?_
        · unfold cutF
          go_simp
          exact hK _ _ (gto hG S0210)
        refine AllReadyIn.cons rfl (fun K hK => ?_) ?_
        · unfold cutF
          go_simp
          exact hK _ _ (gto hG S0120)
        exact AllReadyIn.nil
      have S0200 : G 9 #[false, true, true, false, false, false, false, false, false, false, false] (cutF T R g n x undef (.slice (some ⟨g + 1, 4 * x, none⟩) 4 4) (.pointer (some ⟨g + 1, 4 * x, none⟩)) undef undef undef undef undef undef undef) W.drew := by
        rw [hG]
        refine wpAnyIn_ready (rs := [0, 3, 4]) (by kernel_rfl) (by simp) ?_
        refine AllReadyIn.cons rfl (fun K hK => ?_) ?_
        · unfold cutF
          go_simp
          exact hK _ _ (gto hG S1200)
        refine AllReadyIn.cons rfl (fun K hK => ?_) ?_
        · unfold cutF
          go_simp
          exact hK _ _ (gto hG S0300)
        refine AllReadyIn.cons rfl (fun K hK => ?_) ?_
        · unfold cutF
          go_simp
          exact hK _ _ (gto hG S0210)
        exact AllReadyIn.nil
      have S1010 : G 9 #[true, false, false, false, true, false, false, false, false, false, false] (cutF T R g n x v undef undef undef (.slice (some ⟨g + 1, 4 * x, none⟩) 4 4) undef undef undef undef undef) W.drew := by
        rw [hG]
        refine wpAnyIn_ready (rs := [1, 5]) (by kernel_rfl) (by simp) ?_
        refine AllReadyIn.cons rfl (fun K hK => ?_) ?_
        · unfold cutF
          go_simp
          exact hK _ _ (gto hG S1110)
        refine AllReadyIn.cons rfl (fun K hK => ?_) ?_
        · unfold cutF
          go_simp
          exact hK _ _ (gto hG S1020)
        exact AllReadyIn.nil
      have S1100 : G 9 #[true, true, false, false, false, false, false, false, false, false, false] (cutF T R g n x v (.slice (some ⟨g + 1, 4 * x, none⟩) 4 4) undef undef undef undef undef undef undef undef) W.drew := by
        rw [hG]
        refine wpAnyIn_ready (rs := [2, 4]) (by kernel_rfl) (by simp) ?_
        refine AllReadyIn.cons rfl (fun K hK => ?_) ?_
        · unfold cutF
          go_simp
          exact hK _ _ (gto hG S1200)
        refine AllReadyIn.cons rfl (fun K hK => ?_) ?_
        · unfold cutF
          go_simp
          exact hK _ _ (gto hG S1110)
        exact AllReadyIn.nil
      have S0010 : G 10 #[false, false, false, false, true, false, false, false, false, false, false] (cutF T R g n x undef undef undef undef (.slice (some ⟨g + 1, 4 * x, none⟩) 4 4) undef undef undef undef undef) W.drew := by
        rw [hG]
        refine wpAnyIn_ready (rs := [0, 1, 5]) (by kernel_rfl) (by simp) ?_
        refine AllReadyIn.cons rfl (fun K hK => ?_) ?_
        · unfold cutF
          go_simp
          exact hK _ _ (gto hG S1010)
        refine AllReadyIn.cons rfl (fun K hK => ?_) ?_
        · unfold cutF
          go_simp
          exact hK _ _ (gto hG S0110)
        refine AllReadyIn.cons rfl (fun K hK => ?_) ?_
        · unfold cutF
          go_simp
          exact hK _ _ (gto hG S0020)
        exact AllReadyIn.nil
      have S0100 : G 10 #[false, true, false, false, false, false, false, false, false, false, false] (cutF T R g n x undef (.slice (some ⟨g + 1, 4 * x, none⟩) 4 4) undef undef undef undef undef undef undef undef) W.drew := by
        rw [hG]
        refine wpAnyIn_ready (rs := [0, 2, 4]) (by kernel_rfl) (by simp) ?_
        refine AllReadyIn.cons rfl (fun K hK => ?_) ?_
        · unfold cutF
          go_simp
          exact hK _ _ (gto hG S1100)
        refine AllReadyIn.cons rfl (fun K hK => ?_) ?_
        · unfold cutF
          go_simp
          exact hK _ _ (gto hG S0200)
        refine AllReadyIn.cons rfl (fun K hK => ?_) ?_
        · unfold cutF
          go_simp
          exact hK _ _ (gto hG S0110)
        exact AllReadyIn.nil
      have S1000 : G 10 #[true, false, false, false, false, false, false, false, false, false, false] (cutF T R g n x v undef undef undef undef undef undef undef undef undef) W.drew := by
        rw [hG]
        refine wpAnyIn_ready (rs := [1, 4]) (by kernel_rfl) (by simp) ?_
        refine AllReadyIn.cons rfl (fun K hK => ?_) ?_
        · unfold cutF
          go_simp
          exact hK _ _ (gto hG S1100)
        refine AllReadyIn.cons rfl (fun K hK => ?_) ?_
        · unfold cutF
          go_simp
          exact hK _ _ (gto hG S1010)
        exact AllReadyIn.nil
      have S0000 : G 11 #[false, false, false, false, false, false, false, false, false, false, false] (cutF T R g n x undef undef undef undef undef undef undef undef undef undef) W.drew := by
        rw [hG]
        refine wpAnyIn_ready (rs := [0, 1, 4]) (by kernel_rfl) (by simp) ?_
        refine AllReadyIn.cons rfl (fun K hK => ?_) ?_
        · unfold cutF
          go_simp
          exact hK _ _ (gto hG S1000)
        refine AllReadyIn.cons rfl (fun K hK => ?_) ?_
        · unfold cutF
          go_simp
          exact hK _ _ (gto hG S0100)
        refine AllReadyIn.cons rfl (fun K hK => ?_) ?_
        · unfold cutF
          go_simp
          exact hK _ _ (gto hG S0010)
        exact AllReadyIn.nil
      exact S0000
    case done =>
      rintro D ys W hD rfl hC hK
      obtain ⟨v, hv, hown⟩ := hC.own
      have f0 : W.cell? ⟨g, 0, none⟩ = some v := hv.cell 0
      have hl : (List.finRange n).map (atP l n) = l := by
        refine same_all (by simp [HN.out]) fun j hj => ?_
        rw [List.length_map, List.length_finRange] at hj
        rw [List.getD_eq_getElem?_getD, List.getElem?_map, List.getElem?_eq_getElem (by simpa using hj)]
        simp [atP]
      rw [hl, HN.out] at hown
      obtain ⟨A2, c2, rfl⟩ := own_slice hown
      have hgr := grownBy_putObj' W D (.deferred none)
      have hnc : ∀ r, some D = some r → ∃ o : Obj, W.heap[r]? = some o ∧ o.isCells = false := fun r e => by cases e; exact ⟨_, hK, rfl⟩
      have HF : Hid (Ps (W.putObj D (.deferred none)) A2 n c2 l ∧ Past w (W.putObj D (.deferred none))) := Lib.hid ⟨Ps.of_own (own_kept hown hgr hnc), hC.past.grown hgr hC.past.size (fun k e => by cases e; have := HPW.out.size; omega)⟩
      gi_wp2
      refine ⟨by simp, .inl ⟨_, _, rfl, run_takeDeferred hK, ?_⟩⟩
      refine ⟨_, results_tmp (fn := Tryd.f25) (t := 2) rfl _ _ _, ?_⟩
      exact ⟨A2, c2, rfl, HF.out.1, HF.out.2⟩
    case stop =>
      rintro D cc pre W hD _ h
      exact h.elim

end Go.Proofs.YtclnoblcdaimiaaDoor
