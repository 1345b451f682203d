/- The program's Label. -/
import Derived.Laws.EntriesVeiled
import Derived.Test.YtnnonidiogoffaaGreatDoorPm12C
namespace Go.Proofs.YtnnonidiogoffaaGreatDoor
open Go.RowKit Go.Shelf
set_option linter.unusedVariables false
attribute [local go_sem] Oper.semAt_some

theorem splitSeq_any (s : ByteArray) (w : World) : Calls Tryz.prog 34 #[.string s, .string ⟨#[32]⟩] w fun e w' =>
    e = .returned (.func (.func 73) #[] #[.pointer (some ⟨w.heap.size + 1, 0, none⟩), .pointer (some ⟨w.heap.size, 0, none⟩), .pointer (some ⟨w.heap.size + 1 + 1, 0, none⟩)]) ∧
      w' = ((w.alloc (.cells #[.string s] 9)).alloc (.cells #[.string ⟨#[32]⟩] 9)).alloc (.cells #[.int .i64 0] 3) := by
  go_enter Tryz.func34, Tryz.ntmps34
  go_wp2_with (go_at_call 58; go_enter Tryz.func58, Tryz.ntmps58)
  go_ret
  go_wp2_with fail
theorem split_box (b1 b2 b3 : Nat) (s : ByteArray) (q : Nat) (hq : (spl 32 (ints s)).length = q) (hs : s.size ≤ 1000000) (h12 : b1 ≠ b2) (h32 : b3 ≠ b2) (w : World) (hr1 : Row w b1 9 #[.string ⟨#[32]⟩]) (hr2 : Row w b2 9 #[.string s]) (hr3 : Row w b3 3 #[.int .i64 0]) :
    SeqBox Tryz.prog 73 #[.pointer (some ⟨b1, 0, none⟩), .pointer (some ⟨b2, 0, none⟩), .pointer (some ⟨b3, 0, none⟩)] (encP s q) b1 b2 b3 b2 (fun ys => ys = List.finRange q) (fun pre => ∃ k, k ≤ q ∧ pre = starts q k) q w :=
  fun l J Jx W hW hJ hY h0 => split1_in l b1 b2 b3 s q hq hs h12 h32 J Jx hJ hY W (hr1.past hW) (hr2.past hW) (hr3.past hW) h0

set_option maxRecDepth 100000 in
theorem next_any (p : ByteArray) (gw m : Nat) (w : World) (hr : Row w gw 3 #[.int .i64 (m : Int)]) (hm : m ≤ 1000000) :
    Calls Tryz.prog 32 #[.string p, .pointer (some ⟨gw, 0, none⟩)] w fun e w' => e = .returned (.bool (decide (m + 1 ≤ 5) && wordB (ints p))) ∧ Past (w.setCell ⟨gw, 0, none⟩ (.int .i64 ((m + 1 : Nat) : Int))) w' := by
  have HIW := Lib.hid (fun w => isWord_any p w)
  have c0 : w.cell? ⟨gw, 0, none⟩ = some (.int .i64 (m : Int)) := hr.cell 0
  have f0 : w.frozen? ⟨gw, 0, none⟩ = false := hr.fr 0
  have HR := Lib.hid (hr.set 0 (.int .i64 ((m + 1 : Nat) : Int)))
  have hbig : (m : Int) ≤ 1000000 := by omega
  have hw1 : IntKind.i64.wrap ((m : Int) + 1) = ((m + 1 : Nat) : Int) := by rw [IntKind.wrap_i64]; omega
  obtain ⟨M, hM⟩ : ∃ M, m + 1 = M := ⟨_, rfl⟩
  rw [hM] at hw1 HR ⊢
  have c1 : (w.setCell ⟨gw, 0, none⟩ (.int .i64 (M : Int))).cell? ⟨gw, 0, none⟩ = some (.int .i64 (M : Int)) := HR.out.cell 0
  by_cases h5 : M ≤ 5
  · have h5i : (M : Int) ≤ 5 := by omega
    have HU : Hid ((decide (M ≤ 5) && wordB (ints p)) = wordB (ints p)) := Lib.hid (by rw [decide_eq_true h5]; rfl)
    rw [HU.out]
    clear hM hr hm h5
    go_enter Tryz.func32, Tryz.ntmps32
    go_wp2_with fail
    refine (HIW.out _).mono ?_
    rintro e w' ⟨rfl, hp⟩
    have HP := Lib.hid hp
    clear hp
    go_wp2_with fail
    go_ret
    exact ⟨rfl, HP.out⟩
  · have h5i : ¬ (M : Int) ≤ 5 := by omega
    have HU : Hid ((decide (M ≤ 5) && wordB (ints p)) = false) := Lib.hid (by rw [decide_eq_false h5]; rfl)
    rw [HU.out]
    clear hM hr hm h5
    go_enter Tryz.func32, Tryz.ntmps32
    go_wp2_with fail
    go_ret
    exact ⟨rfl, Below.refl _ _⟩

theorem wordsB_app (ps rs : List (List Int)) : ∀ n, wordsB (ps ++ rs) n = (wordsB ps n && wordsB rs (n + ps.length)) := by
  induction ps with
  | nil => intro n; simp [wordsB]
  | cons p ps ih =>
    intro n
    rw [List.cons_append, wordsB, wordsB, ih, List.length_cons, Bool.and_assoc, show n + 1 + ps.length = n + (ps.length + 1) by omega]
    simp only [Bool.and_assoc]
/-- The words of a list of places. -/
def wds (s : ByteArray) (q : Nat) (pre : List (Fin q)) : List (List Int) := pre.map fun x => (spl 32 (ints s)).getD x.1 []
theorem wds_all (s : ByteArray) (q : Nat) (hq : (spl 32 (ints s)).length = q) : wds s q (List.finRange q) = spl 32 (ints s) := by
  refine List.ext_getElem (by simp [wds, hq]) fun j h1 h2 => ?_
  simp [wds, List.getElem?_eq_getElem h2]
theorem wds_starts (s : ByteArray) (q k : Nat) (hq : (spl 32 (ints s)).length = q) (h : wordsB (wds s q (starts q k)) 0 = false) : labB (ints s) = false := by
  rw [labB_words, ← wds_all s q hq, ← List.take_append_drop k (List.finRange q)]
  unfold wds starts at *
  rw [List.map_append, wordsB_app, h]
  rfl
/-- What Label's rounds keep: the result's cell, the words told so far, the function in its box. -/
structure Li (w : World) (g : Nat) (s : ByteArray) (q : Nat) (pre : List (Fin q)) (W : World) : Prop where
  past : Past w W
  rr : Row W g 4 #[.bool false]
  rn : Row W (g + 1) 3 #[.int .i64 (pre.length : Int)]
  rf : Row W (g + 1 + 1) 37 #[.func (.func 32) #[] #[.pointer (some ⟨g + 1, 0, none⟩)]]
  ok : wordsB (wds s q pre) 0 = true
  sz : g + 1 + 1 + 1 + 1 + 1 + 1 ≤ W.heap.size
structure Lx (w : World) (g : Nat) (s : ByteArray) (q : Nat) (pre : List (Fin q)) (W : World) : Prop where
  past : Past w W
  rr : Row W g 4 #[.bool false]
  no : wordsB (wds s q pre) 0 = false
theorem Li.step {w A B : World} {g : Nat} {s : ByteArray} {q : Nat} {pre : List (Fin q)} {X : Nat} (h : Li w g s q pre A) (hX : g + 1 + 1 < X) (hg : w.heap.size = g) (hs : stepB X A B) : Li w g s q pre B := by
  rcases hs with hs | ⟨v, rfl⟩
  · exact ⟨h.past.grown hs h.past.size fun k e => by (cases e), Row.grown h.rr hs (fun e => by cases e), Row.grown h.rn hs (fun e => by cases e), Row.grown h.rf hs (fun e => by cases e), h.ok, Nat.le_trans h.sz hs.size⟩
  · exact ⟨h.past.setCell (by show _ ≤ X; omega) v, row_setOther h.rr (by omega) 0 v, row_setOther h.rn (by omega) 0 v, row_setOther h.rf (by omega) 0 v, h.ok, by have := h.sz; simp [World.setCell]; omega⟩
theorem row_put {W : World} {b r : Nat} {t : TypeId} {cs : Array Value} {o : Obj} (h : Row W b t cs) (hne : b ≠ r) : Row (W.putObj r o) b t cs := (World.putObj_heap_other hne).trans h
theorem past_put {w W : World} {r : Nat} {o : Obj} (h : Past w W) (hr : w.heap.size ≤ r) : Past w (W.putObj r o) := h.grown (grownBy_putObj' W r o) h.size fun k e => by cases e; exact hr
theorem Li.put {w A : World} {g : Nat} {s : ByteArray} {q : Nat} {pre : List (Fin q)} {r : Nat} {o : Obj} (h : Li w g s q pre A) (hr : g + 1 + 1 < r) (hg : w.heap.size = g) : Li w g s q pre (A.putObj r o) :=
  ⟨past_put h.past (by omega), row_put h.rr (by omega), row_put h.rn (by omega), row_put h.rf (by omega), h.ok, by have := h.sz; rw [World.putObj_size]; exact this⟩
theorem Lx.put {w A : World} {g : Nat} {s : ByteArray} {q : Nat} {pre : List (Fin q)} {r : Nat} {o : Obj} (h : Lx w g s q pre A) (hr : g + 1 + 1 < r) (hg : w.heap.size = g) : Lx w g s q pre (A.putObj r o) :=
  ⟨past_put h.past (by omega), row_put h.rr (by omega), h.no⟩
theorem keeps_past {W W' : World} (h : Past W W') : KeepsOthers W W' := KeepsOthers.of_grownBy (only_of_past h none) (fun j o e => by cases e)
theorem past_alloc8 (w : World) (o : Obj) : Past w (w.alloc o) := (Below.refl w.heap.size w).alloc (Nat.le_refl _) o
theorem load_bool (w : World) (g : Nat) (b : Bool) (hg : Row w g 4 #[.bool b]) : (loadVar 4 ⟨g, 0, none⟩).run Tryz.prog w = .ok (.bool b) w := by
  have h := hg.cell 0
  have h' : w.cell? ⟨g, 0, none⟩ = some (.bool b) := h
  simp [go_sem, h']
theorem results_c1 {fn : Func} {p : Tmp} {ty : TypeId} (h : fn.results = #[.cell p ty]) (tmps : Array Value) {P : Program} (w : World) (a : Addr) (v : Value)
    (hp : tmps.getD p undef = .pointer (some a)) (hl : (loadVar ty a).run P w = .ok v w) : (results fn tmps).run P w = .ok v w := by
  have hp' : tmps[p]?.getD undef = .pointer (some a) := by simpa using hp
  simp only [results, h]
  simp [hp', asAddr, hl]

set_option maxHeartbeats 4000000 in
set_option maxRecDepth 100000 in
theorem label_any (s : ByteArray) (w : World) (hs : s.size ≤ 1000000) : Calls Tryz.prog 15 #[.string s] w fun e w' => e = .returned (.bool (labB (ints s))) ∧ Past w w' := by
  have HSS := Lib.hid (fun w => splitSeq_any s w)
  have HNX := Lib.hid (fun p gw m w => next_any p gw m w)
  have HS := Lib.hid hs
  obtain ⟨q, hq⟩ : ∃ q, (spl 32 (ints s)).length = q := ⟨_, rfl⟩
  have HQ := Lib.hid hq
  have HQ1 : Hid (q ≤ 1000001) := Lib.hid (by have := spl_len_le 32 (ints s); have := ints_len s; omega)
  have eg : ∀ args w, (callFunc 32 args).run Tryz.prog w = .ok (.enter 32 args) w := enters_of Tryz.func32 (by kernel_rfl) rfl
  clear hs hq
  refine (callsIn_wide (n := 3)).1 ?_
  refine callsIn_of_wp_marks Tryz.func15 rfl trivial ?_ rfl
  simp only [Tryz.ntmps15, List.size_toArray, List.length_cons, List.length_nil, Nat.reduceAdd, Nat.reduceSub, Array.replicate_succ, Array.replicate_zero, List.push_toArray, List.append_toArray, List.nil_append, List.cons_append]
  gi_wp2_with (first | (refine ⟨trivial, ?_⟩; gi_at_call 34; refine (callsIn_wide.2 (HSS.out _)).mono ?_; rintro e w2 ⟨rfl, rfl⟩))
  obtain ⟨g, hg⟩ : ∃ g, w.heap.size = g := ⟨_, rfl⟩
  obtain ⟨w1, hw1⟩ : ∃ w1, w1 = w.alloc (.cells #[.bool false] 4) := ⟨_, rfl⟩
  obtain ⟨w2, hw2⟩ : ∃ w2, w2 = w1.alloc (.cells #[.int .i64 0] 3) := ⟨_, rfl⟩
  obtain ⟨w3, hw3⟩ : ∃ w3, w3 = w2.alloc (.cells #[.func (.func 32) #[] #[.pointer (some ⟨g + 1, 0, none⟩)]] 37) := ⟨_, rfl⟩
  obtain ⟨w4, hw4⟩ : ∃ w4, w4 = w3.alloc (.cells #[.string s] 9) := ⟨_, rfl⟩
  obtain ⟨w5, hw5⟩ : ∃ w5, w5 = w4.alloc (.cells #[.string ⟨#[32]⟩] 9) := ⟨_, rfl⟩
  obtain ⟨W0, hW0⟩ : ∃ W0, W0 = w5.alloc (.cells #[.int .i64 0] 3) := ⟨_, rfl⟩
  rw [hg, ← hw1, ← hw2, ← hw3, ← hw4, ← hw5, ← hW0]
  have z1 : w1.heap.size = g + 1 := by rw [hw1]; simp [hg]
  have z2 : w2.heap.size = g + 1 + 1 := by rw [hw2]; simp [z1]
  have z3 : w3.heap.size = g + 1 + 1 + 1 := by rw [hw3]; simp [z2]
  have z4 : w4.heap.size = g + 1 + 1 + 1 + 1 := by rw [hw4]; simp [z3]
  have z5 : w5.heap.size = g + 1 + 1 + 1 + 1 + 1 := by rw [hw5]; simp [z4]
  have z0 : W0.heap.size = g + 1 + 1 + 1 + 1 + 1 + 1 := by rw [hW0]; simp [z5]
  have p5 : Past w5 W0 := by rw [hW0]; exact past_alloc8 _ _
  have p4 : Past w4 W0 := Past.trans' (by rw [hw5]; exact past_alloc8 _ _) p5
  have p3 : Past w3 W0 := Past.trans' (by rw [hw4]; exact past_alloc8 _ _) p4
  have p2 : Past w2 W0 := Past.trans' (by rw [hw3]; exact past_alloc8 _ _) p3
  have p1 : Past w1 W0 := Past.trans' (by rw [hw2]; exact past_alloc8 _ _) p2
  have p0 : Past w W0 := Past.trans' (by rw [hw1]; exact past_alloc8 _ _) p1
  have r0 : Row W0 g 4 #[.bool false] := Row.past (by rw [hw1, ← hg]; exact Row.new _ _ _) p1
  have r1 : Row W0 (g + 1) 3 #[.int .i64 0] := Row.past (by rw [hw2, ← z1]; exact Row.new _ _ _) p2
  have r2 : Row W0 (g + 1 + 1) 37 #[.func (.func 32) #[] #[.pointer (some ⟨g + 1, 0, none⟩)]] := Row.past (by rw [hw3, ← z2]; exact Row.new _ _ _) p3
  have r3 : Row W0 (g + 1 + 1 + 1) 9 #[.string s] := Row.past (by rw [hw4, ← z3]; exact Row.new _ _ _) p4
  have r4 : Row W0 (g + 1 + 1 + 1 + 1) 9 #[.string ⟨#[32]⟩] := Row.past (by rw [hw5, ← z4]; exact Row.new _ _ _) p5
  have r5 : Row W0 (g + 1 + 1 + 1 + 1 + 1) 3 #[.int .i64 0] := by rw [hW0, ← z5]; exact Row.new _ _ _
  have HG := Lib.hid hg
  have H0 : Hid (Li w g s q [] W0) := Lib.hid ⟨p0, r0, r1, r2, rfl, by omega⟩
  have HR : Hid (Row W0 (g + 1 + 1 + 1) 9 #[.string s] ∧ Row W0 (g + 1 + 1 + 1 + 1) 9 #[.string ⟨#[32]⟩] ∧ Row W0 (g + 1 + 1 + 1 + 1 + 1) 3 #[.int .i64 0]) := Lib.hid ⟨r3, r4, r5⟩
  have HZ := Lib.hid z0
  clear hw1 hw2 hw3 hw4 hw5 hW0 z1 z2 z3 z4 z5 z0 p0 p1 p2 p3 p4 p5 r0 r1 r2 r3 r4 r5 hg
  refine range_box (gf := 73) (lb := #[.pointer (some ⟨g + 1 + 1 + 1 + 1, 0, none⟩), .pointer (some ⟨g + 1 + 1 + 1, 0, none⟩), .pointer (some ⟨g + 1 + 1 + 1 + 1 + 1, 0, none⟩)]) rfl (enters_of Tryz.func73 (by kernel_rfl) rfl)
    (b1 := g + 1 + 1 + 1 + 1) (b2 := g + 1 + 1 + 1) (b3 := g + 1 + 1 + 1 + 1 + 1) (X := g + 1 + 1 + 1) (by rw [HZ.out]; omega) (by rw [HZ.out]; omega) (by rw [HZ.out]; omega) (by rw [HZ.out]; omega)
    (split_box _ _ _ s q HQ.out HS.out (by omega) (by omega) W0 HR.out.2.1 HR.out.1 HR.out.2.2) (fun _ => rfl)
    (fun pre W => Li w g s q pre W) (fun pre W => Lx w g s q pre W)
    (fun t A B h hs => h.step (by omega) HG.out hs) (fun t A r o o' h hr _ _ => h.put (by rw [HZ.out] at hr; omega) HG.out) (fun t A r o o' h hr _ _ => h.put (by rw [HZ.out] at hr; omega) HG.out)
    H0.out
    (fun (x : Fin q) => { tmps := #[.string s, undef, .pointer (some ⟨g, 0, none⟩), .pointer (some ⟨g + 1, 0, none⟩), .pointer (some ⟨g + 1 + 1, 0, none⟩), .string (pieceS s x.1), .func (.func 32) #[] #[.pointer (some ⟨g + 1, 0, none⟩)], .string s,
      .func (.func 73) #[] #[.pointer (some ⟨g + 1 + 1 + 1 + 1, 0, none⟩), .pointer (some ⟨g + 1 + 1 + 1, 0, none⟩), .pointer (some ⟨g + 1 + 1 + 1 + 1 + 1, 0, none⟩)], .string (pieceS s x.1), undef, undef, undef, undef], defers := [] }) ?assign ?body ?done ?stop
  case assign =>
    intro l x W KK hKK
    unfold encP
    gi_wp2
    exact hKK
  case body =>
    intro l pre x W hL hlt
    have c2 : W.cell? ⟨g + 1 + 1, 0, none⟩ = some (.func (.func 32) #[] #[.pointer (some ⟨g + 1, 0, none⟩)]) := hL.rf.cell 0
    have HN := Lib.hid (HNX.out (pieceS s x.1) (g + 1) pre.length W hL.rn (by have := HQ1.out; omega))
    have HLI := Lib.hid hL
    have hwd : wordsB (wds s q (pre ++ [x])) 0 = (decide (pre.length + 1 ≤ 5) && wordB (ints (pieceS s x.1))) := by
      unfold wds
      rw [List.map_append, wordsB_app]
      have := hL.ok
      unfold wds at this
      rw [this, piece_ints]
      simp [wordsB]
    have HW := Lib.hid hwd
    clear hwd hL
    rw [← HW.out] at HN
    clear HW
    obtain ⟨r, hr⟩ : ∃ r, wordsB (wds s q (pre ++ [x])) 0 = r := ⟨_, rfl⟩
    rw [hr] at HN
    have HRR := Lib.hid hr
    clear hr
    cases r with
    | true =>
      gi_wp2_with (first | (refine ⟨trivial, ?_⟩; gi_at_call 32; refine (CallsIn.inRound l (callsIn_wide.2 HN.out)).mono ?_; rintro ee W2 ⟨rfl, hp2⟩))
      have hz := HLI.out.sz
      have hz2 : ∀ v, (W.setCell ⟨g + 1, 0, none⟩ v).heap.size = W.heap.size := fun v => by simp [World.setCell]
      have hblk : ∀ k, k < W.heap.size → k ≠ g + 1 → W2.heap[k]? = W.heap[k]? := fun k hk hne => (hp2.block k (by rw [hz2]; exact hk)).trans (Below.heap_setCell W ⟨g + 1, 0, none⟩ _ k hne)
      refine ⟨(KeepsOthers.setCell W _ _).trans (keeps_past hp2), ⟨hblk _ (by omega) (by omega), hblk _ (by omega) (by omega), hblk _ (by omega) (by omega)⟩, ⟨?_, ?_, ?_, ?_, HRR.out, ?_⟩⟩
      · have q1 : Past w (W.setCell ⟨g + 1, 0, none⟩ (.int .i64 ((pre.length + 1 : Nat) : Int))) := HLI.out.past.setCell (by show _ ≤ g + 1; have := HG.out; omega) _
        exact q1.trans' hp2
      · exact (row_setOther HLI.out.rr (by omega) 0 _).past hp2
      · have := (HLI.out.rn.set 0 (.int .i64 ((pre.length + 1 : Nat) : Int))).past hp2
        rw [List.length_append]
        exact this
      · exact (row_setOther HLI.out.rf (by omega) 0 _).past hp2
      · have := hp2.size
        rw [hz2] at this
        omega
    | false =>
      gi_wp2_with (first | (refine ⟨trivial, ?_⟩; gi_at_call 32; refine (CallsIn.inRound l (callsIn_wide.2 HN.out)).mono ?_; rintro ee W2 ⟨rfl, hp2⟩; have HRW := Lib.hid ((row_setOther HLI.out.rr (show g + 1 ≠ g by omega) 0 (.int .i64 ((pre.length + 1 : Nat) : Int))).past hp2); have f0 : W2.cell? ⟨g, 0, none⟩ = some (.bool false) := HRW.out.cell 0; have f1 : W2.frozen? ⟨g, 0, none⟩ = false := HRW.out.fr 0; have HP2 := Lib.hid hp2; clear hp2))
      refine ⟨((KeepsOthers.setCell W _ _).trans (keeps_past HP2.out)).trans (KeepsOthers.setCell _ _ _), ⟨?_, HRW.out.set 0 _, HRR.out⟩⟩
      have q1 : Past w (W.setCell ⟨g + 1, 0, none⟩ (.int .i64 ((pre.length + 1 : Nat) : Int))) := HLI.out.past.setCell (by show _ ≤ g + 1; have := HG.out; omega) _
      exact (q1.trans' HP2.out).setCell (by show _ ≤ g; have := HG.out; omega) _
  case done =>
    rintro D ys W hD rfl hL hK
    have f0 : W.cell? ⟨g, 0, none⟩ = some (.bool false) := hL.rr.cell 0
    have f1 : W.frozen? ⟨g, 0, none⟩ = false := hL.rr.fr 0
    have HLL := Lib.hid hL
    have HKK := Lib.hid hK
    have HDD := Lib.hid hD
    clear hL hK hD
    gi_wp2
    have hK' := (KeepsOthers.setCell W ⟨g, 0, none⟩ (.bool true)).same D _ HKK.out rfl
    refine ⟨by simp, .inl ⟨_, _, rfl, run_takeDeferred hK', ?_⟩⟩
    have hgD : g ≠ D := by have := HDD.out; rw [HZ.out] at this; omega
    refine ⟨_, results_c1 rfl _ _ ⟨g, 0, none⟩ _ rfl (load_bool _ g true (row_put (HLL.out.rr.set 0 (.bool true)) hgD)), ?_⟩
    refine ⟨?_, past_put (HLL.out.past.setCell (by show _ ≤ g; have := HG.out; omega) _) (by have := HDD.out; rw [HZ.out] at this; have := HG.out; omega)⟩
    have := HLL.out.ok
    rw [wds_all s q HQ.out] at this
    rw [labB_words, this]
  case stop =>
    rintro D pre W hD ⟨k, hk, rfl⟩ hL hK
    have HLL := Lib.hid hL
    have HKK := Lib.hid hK
    have HDD := Lib.hid hD
    clear hL hK hD
    gi_wp2
    refine ⟨by simp, .inl ⟨_, _, rfl, run_takeDeferred HKK.out, ?_⟩⟩
    have hgD : g ≠ D := by have := HDD.out; rw [HZ.out] at this; omega
    refine ⟨_, results_c1 rfl _ _ ⟨g, 0, none⟩ _ rfl (load_bool _ g false (row_put HLL.out.rr hgD)), ?_⟩
    refine ⟨?_, past_put HLL.out.past (by have := HDD.out; rw [HZ.out] at this; have := HG.out; omega)⟩
    rw [wds_starts s q k HQ.out HLL.out.no]
end Go.Proofs.YtnnonidiogoffaaGreatDoor
