/- The library's slices.Chunk at strings, four by four: its iterator. -/
import Derived.RangeFuncFrom
import Derived.RangeFuncNested
import Derived.RangeFuncBound
import Derived.RangeFuncCalls
import Derived.RangeFuncLeaves
import Derived.Shelf.Abstract
import Derived.Shelf.RegionOpen
import Derived.OwnWalkIn
import Derived.TacticsInMore
import Derived.LoopNIn
import Derived.LoopIn
import Derived.Test.YtclnoblcdaimiaaDoorJs11C
namespace Go.Proofs.YtclnoblcdaimiaaDoor
open Go.RowKit Go.Shelf
set_option linter.unusedVariables false
attribute [local go_sem] Oper.semAt_some

/-- Two blocks lie as they lay. -/
structure KR (a b : Nat) (W W' : World) : Prop where
  ha : W'.heap[a]? = W.heap[a]?
  hb : W'.heap[b]? = W.heap[b]?
theorem KR.refl (a b : Nat) (W : World) : KR a b W W := ⟨rfl, rfl⟩
theorem KR.trans {a b : Nat} {A B C : World} (h : KR a b A B) (k : KR a b B C) : KR a b A C := ⟨k.ha.trans h.ha, k.hb.trans h.hb⟩
theorem KR_b {a b : Nat} {w : World} (ha : a < w.heap.size) (hb : b < w.heap.size) (W : World) (l : Nat) (o o' : Obj) (hl : w.heap.size ≤ l) (h : W.heap[l]? = some o) (_ : o.isCells = false) (_ : o.isWalk = false) : KR a b W (W.putObj l o') :=
  ⟨World.putObj_heap_other (by omega), World.putObj_heap_other (by omega)⟩
/-- The first k groups. -/
def starts (q k : Nat) : List (Fin q) := (List.finRange q).take k
theorem starts_succ (q k : Nat) (h : k < q) : starts q k ++ [⟨k, h⟩] = starts q (k + 1) := by
  unfold starts
  rw [List.take_succ_eq_append_getElem (by simpa using h)]
  simp
theorem starts_len (q k : Nat) (h : k ≤ q) : (starts q k).length = k := by
  unfold starts
  simp
  omega
theorem starts_all (q : Nat) : starts q q = List.finRange q := by
  unfold starts
  rw [List.take_of_length_le (by simp)]
/-- What a round is handed: the group at a place. -/
def encC (b o q : Nat) (x : Fin q) : Array Value := #[.slice (some ⟨b, o + 4 * x.1, none⟩) 4 4]

set_option maxRecDepth 100000 in
theorem slice3_10 (b o m d i : Nat) (e : Nat) (hi : i < m) (he : i + e ≤ m) (h1 : 1 ≤ e) (hm : m ≤ d) (w : World) : (Instr.slice 81 (.slice (some ⟨b, o, none⟩) m d) (some (.int .i64 (i : Int))) (some (.int .i64 ((i : Int) + (e : Int)))) (some (.int .i64 ((i : Int) + (e : Int))))).run Tryd.prog w = .ok (.slice (some ⟨b, o + i, none⟩) e e) w := by
  rw [run_slice_lhm w 81 (some ⟨b, o, none⟩) m d Tryd.underlying81 .i64 .i64 .i64 (i : Int) ((i : Int) + (e : Int)) ((i : Int) + (e : Int)) (by omega) (by omega) (by omega) (by omega)]
  have hs : (sizeOf (Tryd.prog.elem 81)).run Tryd.prog w = .ok 1 w := by kernel_rfl
  rw [hs]
  simp only [Result.andThen, sliced, Int.toNat_natCast, show ((i : Int) + (e : Int)).toNat = i + e by omega]
  rw [if_neg (by omega), Option.map_some, Nat.mul_one, add_none, Nat.add_sub_cancel_left]
set_option maxRecDepth 100000 in
theorem slice1_10 (b o m d i : Nat) (hi : i ≤ m) (hm : m ≤ d) : ∃ X c, ∀ w, (Instr.slice 81 (.slice (some ⟨b, o, none⟩) m d) (some (.int .i64 (i : Int))) none none).run Tryd.prog w = .ok (.slice X (m - i) c) w := by
  refine ⟨(if d = i then some (⟨b, o, none⟩ : Addr) else (some (⟨b, o, none⟩ : Addr)).map (·.add (i * 1))), d - i, fun w => ?_⟩
  rw [run_slice_l w 81 (some ⟨b, o, none⟩) m d Tryd.underlying81 .i64 (i : Int) (by omega) (by omega)]
  have hs : (sizeOf (Tryd.prog.elem 81)).run Tryd.prog w = .ok 1 w := by kernel_rfl
  rw [hs]
  simp only [Result.andThen, sliced, Int.toNat_natCast]

set_option maxRecDepth 100000 in
set_option maxHeartbeats 4000000 in
theorem chunk1_in (F : Fence) (n : Nat) (h7 : F.fn 58) (hro : F.round = none) (hn : 1 ≤ n) (l Bs Bn b o q m d : Nat) (hqm : m = 4 * q) (hm : m ≤ d) (hd : m ≤ 1000000000) (J Jx : List (Fin q) → World → Prop) (hJd : ∀ s A, J s A → J s A.drew)
    (hY : ∀ pre x W, J pre W → pre.length < q → YieldAt F (n - 1) Tryd.prog l (encC b o q x) W fun e W' =>
      (e = .returned (.bool true) ∧ J (pre ++ [x]) W' ∧ KR Bs Bn W W') ∨ (e = .returned (.bool false) ∧ Jx (pre ++ [x]) W'))
    (W : World) (hBs : W.cell? ⟨Bs, 0, none⟩ = some (.slice (some ⟨b, o, none⟩) m d)) (hBn : W.cell? ⟨Bn, 0, none⟩ = some (.int .i64 4)) (h0 : J [] W) :
    CallsIn F n Tryd.prog 58 #[.func (.yield l) #[] #[], .pointer (some ⟨Bs, 0, none⟩), .pointer (some ⟨Bn, 0, none⟩)] W fun e W' => (∃ v, e = .returned v) ∧
      ((∃ ys, ys = List.finRange q ∧ J ys W') ∨ (∃ pre, (∃ k, k ≤ q ∧ pre = starts q k) ∧ Jx pre W')) := by
  refine callsIn_of_wp Tryd.func58 rfl h7 ?_ hro
  simp only [Tryd.ntmps58, List.size_toArray, List.length_cons, List.length_nil, Nat.reduceAdd, Nat.reduceSub, Array.replicate_succ, Array.replicate_zero, List.push_toArray, List.append_toArray, List.nil_append, List.cons_append]
  gi_wp2
  gi_loopw [4, 5] (fun i _ wr => ∃ k : Nat, k ≤ q ∧ i = .int .i64 ((4 * k : Nat) : Int) ∧ J (starts q k) wr ∧ KR Bs Bn W wr)
    (fun i _ _ => m + 4 - (intOf i).toNat)
  case atStart => exact ⟨0, Nat.zero_le _, rfl, h0, KR.refl _ _ _⟩
  case round =>
    obtain ⟨k, hk, rfl, hJs, hnx⟩ := hrel
    have q1 : wr.cell? ⟨Bs, 0, none⟩ = some (.slice (some ⟨b, o, none⟩) m d) := (World.cell?_of_block (a := ⟨Bs, 0, none⟩) hnx.ha).trans hBs
    have q2 : wr.cell? ⟨Bn, 0, none⟩ = some (.int .i64 4) := (World.cell?_of_block (a := ⟨Bn, 0, none⟩) hnx.hb).trans hBn
    obtain ⟨i, hi⟩ : ∃ i, 4 * k = i := ⟨_, rfl⟩
    rw [hi]
    by_cases hlt : i < m
    · have hlti : (i : Int) < (m : Int) := by omega
      obtain ⟨X, c, hsl⟩ := slice1_10 b o m d i (by omega) hm
      have hml : ((m - i : Nat) : Int) = (m : Int) - (i : Int) := by omega
      have hkq : k < q := by omega
      obtain ⟨fn, tmps, assign, body, hy, hR⟩ := hY _ ⟨k, hkq⟩ wr.drew (hJd _ _ hJs) (by rw [starts_len q k hk]; omega)
      dsimp only [encC] at hy
      rw [hi] at hy
      have hi4 : i + 4 ≤ m := by omega
      have hs3 := slice3_10 b o m d i 4 hlt hi4 (by omega) hm
      have hmin : (4 : Int) ≤ (m : Int) - (i : Int) := by omega
      have hmin1 : ¬ (m : Int) - (i : Int) < 4 := by omega
      have hmin2 : (4 : Int) ≤ ((m - i : Nat) : Int) := by omega
      have hw1 : IntKind.i64.wrap ((i : Int) + 4) = (i : Int) + 4 := by rw [IntKind.wrap_i64]; omega
      have hw2 : IntKind.i64.wrap ((i : Int) + 4) = ((i + 4 : Nat) : Int) := by rw [IntKind.wrap_i64]; omega
      have hmx : Tryd.prog.follows .mixedOrders = true := by kernel_rfl
      have q1d : wr.drew.cell? ⟨Bs, 0, none⟩ = some (.slice (some ⟨b, o, none⟩) m d) := q1
      have q2d : wr.drew.cell? ⟨Bn, 0, none⟩ = some (.int .i64 4) := q2
      have hnd : KR Bs Bn W wr.drew := ⟨hnx.ha, hnx.hb⟩
      gi_wp2
      gi_region
      all_goals
        gi_wp2
        refine hR.mono ?_
        rintro ee W3 (⟨rfl, hJ3, hk3⟩ | ⟨rfl, hJx3⟩)
        · have q23 : W3.cell? ⟨Bn, 0, none⟩ = some (.int .i64 4) := (World.cell?_of_block (a := ⟨Bn, 0, none⟩) hk3.hb).trans q2d
          gi_wp2
          go_roundw
          case rel => exact ⟨k + 1, by omega, by rw [show 4 * (k + 1) = i + 4 by omega, show ((i + 4 : Nat) : Int) = (i : Int) + 4 by omega], by rw [← starts_succ q k hkq]; exact hJ3, hnd.trans hk3⟩
          case measure => simp [intOf]; omega
        · gi_wp2
          refine bodyPost_ret (results_none rfl _ _ _) rfl ?_
          exact ⟨⟨_, rfl⟩, .inr ⟨_, ⟨k + 1, by omega, by rw [← starts_succ q k hkq]⟩, hJx3⟩⟩
    · have hlti : ¬ (i : Int) < (m : Int) := by omega
      have hkq : k = q := by omega
      have hJq : J (List.finRange q) wr := by rw [← starts_all]; rw [hkq] at hJs; exact hJs
      gi_wp2
      go_end0
      exact ⟨⟨_, rfl⟩, .inl hJq⟩

theorem chunk_stops (F : Fence) (n : Nat) (h7 : F.fn 58) (hro : F.round = none) (hn : 1 ≤ n) (Bs Bn b o q m d : Nat) (hqm : m = 4 * q) (hm : m ≤ d) (hd : m ≤ 1000000000) (w : World) (hbs : Bs < w.heap.size) (hbn : Bn < w.heap.size)
    (hBs : w.cell? ⟨Bs, 0, none⟩ = some (.slice (some ⟨b, o, none⟩) m d)) (hBn : w.cell? ⟨Bn, 0, none⟩ = some (.int .i64 4)) :
    SeqStopsK F n Tryd.prog 58 #[.pointer (some ⟨Bs, 0, none⟩), .pointer (some ⟨Bn, 0, none⟩)] (encC b o q) (KR Bs Bn) (fun ys => ys = List.finRange q) (fun pre => ∃ k, k ≤ q ∧ pre = starts q k) q w := fun l J Jx W hW hJ hJx hY h0 => by
  have hBs' := (hW.cell (p := ⟨Bs, 0, none⟩) (by show Bs < _; omega)).trans hBs
  have hBn' := (hW.cell (p := ⟨Bn, 0, none⟩) (by show Bn < _; omega)).trans hBn
  exact chunk1_in F n h7 hro hn l Bs Bn b o q m d hqm hm hd J Jx (fun s A hs => hJ s A A.drew none hs (only_drewN (World.grownBy.refl A none) 1) (fun r e => by cases e)) hY W hBs' hBn' h0

theorem chunk_any (K : Option Addr) (m d : Nat) (w : World) : Calls Tryd.prog 42 #[.slice K m d, .int .i64 4] w fun e w' =>
    e = .returned (.func (.func 58) #[] #[.pointer (some ⟨w.heap.size, 0, none⟩), .pointer (some ⟨w.heap.size + 1, 0, none⟩)]) ∧ w' = (w.alloc (.cells #[.slice K m d] 81)).alloc (.cells #[.int .i64 4] 3) := by
  go_enter Tryd.func42, Tryd.ntmps42
  go_wp2_with fail
  go_ret
  exact ⟨rfl, rfl⟩

end Go.Proofs.YtclnoblcdaimiaaDoor
