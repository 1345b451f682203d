/- Lines: bytes.Cut at a byte, the program's iterator over lines. -/
import Derived.Lib.SlBytesConst
import Derived.Test.YtnnonidiogoffaaGreatDoorPm12E
namespace Go.Proofs.YtnnonidiogoffaaGreatDoor
open Go.RowKit Go.Shelf
set_option linter.unusedVariables false
attribute [local go_sem] Oper.semAt_some

theorem past_alloc9 (w : World) (o : Obj) : Past w (w.alloc o) := past_alloc8 w o
/-- What bytes.Cut answers where i bytes stand before the first separator. -/
def cutL (A : Option Addr) (n c i : Nat) : Value :=
  if i < n then .tuple #[.slice A i c, .slice (if c = i + 1 then A else A.map (·.add (i + 1))) (n - (i + 1)) (c - (i + 1)), .bool true] else .tuple #[.slice A n c, .slice none 0 0, .bool false]
theorem idx_bytes {xs : List Int} (hr : ∀ x ∈ xs, 0 ≤ x ∧ x < 256) (d : Nat) (hd : d < 256) : Lib.indexByte (Lib.bytesOf xs) ((d : Int).toNat.toUInt8) = if ix (d : Int) xs < xs.length then (ix (d : Int) xs : Int) else -1 := by
  have h := ixB ((d : Int).toNat.toUInt8) (Lib.bytesOf xs)
  have e1 : (Lib.bytesOf xs).map (fun b => (b.toNat : Int)) = xs := by
    have := ints_txt hr
    unfold ints txt at this
    simpa using this
  have e2 : (((d : Int).toNat.toUInt8).toNat : Int) = (d : Int) := by
    simp
    omega
  have e3 : (Lib.bytesOf xs).length = xs.length := by simp [Lib.bytesOf]
  rw [e1, e2, e3] at h
  exact h
theorem cut_any (A : Option Addr) (n c : Nat) (xs : List Int) (b2 d : Nat) (w : World) (hS : Sl w A n c xs) (hbn : n ≤ 1000000000) (hd : d < 256) (hc2 : w.cell? ⟨b2, 0, none⟩ = some (.int .u8 (d : Int))) :
    Calls Tryz.prog 38 #[.slice A n c, .slice (some ⟨b2, 0, none⟩) 1 1] w fun e w' => e = .returned (cutL A n c (ix (d : Int) xs)) ∧ ∃ q, w' = w.drewN q := by
  have hcap := hS.cap
  have hbig := hS.big
  unfold maxLen at hbig
  have hl := hS.len
  have hidx : Calls Tryz.prog 59 #[.slice A n c, .slice (some ⟨b2, 0, none⟩) 1 1] w fun e w' => e = .returned (.int .i64 (if ix (d : Int) xs < n then (ix (d : Int) xs : Int) else -1)) ∧ ∃ q, w' = w.drewN q := by
    have e := idx_bytes hS.rng d hd
    rw [hl] at e
    cases A with
    | none =>
      have h0 := hS.nil0 rfl
      have hn0 : n = 0 := by omega
      subst hn0 h0
      rw [if_neg (Nat.not_lt_zero _)]
      exact (Tryz.bytes_Index_one_nil b2 0 1 (d : Int) w hc2).mono fun e' w' h => ⟨h.1, 0, h.2⟩
    | some a =>
      rw [← e]
      refine (Tryz.bytes_Index_one_at a n c b2 0 1 xs (d : Int) w hl (fun i hi => ?_) hc2).mono fun e' w' h => ⟨h.1, 0, h.2⟩
      obtain ⟨b, o, e1, hc⟩ := hS.bytes (by omega)
      injection e1 with e1
      subst e1
      rw [add_none]
      exact hc i hi
  have hle := ix_le (d : Int) xs
  rw [hl] at hle
  refine (Tryz.bytes_Cut_of A (some ⟨b2, 0, none⟩) n c 1 1 _ w hcap (by split <;> omega) (fun h => by split at h <;> (split <;> omega)) (by omega) hidx).mono fun e w' h => ⟨?_, h.2⟩
  rw [h.1]
  congr 1
  unfold cutL Lib.cutV Lib.fromV
  by_cases hi : ix (d : Int) xs < n
  · rw [if_pos hi, if_pos hi, if_pos (by omega)]
    simp only [Int.toNat_natCast]
  · rw [if_neg hi, if_neg hi, if_neg (by omega)]
/-- Where what is left behind k lines lies: its address and its capacity. -/
def ra (A : Option Addr) (c : Nat) (xs : List Int) : Nat → Option Addr × Nat
  | 0 => (A, c)
  | k + 1 => (if (ra A c xs k).2 = ix 10 (xs.drop (off 10 xs k)) + 1 then (ra A c xs k).1 else (ra A c xs k).1.map (·.add (ix 10 (xs.drop (off 10 xs k)) + 1)), (ra A c xs k).2 - (ix 10 (xs.drop (off 10 xs k)) + 1))
theorem Sl.rest {w : World} {A : Option Addr} {n c : Nat} {xs : List Int} (h : Sl w A n c xs) : ∀ k, k < (spl 10 xs).length → Sl w (ra A c xs k).1 (n - off 10 xs k) (ra A c xs k).2 (xs.drop (off 10 xs k)) := by
  intro k
  induction k with
  | zero =>
    intro _
    show Sl w A (n - 0) c (xs.drop 0)
    rw [List.drop_zero, Nat.sub_zero]
    exact h
  | succ k ih =>
    intro hk
    have h1 := ih (by omega)
    have h2 := (piece_more (d := 10) (l := xs) (k := k) (by omega)).1 hk
    have hl := h.len
    have h3 := h1.cut2 (i := ix 10 (xs.drop (off 10 xs k)) + 1) (m := n - off 10 xs (k + 1)) (by show _ + (n - (off 10 xs k + ix 10 (xs.drop (off 10 xs k)) + 1)) ≤ _; omega)
    have e : ((xs.drop (off 10 xs k)).drop (ix 10 (xs.drop (off 10 xs k)) + 1)).take (n - off 10 xs (k + 1)) = xs.drop (off 10 xs (k + 1)) := by
      rw [List.drop_drop]
      show ((xs.drop (off 10 xs k + (ix 10 (xs.drop (off 10 xs k)) + 1))).take (n - (off 10 xs k + ix 10 (xs.drop (off 10 xs k)) + 1))) = xs.drop (off 10 xs k + ix 10 (xs.drop (off 10 xs k)) + 1)
      rw [← Nat.add_assoc, List.take_of_length_le (by rw [List.length_drop]; omega)]
    rw [e] at h3
    exact h3
/-- The line with a number, as it lies. -/
def lnV (A : Option Addr) (c : Nat) (xs : List Int) (k : Nat) : Value := .slice (ra A c xs k).1 (ix 10 (xs.drop (off 10 xs k))) (ra A c xs k).2
theorem Sl.line {w : World} {A : Option Addr} {n c : Nat} {xs : List Int} (h : Sl w A n c xs) (k : Nat) (hk : k < (spl 10 xs).length) : Sl w (ra A c xs k).1 (ix 10 (xs.drop (off 10 xs k))) (ra A c xs k).2 ((spl 10 xs).getD k []) := by
  have h1 := h.rest k hk
  have h2 := ix_le 10 (xs.drop (off 10 xs k))
  have hl := h1.len
  rw [piece_at hk]
  refine ⟨by rw [List.length_take]; omega, by have := h1.cap; omega, h1.big, fun hn => ?_, fun x hx => h1.rng x (List.mem_of_mem_take hx), h1.nil0⟩
  obtain ⟨b, o, e, hc⟩ := h1.bytes (by omega)
  refine ⟨b, o, e, fun i hi => ?_⟩
  rw [hc i (by omega)]
  congr 2
  simp [List.getD, hi]
def encL (A : Option Addr) (c : Nat) (xs : List Int) (q : Nat) (x : Fin q) : Array Value := #[lnV A c xs x.1]
def slN (v : Value) : Nat := match v with
  | .slice _ n _ => n
  | _ => 0
def blN (v : Value) : Nat := match v with
  | .bool true => 1
  | _ => 0
/-- What Cut answers at what is left behind k lines, part by part. -/
def CutAt (A : Option Addr) (n c : Nat) (xs : List Int) (k : Nat) (v1 v2 : Value) (b : Bool) : Prop := cutL (ra A c xs k).1 (n - off 10 xs k) (ra A c xs k).2 (ix 10 (xs.drop (off 10 xs k))) = .tuple #[v1, v2, .bool b]
theorem cut_parts (A : Option Addr) (n c : Nat) (xs : List Int) (k : Nat) : ∃ v1 v2 b, CutAt A n c xs k v1 v2 b := by
  unfold CutAt cutL
  split
  · exact ⟨_, _, _, rfl⟩
  · exact ⟨_, _, _, rfl⟩
theorem CutAt.yes {A : Option Addr} {n c : Nat} {xs : List Int} {k : Nat} {v1 v2 : Value} (h : CutAt A n c xs k v1 v2 true) : ix 10 (xs.drop (off 10 xs k)) < n - off 10 xs k ∧ v1 = lnV A c xs k ∧ v2 = .slice (ra A c xs (k + 1)).1 (n - off 10 xs (k + 1)) (ra A c xs (k + 1)).2 := by
  unfold CutAt cutL at h
  split at h
  · rename_i hi
    simp only [Value.tuple.injEq, Array.mk.injEq, List.cons.injEq] at h
    obtain ⟨h1, h2, _⟩ := h
    refine ⟨hi, h1.symm, h2.symm.trans ?_⟩
    show Value.slice _ (n - off 10 xs k - (ix 10 (xs.drop (off 10 xs k)) + 1)) _ = Value.slice _ (n - (off 10 xs k + ix 10 (xs.drop (off 10 xs k)) + 1)) _
    rw [show n - off 10 xs k - (ix 10 (xs.drop (off 10 xs k)) + 1) = n - (off 10 xs k + ix 10 (xs.drop (off 10 xs k)) + 1) by omega]
    rfl
  · simp at h
theorem CutAt.no {A : Option Addr} {n c : Nat} {xs : List Int} {k : Nat} {v1 v2 : Value} (h : CutAt A n c xs k v1 v2 false) : ¬ ix 10 (xs.drop (off 10 xs k)) < n - off 10 xs k ∧ v2 = .slice none 0 0 := by
  unfold CutAt cutL at h
  split at h
  · simp at h
  · rename_i hi
    simp only [Value.tuple.injEq, Array.mk.injEq, List.cons.injEq] at h
    exact ⟨hi, h.2.1.symm⟩
theorem line_more {n : Nat} {xs : List Int} (hl : xs.length = n) {q k : Nat} (hq : (spl 10 xs).length = q + 1) (hk : k ≤ q) : k < q ↔ ix 10 (xs.drop (off 10 xs k)) < n - off 10 xs k := by
  have h1 := piece_more (d := 10) (l := xs) (k := k) (by omega)
  have h2 := (off_piece 10 k xs (by omega)).1
  rw [hq] at h1
  omega
theorem cell_mk (W : World) (C : Array Value) (e : TypeId) (fr : Nat × Nat) (i : Nat) : (W.alloc (.cells C e fr)).cell? ⟨W.heap.size, i, none⟩ = C[i]? := cell_of_row _ _ i C e fr (heap_alloc_new W _)

set_option maxRecDepth 100000 in
set_option maxHeartbeats 4000000 in
theorem lines1_in (l bx : Nat) (A : Option Addr) (n c : Nat) (xs : List Int) (q : Nat) (hq : (spl 10 xs).length = q + 1) (w1 : World) (hS : Sl w1 A n c xs) (hbn : n ≤ 1000000000) (J Jx : List (Fin q) → World → Prop) (hJ : ∀ t A B, J t A → A.grownBy B none → J t B)
    (hY : ∀ pre x W, J pre W → pre.length < q → YieldAt Fence.wide 1 Tryz.prog l (encL A c xs q x) W fun e W' =>
      (e = .returned (.bool true) ∧ J (pre ++ [x]) W' ∧ Below w1.heap.size W W') ∨ (e = .returned (.bool false) ∧ Jx (pre ++ [x]) W'))
    (W : World) (hP : Past w1 W) (hr1 : W.cell? ⟨bx, 0, none⟩ = some (.slice A n c)) (h0 : J [] W) :
    CallsIn Fence.wide 2 Tryz.prog 37 #[.func (.yield l) #[] #[], .pointer (some ⟨bx, 0, none⟩)] W fun e W' => (∃ v, e = .returned v) ∧
      ((∃ ys, ys = List.finRange q ∧ J ys W') ∨ (∃ pre, (∃ k, k ≤ q ∧ pre = starts q k) ∧ Jx pre W')) := by
  have HJ := Lib.hid hJ
  have HY := Lib.hid hY
  have HM : Hid (∀ k, k ≤ q → (k < q ↔ ix 10 (xs.drop (off 10 xs k)) < n - off 10 xs k)) := Lib.hid fun k hk => line_more hS.len hq hk
  have HOF : Hid (∀ k, k < q → off 10 xs (k + 1) ≤ n ∧ off 10 xs k < off 10 xs (k + 1)) := Lib.hid fun k hk => by
    have h1 := (off_piece 10 (k + 1) xs (by omega)).1
    rw [hS.len] at h1
    exact ⟨h1, by show _ < _ + _ + 1; omega⟩
  -- what Cut answers at what is left behind k lines
  have HC : Hid (∀ (k : Nat) (W : World) (v1 v2 : Value) (b : Bool), k ≤ q → Past w1 W → CutAt A n c xs k v1 v2 b → Calls Tryz.prog 38 #[.slice (ra A c xs k).1 (n - off 10 xs k) (ra A c xs k).2, .slice (some ⟨W.heap.size, 0, none⟩) 1 1] (W.alloc (.cells #[.int .u8 10] 5 (1, 2))) fun e w' =>
      e = .returned (.tuple #[v1, v2, .bool b]) ∧ Past W w') := Lib.hid fun k W v1 v2 b hk hp hcu => by
    have h := cut_any _ _ _ _ W.heap.size 10 _ (((hS.rest k (by omega)).past hp).past (past_alloc8 W (.cells #[.int .u8 10] 5 (1, 2)))) (by omega) (by omega) (cell_mk W _ _ _ 0)
    refine h.mono fun e w' he => ⟨?_, ?_⟩
    · rw [he.1]
      exact congrArg Ending.returned hcu
    · obtain ⟨j, rfl⟩ := he.2
      exact (past_alloc8 _ _).drewN j
  have HCV : Hid (∀ W : World, (convert 22 22 (.slice (some ⟨W.heap.size, 0, none⟩) 1 1)).run Tryz.prog (W.alloc (.cells #[.int .u8 10] 5)) = .ok (.slice (some ⟨W.heap.size, 0, none⟩) 1 1) (W.alloc (.cells #[.int .u8 10] 5 (1, 2)))) := Lib.hid fun W =>
    Lib.run_convert_bytes_const W 22 5 #[.int .u8 10] 1 1 Tryz.underlying22 Tryz.underlying5
  have H0 := Lib.hid h0
  have HP := Lib.hid hP
  clear hJ hY hq hS h0 hP hbn
  refine callsIn_of_wp Tryz.func37 rfl trivial ?_ rfl
  simp only [Tryz.ntmps37, List.size_toArray, List.length_cons, List.length_nil, Nat.reduceAdd, Nat.reduceSub, Array.replicate_succ, Array.replicate_zero, List.push_toArray, List.append_toArray, List.nil_append, List.cons_append]
  obtain ⟨v1, v2, b, hcu⟩ := cut_parts A n c xs 0
  have HC0 := Lib.hid (HC.out 0 W v1 v2 b (Nat.zero_le _) HP.out hcu)
  rw [show ra A c xs 0 = (A, c) from rfl, show off 10 xs 0 = 0 from rfl, Nat.sub_zero] at HC0
  simp only at HC0
  have HCU := Lib.hid hcu
  have hcv := HCV.out W
  clear hcu
  gi_wp2_with (first | (refine ⟨trivial, ?_⟩; gi_at_call 38; refine (callsIn_wide.2 HC0.out).mono ?_; rintro e w2 ⟨rfl, hp2⟩))
  have HP2 := Lib.hid hp2
  clear hp2 hcv hr1 HC0
  gi_loopw [3, 4, 5] (fun s3 s4 s5 wr => ∃ (k : Nat) (v1 v2 : Value) (b : Bool), k ≤ q ∧ s3 = v1 ∧ s4 = v2 ∧ s5 = .bool b ∧ CutAt A n c xs k v1 v2 b ∧ J (starts q k) wr ∧ Past w1 wr)
    (fun _ s4 s5 _ => slN s4 + blN s5)
  case atStart => exact ⟨0, v1, v2, b, Nat.zero_le _, rfl, rfl, rfl, HCU.out, HJ.out _ _ _ H0.out (only_of_past HP2.out none), HP.out.trans' HP2.out⟩
  case round =>
    clear HCU HP2 H0 HP
    obtain ⟨k, v1', v2', b', hk, rfl, rfl, rfl, hcu, hj, hp⟩ := hrel
    have HK := Lib.hid hk
    cases b' with
    | true =>
      obtain ⟨hi, rfl, rfl⟩ := hcu.yes
      have hkq : k < q := (HM.out k hk).2 hi
      obtain ⟨fn, tmps, assign, body, hy, hR⟩ := HY.out _ ⟨k, hkq⟩ wr hj (by rw [starts_len q k hk]; exact hkq)
      dsimp only [encL] at hy
      obtain ⟨L, hL⟩ : ∃ L, lnV A c xs k = L := ⟨_, rfl⟩
      rw [hL] at hy ⊢
      obtain ⟨u1, u2, b2, hcu2⟩ := cut_parts A n c xs (k + 1)
      have HCU2 := Lib.hid hcu2
      have HM0 : Hid (slN u2 + blN (.bool b2) < n - off 10 xs (k + 1) + 1) := Lib.hid (by
        have ho := HOF.out k hkq
        cases b2 with
        | true =>
          obtain ⟨hi2, _, rfl⟩ := hcu2.yes
          have hk2 : k + 1 < q := (HM.out (k + 1) (by omega)).2 hi2
          have ho2 := HOF.out (k + 1) hk2
          show n - off 10 xs (k + 1 + 1) + 1 < _
          omega
        | false =>
          obtain ⟨_, rfl⟩ := hcu2.no
          show 0 + 0 < _
          omega)
      clear hi hcu hcu2 hL
      gi_wp2
      refine hR.mono ?_
      rintro ee W3 (⟨rfl, hJ3, hk3⟩ | ⟨rfl, hJx3⟩)
      · have hk3 : Past w1 W3 := Below.trans hp hk3
        have hcv := HCV.out W3
        have HC1 := Lib.hid (HC.out (k + 1) W3 u1 u2 b2 (by omega) hk3 HCU2.out)
        have HJ3 := Lib.hid hJ3
        have HK3 := Lib.hid hk3
        clear hJ3 hk3 hj hp hy
        gi_wp2_with (first | (refine ⟨trivial, ?_⟩; gi_at_call 38; refine (callsIn_wide.2 HC1.out).mono ?_; rintro e w5 ⟨rfl, hp5⟩))
        have HP5 := Lib.hid hp5
        clear hp5
        go_roundw
        case rel =>
          refine ⟨k + 1, u1, u2, b2, by omega, rfl, rfl, rfl, HCU2.out, ?_, HK3.out.trans' HP5.out⟩
          rw [← starts_succ q k hkq]
          exact HJ.out _ _ _ HJ3.out (only_of_past HP5.out none)
        case measure => exact HM0.out
      · gi_wp2
        go_end0
        exact ⟨⟨_, rfl⟩, .inr ⟨_, ⟨k + 1, by omega, by rw [← starts_succ q k hkq]⟩, hJx3⟩⟩
    | false =>
      have hi := hcu.no
      have hkq : k = q := by
        rcases Nat.lt_or_ge k q with h | h
        · exact absurd ((HM.out k hk).1 h) hi.1
        · omega
      subst hkq
      rw [starts_all] at hj
      gi_wp2_with (refine ⟨fun _ _ => trivial, ?_⟩)
      go_end0
      exact ⟨⟨_, rfl⟩, .inl ⟨_, rfl, hj⟩⟩
end Go.Proofs.YtnnonidiogoffaaGreatDoor
