/- The library's strings.SplitSeq at a space: its iterator. -/
import Derived.Test.YtnnonidiogoffaaGreatDoorPm12B
namespace Go.Proofs.YtnnonidiogoffaaGreatDoor
open Go.RowKit Go.Shelf
set_option linter.unusedVariables false
attribute [local go_sem] Oper.semAt_some

theorem ixB (c : UInt8) (l : List UInt8) : Lib.indexByte l c = if ix (c.toNat : Int) (l.map fun b => (b.toNat : Int)) < l.length then (ix (c.toNat : Int) (l.map fun b => (b.toNat : Int)) : Int) else -1 := by
  induction l with
  | nil => rfl
  | cons b l ih =>
    unfold Lib.indexByte
    rw [List.map_cons, ix, List.length_cons, ih]
    by_cases h : b = c
    · subst h
      simp
    · have h1 : ¬ ((b.toNat : Int) = (c.toNat : Int)) := fun e => h (UInt8.toNat_inj.1 (Int.ofNat_inj.1 e))
      have h2 : (b == c) = false := by simp [h]
      rw [if_neg h1, h2]
      obtain ⟨m, hm⟩ : ∃ m, ix (c.toNat : Int) (l.map fun b => (b.toNat : Int)) = m := ⟨_, rfl⟩
      rw [hm]
      by_cases h3 : m < l.length
      · have e1 : ((m : Int) == -1) = false := by simp
        simp [h3, e1]
      · simp [h3]
theorem ixS (s : ByteArray) (c : UInt8) : Lib.indexByte s.data.toList c = if ix (c.toNat : Int) (ints s) < s.size then (ix (c.toNat : Int) (ints s) : Int) else -1 := by
  have h := ixB c s.data.toList
  have hl : s.data.toList.length = s.size := by rw [Array.length_toList]; rfl
  rw [hl] at h
  exact h
theorem ixS32 (s : ByteArray) : Lib.indexByte s.data.toList 32 = if ix 32 (ints s) < s.size then (ix 32 (ints s) : Int) else -1 := ixS s 32
/-- What is left behind k pieces, and the piece with a number. -/
def restS (s : ByteArray) (k : Nat) : ByteArray := txt ((ints s).drop (off 32 (ints s) k))
def pieceS (s : ByteArray) (k : Nat) : ByteArray := txt ((spl 32 (ints s)).getD k [])
theorem rest_ints (s : ByteArray) (k : Nat) : ints (restS s k) = (ints s).drop (off 32 (ints s) k) := ints_txt fun x hx => ints_rngs s x (List.mem_of_mem_drop hx)
theorem rest_zero (s : ByteArray) : restS s 0 = s := by
  unfold restS off
  rw [List.drop_zero, txt_of_ints]
theorem piece_ints (s : ByteArray) (k : Nat) : ints (pieceS s k) = (spl 32 (ints s)).getD k [] := by
  refine ints_txt fun x hx => ?_
  rw [List.getD_eq_getElem?_getD] at hx
  cases h : (spl 32 (ints s))[k]? with
  | none => rw [h] at hx; cases hx
  | some p =>
    rw [h] at hx
    exact ints_rngs s x (spl_mem p (List.mem_of_getElem? h) x hx)
theorem piece_cut (s : ByteArray) (k : Nat) (h : k < (spl 32 (ints s)).length) : (restS s k).extract 0 (ix 32 (ints (restS s k))) = pieceS s k := by
  refine ints_eq ?_
  rw [ints_ext, piece_ints, piece_at h, rest_ints, List.drop_zero]
theorem rest_next (s : ByteArray) (k : Nat) : (restS s k).extract (ix 32 (ints (restS s k)) + 1) (restS s k).size = restS s (k + 1) := by
  refine ints_eq ?_
  rw [ints_ext, rest_ints s (k + 1), ← ints_len, List.take_length, rest_ints, List.drop_drop]
  rfl
theorem rest_last (s : ByteArray) (k : Nat) (h : k < (spl 32 (ints s)).length) (hx : ¬ ix 32 (ints (restS s k)) < (restS s k).size) : restS s k = pieceS s k := by
  rw [← piece_cut s k h]
  refine ints_eq ?_
  rw [ints_ext, List.drop_zero, List.take_of_length_le]
  have := ints_len (restS s k)
  omega
theorem rest_more (s : ByteArray) (k : Nat) (h : k < (spl 32 (ints s)).length) : k + 1 < (spl 32 (ints s)).length ↔ ix 32 (ints (restS s k)) < (restS s k).size := by
  have h1 := piece_more h
  have h2 := (off_piece 32 k (ints s) h).1
  rw [h1, ← ints_len (restS s k), rest_ints, List.length_drop]
  omega
theorem rest_size (s : ByteArray) (k : Nat) : (restS s k).size ≤ s.size := by
  rw [← ints_len, ← ints_len, rest_ints, List.length_drop]
  omega
/-- The first k pieces. -/
def starts (q k : Nat) : List (Fin q) := (List.finRange q).take k
theorem starts_succ (q k : Nat) (h : k < q) : starts q k ++ [⟨k, h⟩] = starts q (k + 1) := by
  unfold starts
  rw [List.take_succ_eq_append_getElem (by simpa using h)]
  simp
theorem starts_len (q k : Nat) (h : k ≤ q) : (starts q k).length = k := by
  unfold starts
  simp
  omega
theorem starts_all (q : Nat) : starts q q = List.finRange q := by
  unfold starts
  rw [List.take_of_length_le (by simp)]
def encP (s : ByteArray) (q : Nat) (x : Fin q) : Array Value := #[.string (pieceS s x.1)]

theorem row_setOther {w : World} {g h : Nat} {t : TypeId} {cs : Array Value} (r : Row w g t cs) (hne : h ≠ g) (o : Nat) (v : Value) : Row (w.setCell ⟨h, o, none⟩ v) g t cs := by
  unfold Row at r ⊢
  simp [World.setCell, Array.getElem?_modify, hne, r]
def szS (o : Option Value) : Nat := match o with
  | some (.string t) => t.size
  | _ => 0
theorem row_of3 {W W' : World} {b : Nat} {t : TypeId} {cs : Array Value} (h : Row W b t cs) (e : W'.heap[b]? = W.heap[b]?) : Row W' b t cs := e.trans h

set_option maxRecDepth 100000 in
set_option maxHeartbeats 4000000 in
theorem split1_in (l b1 b2 b3 : Nat) (s : ByteArray) (q : Nat) (hq : (spl 32 (ints s)).length = q) (hs : s.size ≤ 1000000) (h12 : b1 ≠ b2) (h32 : b3 ≠ b2) (J Jx : List (Fin q) → World → Prop) (hJ : ∀ t A B, J t A → stepB b2 A B → J t B)
    (hY : ∀ pre x W, J pre W → pre.length < q → YieldAt Fence.wide 1 Tryz.prog l (encP s q x) W fun e W' =>
      (e = .returned (.bool true) ∧ J (pre ++ [x]) W' ∧ K3 b1 b2 b3 W W') ∨ (e = .returned (.bool false) ∧ Jx (pre ++ [x]) W'))
    (W : World) (hr1 : Row W b1 9 #[.string ⟨#[32]⟩]) (hr2 : Row W b2 9 #[.string s]) (hr3 : Row W b3 3 #[.int .i64 0]) (h0 : J [] W) :
    CallsIn Fence.wide 2 Tryz.prog 73 #[.func (.yield l) #[] #[], .pointer (some ⟨b1, 0, none⟩), .pointer (some ⟨b2, 0, none⟩), .pointer (some ⟨b3, 0, none⟩)] W fun e W' => (∃ v, e = .returned v) ∧
      ((∃ ys, ys = List.finRange q ∧ J ys W') ∨ (∃ pre, (∃ k, k ≤ q ∧ pre = starts q k) ∧ Jx pre W')) := by
  have HJ := Lib.hid hJ
  have HY := Lib.hid hY
  have HQ := Lib.hid hq
  have HS := Lib.hid hs
  have HN : Hid (b1 ≠ b2 ∧ b3 ≠ b2) := Lib.hid ⟨h12, h32⟩
  have hq1 : 1 ≤ q := by rw [← hq]; exact spl_len _ _
  clear hJ hY hq hs h12 h32
  refine callsIn_of_wp Tryz.func73 rfl trivial ?_ rfl
  simp only [Tryz.ntmps73, List.size_toArray, List.length_cons, List.length_nil, Nat.reduceAdd, Nat.reduceSub, Array.replicate_succ, Array.replicate_zero, List.push_toArray, List.append_toArray, List.nil_append, List.cons_append]
  have c1 : W.cell? ⟨b1, 0, none⟩ = some (.string ⟨#[32]⟩) := hr1.cell 0
  gi_wp2
  gi_loopw [7, 8] (fun _ _ wr => ∃ k : Nat, k < q ∧ J (starts q k) wr ∧ Row wr b1 9 #[.string ⟨#[32]⟩] ∧ Row wr b2 9 #[.string (restS s k)] ∧ Row wr b3 3 #[.int .i64 0])
    (fun _ _ wr => szS (wr.cell? ⟨b2, 0, none⟩))
  case atStart => exact ⟨0, hq1, h0, hr1, by rw [rest_zero]; exact hr2, hr3⟩
  case round =>
    obtain ⟨k, hk, hj, h1, h2, h3⟩ := hrel
    have c1 : wr.cell? ⟨b1, 0, none⟩ = some (.string ⟨#[32]⟩) := h1.cell 0
    have c2 : wr.cell? ⟨b2, 0, none⟩ = some (.string (restS s k)) := h2.cell 0
    have c3 : wr.cell? ⟨b3, 0, none⟩ = some (.int .i64 0) := h3.cell 0
    have HR : Hid (Row wr b1 9 #[.string ⟨#[32]⟩] ∧ Row wr b2 9 #[.string (restS s k)] ∧ Row wr b3 3 #[.int .i64 0]) := Lib.hid ⟨h1, h2, h3⟩
    have HK := Lib.hid hk
    have hix := Tryz.strings_Index_one (restS s k) 32 wr
    rw [ixS32] at hix
    have hm := rest_more s k (by rw [HQ.out]; exact hk)
    rw [HQ.out] at hm
    have hsz := rest_size s k
    clear h1 h2 h3 hr1 hr2 hr3
    obtain ⟨fn, tmps, assign, body, hy, hR⟩ := HY.out _ ⟨k, hk⟩ wr hj (by rw [starts_len q k (by omega)]; omega)
    dsimp only [encP] at hy
    by_cases hlt : ix 32 (ints (restS s k)) < (restS s k).size
    · have hk1 : k + 1 < q := hm.2 hlt
      rw [if_pos hlt] at hix
      have hpc := piece_cut s k (by rw [HQ.out]; exact hk)
      have hnx := rest_next s k
      have HSM : Hid ((restS s (k + 1)).size < (restS s k).size) := Lib.hid (by
        rw [← ints_len (restS s (k + 1)), ← ints_len (restS s k), rest_ints, rest_ints, List.length_drop, List.length_drop]
        have := (off_piece 32 k (ints s) (by rw [HQ.out]; exact hk)).1
        have e : off 32 (ints s) (k + 1) = off 32 (ints s) k + ix 32 ((ints s).drop (off 32 (ints s) k)) + 1 := rfl
        have h4 := hlt
        rw [← ints_len (restS s k), rest_ints, List.length_drop] at h4
        omega)
      obtain ⟨i, hi⟩ : ∃ i, ix 32 (ints (restS s k)) = i := ⟨_, rfl⟩
      rw [hi] at hix hpc hnx hlt
      obtain ⟨t, ht⟩ : ∃ t, restS s k = t := ⟨_, rfl⟩
      rw [ht] at hix hpc hnx hlt c2 hsz HSM HR
      obtain ⟨p, hp⟩ : ∃ p, pieceS s k = p := ⟨_, rfl⟩
      rw [hp] at hpc hy
      obtain ⟨t2, ht2⟩ : ∃ t2, restS s (k + 1) = t2 := ⟨_, rfl⟩
      rw [ht2] at hnx HSM
      have hi0 : ¬ (i : Int) < 0 := by omega
      have hil : (i : Int) ≤ (t.size : Int) := by omega
      have hsl1 : ∀ w : World, (Instr.slice 9 (.string t) none (some (.int .i64 (i : Int))) none).run Tryz.prog w = .ok (.string p) w := fun w => by
        rw [run_slice_string_h w 9 t Tryz.underlying9 .i64 (i : Int) (by omega) (by omega), Int.toNat_natCast, hpc]
      have hsl2 : ∀ w : World, (Instr.slice 9 (.string t) (some (.int .i64 ((i : Int) + 1))) none none).run Tryz.prog w = .ok (.string t2) w := fun w => by
        rw [run_slice_string_l w 9 t Tryz.underlying9 .i64 ((i : Int) + 1) (by omega) (by omega), show ((i : Int) + 1).toNat = i + 1 by omega, hnx]
      have hbig : (i : Int) ≤ 1000000 := by have := HS.out; omega
      have HT2 := Lib.hid ht2
      clear hi ht hp ht2 hpc hnx hlt hsz hm
      gi_wp2_with (first | (refine ⟨trivial, ?_⟩; gi_at_call 75; refine (callsIn_wide.2 hix).mono ?_; rintro e w2 ⟨rfl, rfl⟩))
      refine hR.mono ?_
      rintro ee W3 (⟨rfl, hJ3, hk3⟩ | ⟨rfl, hJx3⟩)
      · have r1 : Row W3 b1 9 #[.string ⟨#[32]⟩] := row_of3 HR.out.1 hk3.ha
        have r2 : Row W3 b2 9 #[.string t] := row_of3 HR.out.2.1 hk3.hb
        have r3 : Row W3 b3 3 #[.int .i64 0] := row_of3 HR.out.2.2 hk3.hc
        have HR3 : Hid (Row W3 b1 9 #[.string ⟨#[32]⟩] ∧ Row W3 b2 9 #[.string t] ∧ Row W3 b3 3 #[.int .i64 0]) := Lib.hid ⟨r1, r2, r3⟩
        have d1 : W3.cell? ⟨b1, 0, none⟩ = some (.string ⟨#[32]⟩) := r1.cell 0
        have d2 : W3.cell? ⟨b2, 0, none⟩ = some (.string t) := r2.cell 0
        have d2f : W3.frozen? ⟨b2, 0, none⟩ = false := r2.fr 0
        have HJ3 := Lib.hid hJ3
        clear r1 r2 r3 hk3 hJ3 hj c1 c2 c3
        gi_wp2
        go_roundw
        case rel =>
          refine ⟨k + 1, hk1, ?_, row_setOther HR3.out.1 HN.out.1.symm 0 _, ?_, row_setOther HR3.out.2.2 HN.out.2.symm 0 _⟩
          · rw [← starts_succ q k hk]
            exact HJ.out _ _ _ HJ3.out (.inr ⟨_, rfl⟩)
          · rw [HT2.out]
            exact HR3.out.2.1.set 0 _
        case measure =>
          have e1 : (W3.setCell ⟨b2, 0, none⟩ (.string t2)).cell? ⟨b2, 0, none⟩ = some (.string t2) := (HR3.out.2.1.set 0 (.string t2)).cell 0
          have e2 := HR.out.2.1.cell 0
          rw [e1, e2]
          exact HSM.out
      · gi_wp2
        refine bodyPost_ret (results_none rfl _ _ _) rfl ?_
        exact ⟨⟨_, rfl⟩, .inr ⟨_, ⟨k + 1, by omega, by rw [← starts_succ q k hk]⟩, hJx3⟩⟩
    · have hkq : k + 1 = q := by have := hm.1; omega
      rw [if_neg hlt] at hix
      have hpc := rest_last s k (by rw [HQ.out]; exact hk) hlt
      rw [hpc] at hix c2 HR
      obtain ⟨p, hp⟩ : ∃ p, pieceS s k = p := ⟨_, rfl⟩
      rw [hp] at hix c2 HR hy
      have hneg : (-1 : Int) < 0 := by omega
      have HE : Hid (starts q k ++ [(⟨k, hk⟩ : Fin q)] = List.finRange q) := Lib.hid (by rw [starts_succ q k hk, hkq, starts_all])
      have HE2 : Hid (starts q k ++ [(⟨k, hk⟩ : Fin q)] = starts q q) := Lib.hid (by rw [starts_succ q k hk, hkq])
      clear hpc hp hlt hsz hm
      gi_wp2_with (first | (refine ⟨trivial, ?_⟩; gi_at_call 75; refine (callsIn_wide.2 hix).mono ?_; rintro e w2 ⟨rfl, rfl⟩))
      refine hR.mono ?_
      rintro ee W3 (⟨rfl, hJ3, hk3⟩ | ⟨rfl, hJx3⟩)
      · rw [HE.out] at hJ3
        gi_wp2
        go_end0
        exact ⟨⟨_, rfl⟩, .inl ⟨_, rfl, hJ3⟩⟩
      · gi_wp2
        go_end0
        exact ⟨⟨_, rfl⟩, .inr ⟨_, ⟨q, Nat.le_refl _, HE2.out⟩, hJx3⟩⟩
end Go.Proofs.YtnnonidiogoffaaGreatDoor
