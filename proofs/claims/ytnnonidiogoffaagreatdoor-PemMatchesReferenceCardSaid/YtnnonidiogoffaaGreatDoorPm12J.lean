/- Searches over lines, bytes.Join, the program's read. -/
import Derived.Test.YtnnonidiogoffaaGreatDoorPm12I
namespace Go.Proofs.YtnnonidiogoffaaGreatDoor
open Go.RowKit Go.Shelf
set_option linter.unusedVariables false

/-- A slice of n slices of bytes: part i lies at V i, with the capacity C i, and has the bytes X i. -/
structure Sls (w : World) (P : Option Addr) (n c : Nat) (V : Nat → Option Addr) (C : Nat → Nat) (X : Nat → List Int) : Prop where
  cap : n ≤ c
  big : c ≤ maxLen
  nil0 : P = none → c = 0
  cells : 0 < n → ∃ b o, P = some ⟨b, o, none⟩ ∧ ∀ i, i < n → w.cell? ⟨b, o + i, none⟩ = some (.slice (V i) (X i).length (C i)) ∧ Sl w (V i) (X i).length (C i) (X i)
theorem Sls.past {w w' : World} {P : Option Addr} {n c : Nat} {V : Nat → Option Addr} {C : Nat → Nat} {X : Nat → List Int} (h : Sls w P n c V C X) (hp : Past w w') : Sls w' P n c V C X :=
  ⟨h.cap, h.big, h.nil0, fun hn => by
    obtain ⟨b, o, rfl, hc⟩ := h.cells hn
    exact ⟨b, o, rfl, fun i hi => ⟨by rw [Below.cell hp (cell_lt (hc i hi).1)]; exact (hc i hi).1, (hc i hi).2.past hp⟩⟩⟩
def prt (X : Nat → List Int) (n : Nat) : List (List Int) := (List.range n).map X
theorem prt_len (X : Nat → List Int) (n : Nat) : (prt X n).length = n := by simp [prt]
theorem prt_succ (X : Nat → List Int) (n : Nat) : prt X (n + 1) = prt X n ++ [X n] := by simp [prt, List.range_succ]
theorem prt_mem {X : Nat → List Int} {n : Nat} {p : List Int} (h : p ∈ prt X n) : ∃ i, i < n ∧ X i = p := by
  unfold prt at h
  obtain ⟨i, hi, rfl⟩ := List.mem_map.1 h
  exact ⟨i, List.mem_range.1 hi, rfl⟩
theorem prt_any (X : Nat → List Int) (p : Nat → Bool) (n : Nat) : (prt X n).any (fun y => p y.length) = (List.range n).any fun i => p (X i).length := by
  unfold prt
  rw [List.any_map]
  rfl
def anyL (p : Nat → Bool) (X : Nat → List Int) (n : Nat) : Bool := (prt X n).any fun y => p y.length
theorem anyL_true {p : Nat → Bool} {X : Nat → List Int} {n i : Nat} (hi : i < n) (h : p (X i).length = true) : anyL p X n = true := by
  unfold anyL prt
  rw [List.any_map, List.any_eq_true]
  exact ⟨i, List.mem_range.2 hi, h⟩
theorem anyL_false {p : Nat → Bool} {X : Nat → List Int} {n : Nat} (h : ∀ i, i < n → p (X i).length = false) : anyL p X n = false := by
  unfold anyL prt
  rw [List.any_map, List.any_eq_false]
  intro i hi
  show ¬ p (X i).length = true
  rw [h i (List.mem_range.1 hi)]
  decide

set_option maxRecDepth 100000 in
theorem isLong_any (A : Option Addr) (n c : Nat) (w : World) : Calls Tryz.prog 41 #[.slice A n c] w fun e w' => e = .returned (.bool (decide (64 < n))) ∧ w' = w := by
  by_cases h : 64 < n
  · have hi : (64 : Int) < (n : Int) := by omega
    rw [decide_eq_true h]
    clear h
    go_enter Tryz.func41, Tryz.ntmps41
    go_wp2_with fail
    go_ret
    exact ⟨rfl, rfl⟩
  · have hi : ¬ (64 : Int) < (n : Int) := by omega
    rw [decide_eq_false h]
    clear h
    go_enter Tryz.func41, Tryz.ntmps41
    go_wp2_with fail
    go_ret
    exact ⟨rfl, rfl⟩
set_option maxRecDepth 100000 in
theorem isShort_any (A : Option Addr) (n c : Nat) (w : World) : Calls Tryz.prog 42 #[.slice A n c] w fun e w' => e = .returned (.bool (decide (n < 64))) ∧ w' = w := by
  by_cases h : n < 64
  · have hi : (n : Int) < 64 := by omega
    rw [decide_eq_true h]
    clear h
    go_enter Tryz.func42, Tryz.ntmps42
    go_wp2_with fail
    go_ret
    exact ⟨rfl, rfl⟩
  · have hi : ¬ (n : Int) < 64 := by omega
    rw [decide_eq_false h]
    clear h
    go_enter Tryz.func42, Tryz.ntmps42
    go_wp2_with fail
    go_ret
    exact ⟨rfl, rfl⟩

set_option maxRecDepth 100000 in
set_option maxHeartbeats 2000000 in
theorem indexL_any (fid : Nat) (p : Nat → Bool) (eg : ∀ args w, (callFunc fid args).run Tryz.prog w = .ok (.enter fid args) w) (hf : ∀ A n c w, Calls Tryz.prog fid #[.slice A n c] w fun e w' => e = .returned (.bool (p n)) ∧ w' = w)
    (P : Option Addr) (n c : Nat) (V : Nat → Option Addr) (C : Nat → Nat) (X : Nat → List Int) (w : World) (hS : Sls w P n c V C X) (hn : n ≤ 1000000) :
    Calls Tryz.prog 60 #[.slice P n c, .func (.func fid) #[] #[]] w fun e w' => ∃ r : Int, e = .returned (.int .i64 r) ∧ decide (0 ≤ r) = anyL p X n ∧ -1 ≤ r ∧ r ≤ 1000000 ∧ ∃ m, w' = w.drewN m := by
  have HF := Lib.hid hf
  have HS := Lib.hid hS
  have hbig : (n : Int) ≤ 1000000 := by omega
  clear hf hS hn
  go_enter Tryz.func60, Tryz.ntmps60
  go_wp2_with fail
  go_loopg [5, 8] n (fun k _ s8 wr => ∃ i : Nat, i ≤ n ∧ k = n - i ∧ s8 = .int .i64 (i : Int) ∧ Hid (∀ j, j < i → p (X j).length = false) ∧ Hid (∃ m, wr = w.drewN m))
  case atStart => exact ⟨0, Nat.zero_le _, rfl, rfl, Lib.hid fun j hj => absurd hj (Nat.not_lt_zero j), ⟨0, rfl⟩⟩
  case round =>
    obtain ⟨i, hin, hgk, rfl, HW, m, rfl⟩ := hrel
    have HGK := Lib.hid hgk
    clear hgk
    by_cases hlt : i < n
    · obtain ⟨b, o, rfl, hc⟩ := HS.out.cells (by omega)
      have hx : (w.drewN m).cell? ⟨b, o + i, none⟩ = _ := (hc i hlt).1
      have hi0 : (0 : Int) ≤ (i : Int) := by omega
      have hin1 : (i : Int) < (n : Int) := by omega
      have HLT := Lib.hid hlt
      obtain ⟨k, hk⟩ : ∃ k, (X i).length = k := ⟨_, rfl⟩
      rw [hk] at hx
      have HK := Lib.hid hk
      obtain ⟨Vi, hV⟩ : ∃ Vi, V i = Vi := ⟨_, rfl⟩
      obtain ⟨Ci, hC⟩ : ∃ Ci, C i = Ci := ⟨_, rfl⟩
      rw [hV, hC] at hx
      clear hc hlt hin hk hV hC
      cases hq : p k with
      | true =>
        have HA : Hid (anyL p X n = true) := Lib.hid (anyL_true HLT.out (by rw [HK.out]; exact hq))
        have HI := Lib.hid (fun w => hq ▸ HF.out Vi k Ci w)
        clear hq HW
        go_wp2_with fail
        refine (HI.out _).mono ?_
        rintro e w' ⟨rfl, rfl⟩
        go_wp2_with fail
        go_ret
        exact ⟨(i : Int), rfl, by rw [HA.out]; simp, by omega, by omega, _, rfl⟩
      | false =>
        have HN : Hid (∀ j, j < i + 1 → p (X j).length = false) := Lib.hid fun j hj => by
          by_cases hji : j = i
          · rw [hji, HK.out]; exact hq
          · exact HW.out j (by omega)
        have HI := Lib.hid (fun w => hq ▸ HF.out Vi k Ci w)
        clear hq HW
        go_wp2_with fail
        refine (HI.out _).mono ?_
        rintro e w' ⟨rfl, rfl⟩
        go_wp2_with fail
        go_roundg (n - (i + 1))
        case rel => exact ⟨i + 1, by have := HLT.out; omega, rfl, by go_num, HN, ⟨_, rfl⟩⟩
        case measure => have := HGK.out; have := HLT.out; omega
    · obtain rfl : i = n := by omega
      have HA : Hid (anyL p X i = false) := Lib.hid (anyL_false HW.out)
      have hli : ¬ (i : Int) < (i : Int) := by omega
      clear hlt HW hin
      go_wp2_with fail
      go_ret
      exact ⟨-1, rfl, by rw [HA.out]; decide, by omega, by omega, _, rfl⟩
theorem containsL_any (fid : Nat) (p : Nat → Bool) (eg : ∀ args w, (callFunc fid args).run Tryz.prog w = .ok (.enter fid args) w) (hf : ∀ A n c w, Calls Tryz.prog fid #[.slice A n c] w fun e w' => e = .returned (.bool (p n)) ∧ w' = w)
    (P : Option Addr) (n c : Nat) (V : Nat → Option Addr) (C : Nat → Nat) (X : Nat → List Int) (w : World) (hS : Sls w P n c V C X) (hn : n ≤ 1000000) :
    Calls Tryz.prog 40 #[.slice P n c, .func (.func fid) #[] #[]] w fun e w' => e = .returned (.bool (anyL p X n)) ∧ ∃ m, w' = w.drewN m := by
  have HI := Lib.hid (indexL_any fid p eg hf P n c V C X w hS hn)
  clear hS hn hf
  go_enter Tryz.func40, Tryz.ntmps40
  go_wp2_with fail
  refine HI.out.mono ?_
  rintro e w' ⟨r, rfl, hw, _, _, m, rfl⟩
  have HW := Lib.hid hw
  clear hw
  go_wp2_with fail
  go_ret
  exact ⟨by rw [← HW.out]; rfl, _, rfl⟩

/-- bytes.Join of lines without a separator. -/
theorem join_any (P : Option Addr) (n c : Nat) (V : Nat → Option Addr) (C : Nat → Nat) (X : Nat → List Int) (w : World) (hS : Sls w P n c V C X) (hn1 : 1 ≤ n) (hn : n ≤ 1000000) (hl : (prt X n).flatten.length ≤ 1000000) :
    Calls Tryz.prog 44 #[.slice P n c, .slice none 0 0] w fun e w' => ∃ A m cc, e = .returned (.slice A m cc) ∧ Sl w' A m cc (prt X n).flatten ∧ Past w w' := by
  obtain ⟨b, o, rfl, hc⟩ := hS.cells (by omega)
  have hrr : ∀ i, i < n → ∀ x ∈ X i, 0 ≤ x ∧ x < 256 := fun i hi => (hc i hi).2.rng
  have hfresh : ∀ {e : Ending} {w' : World} {v' : Value} {l : List UInt8}, Lib.FreshBytes w.heap.size w' v' l → ∀ zs : List Int, (∀ x ∈ zs, 0 ≤ x ∧ x < 256) → Lib.bytesOf zs = l → ∃ A m cc, v' = .slice A m cc ∧ Sl w' A m cc zs := by
    rintro e w' v' l ⟨g, cap, ys, rfl, h1, h2, h3, h4, h5, h6, h7, h8⟩ zs hz hzl
    have hlen : zs.length = l.length := by rw [← hzl]; simp [Lib.bytesOf]
    have hzs : ys.take l.length = zs := by
      have e1 : txt (ys.take l.length) = txt zs := by unfold txt; rw [h6, hzl]
      rw [← ints_txt (fun x hx => h5 x (List.mem_of_mem_take hx)), e1, ints_txt hz]
    refine ⟨_, _, _, rfl, hlen, h2, h3, fun hn => ⟨g, 0, rfl, fun i hi => ?_⟩, hz, fun e => by cases e⟩
    rw [Nat.zero_add, h7 i (by omega), ← hzs]
    congr 2
    simp [List.getD, hi]
  by_cases h1 : n = 1
  · subst h1
    obtain ⟨k0, s0⟩ := hc 0 (by omega)
    have ef : (prt X 1).flatten = X 0 := by simp [prt]
    rw [ef]
    by_cases hz : (X 0).length = 0
    · rw [hz] at k0
      have hx : X 0 = [] := List.length_eq_zero_iff.1 hz
      refine (Tryz.bytes_Join_one_empty b o c (V 0) (C 0) (.slice none 0 0) w k0).mono fun e w' h => ⟨none, 0, 0, h.1, ?_, ?_⟩
      · rw [hx]; exact Sl.nil w'
      · rw [h.2]; exact Below.refl _ _
    · obtain ⟨b0, o0, e0, c0⟩ := s0.bytes (by omega)
      rw [e0] at k0
      have hb : (Lib.bytesOf (X 0)).length = (X 0).length := by simp [Lib.bytesOf]
      have hi0 := ints_txt s0.rng
      refine (Tryz.bytes_Join_one b o c ⟨b0, o0, none⟩ (C 0) (Lib.bytesOf (X 0)) (.slice none 0 0) w (by rw [hb]; exact k0) (fun i x hx => ?_) (by rw [hb]; omega) (by rw [hb]; rw [ef] at hl; omega)).mono fun e w' h => ?_
      · have hi : i < (X 0).length := by rw [← hb]; exact (List.getElem?_eq_some_iff.1 hx).1
        rw [add_none, c0 i hi]
        congr 2
        have : (ints (txt (X 0))).getD i 0 = (x.toNat : Int) := by
          unfold ints txt
          simp [List.getD, hx]
        rw [← this, hi0]
      · obtain ⟨v', rfl, hf, hp⟩ := h
        obtain ⟨A, m, cc, rfl, hs⟩ := hfresh (e := .returned v') hf (X 0) s0.rng rfl
        exact ⟨A, m, cc, rfl, hs, hp⟩
  · have hlens : Lib.lens ((List.range n).map fun i => Lib.bytesOf (X i)) = (prt X n).flatten.length := by
      unfold Lib.lens prt
      rw [List.length_flatten, List.map_map, List.map_map]
      congr 1
      refine List.map_congr_left fun i _ => ?_
      simp [Lib.bytesOf]
    refine (Tryz.bytes_Join_many b o n c ((List.range n).map fun i => .slice (V i) (X i).length (C i)) ((List.range n).map fun i => Lib.bytesOf (X i)) (.slice none 0 0) [] w (by simp) (by omega) ?_ hS.cap ⟨none, 0, rfl, fun _ => rfl, fun a h => by cases h⟩ (by omega) (by rw [hlens, List.length_nil, Nat.zero_mul]; omega)).mono fun e w' h => ?_
    · refine ⟨by simp, fun i v hv => ?_, fun i v l hv hl => ?_⟩
      · have hi : i < n := by have := (List.getElem?_eq_some_iff.1 hv).1; simpa using this
        rw [List.getElem?_map, List.getElem?_range hi] at hv
        cases hv
        rw [add_none]
        exact (hc i hi).1
      · have hi : i < n := by have := (List.getElem?_eq_some_iff.1 hv).1; simpa using this
        rw [List.getElem?_map, List.getElem?_range hi] at hv hl
        cases hv
        cases hl
        have hb : (Lib.bytesOf (X i)).length = (X i).length := by simp [Lib.bytesOf]
        have s0 := (hc i hi).2
        refine ⟨V i, C i, by rw [hb], fun hV => ?_, fun a ha j x hx => ?_⟩
        · have h0 := s0.nil0 hV
          have h2 := s0.cap
          exact List.length_eq_zero_iff.1 (by rw [hb]; omega)
        · have hj : j < (X i).length := by rw [← hb]; exact (List.getElem?_eq_some_iff.1 hx).1
          obtain ⟨b0, o0, e0, c0⟩ := s0.bytes (by omega)
          rw [e0] at ha
          cases ha
          rw [add_none, c0 j hj]
          congr 2
          have : (ints (txt (X i))).getD j 0 = (x.toNat : Int) := by
            unfold ints txt
            simp [List.getD, hx]
          rw [← this, ints_txt s0.rng]
    · obtain ⟨v', rfl, hf, hp⟩ := h
      have ej : Lib.bytesOf (prt X n).flatten = Lib.join ((List.range n).map fun i => Lib.bytesOf (X i)) [] := by
        unfold Lib.join prt Lib.bytesOf
        rw [List.map_flatten, List.map_map]
        have : ∀ l : List (List UInt8), ([] : List UInt8).intercalate l = l.flatten := fun l => by
          induction l with
          | nil => rfl
          | cons a l ih => cases l with
            | nil => simp [List.intercalate]
            | cons b l => simp [List.intercalate] at ih ⊢; exact ih
        rw [this]
        rfl
      obtain ⟨A, m, cc, rfl, hs⟩ := hfresh (e := .returned v') hf (prt X n).flatten (fun x hx => by
        obtain ⟨q, hq, hx⟩ := List.mem_flatten.1 hx
        obtain ⟨i, hi, rfl⟩ := prt_mem hq
        exact hrr i hi x hx) ej
      exact ⟨A, m, cc, rfl, hs, hp⟩
end Go.Proofs.YtnnonidiogoffaaGreatDoor
