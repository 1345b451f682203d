/- The reference's reading of a node, as a plain function; and the ways of read that end in an error before the contents. -/
import Derived.Test.YtdpnfojpeafdhaaDoorLen8
namespace Go.Proofs.YtdpnfojpeafdhaaDoor
open Go.RowKit
set_option linter.unusedVariables false

inductive Res where
  | ok (t : T) (nx : Nat)
  | err (c a : Nat)
inductive Hd where
  | ok (nx l : Nat)
  | err (c a : Nat)
/-- The number in k bytes, the highest one first. -/
def beN (xs : List Int) (p : Nat) : Nat → Nat
  | 0 => 0
  | k + 1 => beN xs p k * 256 + (xs.getD (p + k) 0).toNat
/-- The length behind a tag. -/
def hdr (xs : List Int) (at0 fin : Nat) : Hd :=
  if fin ≤ at0 + 1 then .err 3 fin
  else if (xs.getD (at0 + 1) 0).toNat = 128 ∨ 131 < (xs.getD (at0 + 1) 0).toNat then .err 6 (at0 + 1)
  else if 128 < (xs.getD (at0 + 1) 0).toNat then
    if fin < at0 + 2 + ((xs.getD (at0 + 1) 0).toNat - 128) then .err 3 fin
    else if beN xs (at0 + 2) ((xs.getD (at0 + 1) 0).toNat - 128) < 128 ∨ (numB (beN xs (at0 + 2) ((xs.getD (at0 + 1) 0).toNat - 128))).length ≠ (xs.getD (at0 + 1) 0).toNat - 128 then .err 6 (at0 + 1)
    else .ok (at0 + 2 + ((xs.getD (at0 + 1) 0).toNat - 128)) (beN xs (at0 + 2) ((xs.getD (at0 + 1) 0).toNat - 128))
  else .ok (at0 + 2) (xs.getD (at0 + 1) 0).toNat
/-- The kids from an offset on. -/
def kidsW (r : Nat → Nat → Res) (tag : Int) (stop : Nat) : Nat → Nat → List T → Res
  | 0, nx, acc => .ok (.node tag [] acc) nx
  | f + 1, nx, acc => if nx < stop then (match r nx stop with
      | .err c a => .err c a
      | .ok t nx' => kidsW r tag stop f nx' (acc ++ [t])) else .ok (.node tag [] acc) nx
/-- A node, with so many levels left. -/
def rd (xs : List Int) : Nat → Nat → Nat → Res
  | 0, at0, fin => if fin ≤ at0 then .err 3 fin else if tagB (xs.getD at0 0) = false then .err 5 at0 else .err 2 at0
  | lv + 1, at0, fin => if fin ≤ at0 then .err 3 fin else if tagB (xs.getD at0 0) = false then .err 5 at0 else
    match hdr xs at0 fin with
    | .err c a => .err c a
    | .ok nx l => if fin < nx + l then .err 3 fin
      else if simB (xs.getD at0 0) = true then .ok (.node (xs.getD at0 0) ((xs.drop nx).take l) []) (nx + l)
      else kidsW (rd xs lv) (xs.getD at0 0) (nx + l) l nx []

theorem hdr_next {xs : List Int} {at0 fin nx l : Nat} (h : hdr xs at0 fin = .ok nx l) : at0 + 2 ≤ nx ∧ at0 + 1 < fin := by
  unfold hdr at h
  generalize (xs.getD (at0 + 1) 0).toNat = L at h
  by_cases h1 : fin ≤ at0 + 1
  · rw [if_pos h1] at h
    cases h
  · rw [if_neg h1] at h
    by_cases h2 : L = 128 ∨ 131 < L
    · rw [if_pos h2] at h
      cases h
    · rw [if_neg h2] at h
      by_cases h3 : 128 < L
      · rw [if_pos h3] at h
        by_cases h4 : fin < at0 + 2 + (L - 128)
        · rw [if_pos h4] at h
          cases h
        · rw [if_neg h4] at h
          by_cases h5 : beN xs (at0 + 2) (L - 128) < 128 ∨ (numB (beN xs (at0 + 2) (L - 128))).length ≠ L - 128
          · rw [if_pos h5] at h
            cases h
          · rw [if_neg h5] at h
            injection h with h6 h7
            omega
      · rw [if_neg h3] at h
        injection h with h6 h7
        omega
theorem kidsW_next {r : Nat → Nat → Res} {tag : Int} {stop : Nat} (hr : ∀ a t nx, r a stop = .ok t nx → a ≤ nx ∧ nx ≤ stop) : ∀ f nx acc t nx', nx ≤ stop → kidsW r tag stop f nx acc = .ok t nx' → nx ≤ nx' ∧ nx' ≤ stop
  | 0, nx, acc, t, nx', h, hk => by
    simp only [kidsW] at hk
    injection hk with h1 h2
    omega
  | f + 1, nx, acc, t, nx', h, hk => by
    simp only [kidsW] at hk
    split at hk
    · cases hq : r nx stop with
      | err c a => rw [hq] at hk; cases hk
      | ok t1 n1 =>
        rw [hq] at hk
        have h1 := hr _ _ _ hq
        have h2 := kidsW_next hr f n1 _ t nx' h1.2 hk
        omega
    · injection hk with h1 h2
      omega
theorem rd_next (xs : List Int) : ∀ lv at0 fin t nx, rd xs lv at0 fin = .ok t nx → at0 + 2 ≤ nx ∧ nx ≤ fin
  | 0, at0, fin, t, nx, h => by
    simp only [rd] at h
    repeat' split at h
    all_goals cases h
  | lv + 1, at0, fin, t, nx, h => by
    simp only [rd] at h
    split at h
    · cases h
    · split at h
      · cases h
      · cases hq : hdr xs at0 fin with
        | err c a => rw [hq] at h; cases h
        | ok n1 l =>
          rw [hq] at h
          have h1 := hdr_next hq
          simp only at h
          split at h
          · cases h
          · split at h
            · injection h with h2 h3
              omega
            · have h2 := kidsW_next (fun a t nx hr => by have := rd_next xs lv a _ t nx hr; omega) _ _ _ _ _ (by omega) h
              omega

/-- What reading hands back with an error. -/
def resE (c a : Nat) : Value := .agg #[.int .u8 0, .slice none 0 0, .slice none 0 0, .int .i64 0, .int .i64 (c : Int), .int .i64 (a : Int)]
/-- A tree that lies in the blocks that are new since w0: whatever else changes, it is there. -/
def Lives (w0 w' : World) (v : Value) (t : T) : Prop := ∀ w'', (∀ k, w0.heap.size ≤ k → k < w'.heap.size → w''.heap[k]? = w'.heap[k]?) → InM w'' v t
def ReadP (r : Res) (w : World) (e : Ending) (w' : World) : Prop :=
  match r with
  | .err c a => e = .returned (resE c a) ∧ Past w w'
  | .ok t nx => ∃ x y z, e = .returned (.agg #[x, y, z, .int .i64 (nx : Int), .int .i64 0, .int .i64 0]) ∧ Lives w w' (.agg #[x, y, z]) t ∧ Past w w'

/-- The bytes that are read, and a place in them. -/
theorem Sl.byte {w : World} {A : Option Addr} {n c : Nat} {xs : List Int} (h : Sl w A n c xs) (i : Nat) (hi : i < n) : ∃ b o, A = some ⟨b, o, none⟩ ∧ w.cell? ⟨b, o + i, none⟩ = some (.int .u8 (xs.getD i 0)) ∧ 0 ≤ xs.getD i 0 ∧ xs.getD i 0 < 256 := by
  obtain ⟨b, o, e, hc⟩ := h.bytes (by omega)
  refine ⟨b, o, e, hc i hi, h.rng _ ?_⟩
  rw [List.getD_eq_getElem?_getD, List.getElem?_eq_getElem (by rw [h.len]; exact hi)]
  exact List.getElem_mem _

/-- What read has before it when there is a byte for the tag. -/
structure Rg (w : World) (b o n at0 fin : Nat) (xs : List Int) (T0 : Int) : Prop where
  hn : n ≤ 1048576
  hf : fin ≤ n
  ha : at0 < fin
  htag : xs.getD at0 0 = T0
  h0 : 0 ≤ T0
  h1 : T0 ≤ 255
  hcell : w.cell? ⟨b, o + at0, none⟩ = some (.int .u8 T0)
  hlt : b < w.heap.size
section
variable (b o n c at0 fin : Nat) (above : Int) (xs : List Int) (T0 : Int) (w : World)
set_option maxHeartbeats 1000000 in
set_option maxRecDepth 100000 in
theorem read_e1 (A : Option Addr) (hn : n ≤ 1048576) (hfin : fin ≤ n) (h : fin ≤ at0) (hat : at0 ≤ n) :
    Calls Tryd.prog 28 #[.slice A n c, .int .i64 (at0 : Int), .int .i64 (fin : Int), .int .i64 above] w (ReadP (.err 3 fin) w) := by
  go_enter Tryd.func28, Tryd.ntmps28
  go_wp2_with fail
  refine bodyPost_ret (v := resE 3 fin) (by simp [results, Tryd.results28, go_sem, resE]) rfl ⟨rfl, past_alloc8 _ _⟩
set_option maxHeartbeats 1000000 in
set_option maxRecDepth 100000 in
theorem read_e2 (h : Rg w b o n at0 fin xs T0) (ht : tagB T0 = false) :
    Calls Tryd.prog 28 #[.slice (some ⟨b, o, none⟩) n c, .int .i64 (at0 : Int), .int .i64 (fin : Int), .int .i64 above] w (ReadP (.err 5 at0) w) := by
  have hn := h.hn
  have hf := h.hf
  have ha := h.ha
  have h0 := h.h0
  have h1 := h.h1
  have hc := h.hcell
  have hl := h.hlt
  have HT := Lib.hid (fun w => rtag_any T0 w h0 h1)
  rw [ht] at HT
  clear h ht
  go_enter Tryd.func28, Tryd.ntmps28
  go_wp2_with fail
  refine (HT.out _).mono ?_
  rintro e w' ⟨rfl, rfl⟩
  go_wp2_with fail
  refine bodyPost_ret (v := resE 5 at0) (by simp [results, Tryd.results28, go_sem, resE]) rfl ⟨rfl, past_alloc8 _ _⟩
set_option maxHeartbeats 1000000 in
set_option maxRecDepth 100000 in
theorem read_e3 (h : Rg w b o n at0 fin xs T0) (ht : tagB T0 = true) (hab : 8 ≤ above) :
    Calls Tryd.prog 28 #[.slice (some ⟨b, o, none⟩) n c, .int .i64 (at0 : Int), .int .i64 (fin : Int), .int .i64 above] w (ReadP (.err 2 at0) w) := by
  have hn := h.hn
  have hf := h.hf
  have ha := h.ha
  have h0 := h.h0
  have h1 := h.h1
  have hc := h.hcell
  have hl := h.hlt
  have HT := Lib.hid (fun w => rtag_any T0 w h0 h1)
  rw [ht] at HT
  clear h ht
  go_enter Tryd.func28, Tryd.ntmps28
  go_wp2_with fail
  refine (HT.out _).mono ?_
  rintro e w' ⟨rfl, rfl⟩
  go_wp2_with fail
  refine bodyPost_ret (v := resE 2 at0) (by simp [results, Tryd.results28, go_sem, resE]) rfl ⟨rfl, past_alloc8 _ _⟩
set_option maxHeartbeats 1000000 in
set_option maxRecDepth 100000 in
theorem read_e4 (h : Rg w b o n at0 fin xs T0) (ht : tagB T0 = true) (hab : above < 8) (hx : fin ≤ at0 + 1) :
    Calls Tryd.prog 28 #[.slice (some ⟨b, o, none⟩) n c, .int .i64 (at0 : Int), .int .i64 (fin : Int), .int .i64 above] w (ReadP (.err 3 fin) w) := by
  have hn := h.hn
  have hf := h.hf
  have ha := h.ha
  have h0 := h.h0
  have h1 := h.h1
  have hc := h.hcell
  have hl := h.hlt
  have HT := Lib.hid (fun w => rtag_any T0 w h0 h1)
  rw [ht] at HT
  clear h ht
  go_enter Tryd.func28, Tryd.ntmps28
  go_wp2_with fail
  refine (HT.out _).mono ?_
  rintro e w' ⟨rfl, rfl⟩
  go_wp2_with fail
  refine bodyPost_ret (v := resE 3 fin) (by simp [results, Tryd.results28, go_sem, resE]) rfl ⟨rfl, past_alloc8 _ _⟩
/-- And a byte for the length. -/
structure Rl (w : World) (b o n at0 fin : Nat) (xs : List Int) (T0 : Int) (L : Nat) : Prop extends Rg w b o n at0 fin xs T0 where
  hmore : at0 + 1 < fin
  hbyte : xs.getD (at0 + 1) 0 = (L : Int)
  hl1 : L ≤ 255
  hcell2 : w.cell? ⟨b, o + (at0 + 1), none⟩ = some (.int .u8 (L : Int))
  hgood : tagB T0 = true
set_option maxHeartbeats 1000000 in
set_option maxRecDepth 100000 in
theorem read_e5 (L : Nat) (h : Rl w b o n at0 fin xs T0 L) (hab : above < 8) (hx : L = 128 ∨ 131 < L) :
    Calls Tryd.prog 28 #[.slice (some ⟨b, o, none⟩) n c, .int .i64 (at0 : Int), .int .i64 (fin : Int), .int .i64 above] w (ReadP (.err 6 (at0 + 1)) w) := by
  have hn := h.hn
  have hf := h.hf
  have ha := h.ha
  have h0 := h.h0
  have h1 := h.h1
  have hc := h.hcell
  have hl := h.hlt
  have hm := h.hmore
  have hL := h.hl1
  have hc2 := h.hcell2
  have HT := Lib.hid (fun w => rtag_any T0 w h0 h1)
  rw [h.hgood] at HT
  clear h
  rcases hx with rfl | hx
  · clear hL
    go_enter Tryd.func28, Tryd.ntmps28
    go_wp2_with fail
    refine (HT.out _).mono ?_
    rintro e w' ⟨rfl, rfl⟩
    go_wp2_with fail
    refine bodyPost_ret (v := resE 6 (at0 + 1)) (by simp [results, Tryd.results28, go_sem, resE]) rfl ⟨rfl, past_alloc8 _ _⟩
  · have hb1 : ((L : Int) == 128) = false := by simp; omega
    go_enter Tryd.func28, Tryd.ntmps28
    go_wp2_with fail
    refine (HT.out _).mono ?_
    rintro e w' ⟨rfl, rfl⟩
    go_wp2_with fail
    refine bodyPost_ret (v := resE 6 (at0 + 1)) (by simp [results, Tryd.results28, go_sem, resE]) rfl ⟨rfl, past_alloc8 _ _⟩
set_option maxHeartbeats 1000000 in
set_option maxRecDepth 100000 in
theorem read_e6 (L : Nat) (h : Rl w b o n at0 fin xs T0 L) (hab : above < 8) (h128 : 128 < L) (h131 : L ≤ 131) (hx : fin < at0 + 2 + (L - 128)) :
    Calls Tryd.prog 28 #[.slice (some ⟨b, o, none⟩) n c, .int .i64 (at0 : Int), .int .i64 (fin : Int), .int .i64 above] w (ReadP (.err 3 fin) w) := by
  have hn := h.hn
  have hf := h.hf
  have ha := h.ha
  have h0 := h.h0
  have h1 := h.h1
  have hc := h.hcell
  have hl := h.hlt
  have hm := h.hmore
  have hL := h.hl1
  have hc2 := h.hcell2
  have HT := Lib.hid (fun w => rtag_any T0 w h0 h1)
  rw [h.hgood] at HT
  clear h
  obtain ⟨k, rfl⟩ : ∃ k, L = k + 128 := ⟨L - 128, by omega⟩
  have hk1 : 1 ≤ (k : Int) := by omega
  have hk3 : (k : Int) ≤ 3 := by omega
  have hxi : (fin : Int) < (at0 : Int) + 2 + (k : Int) := by omega
  have hb1 : (((k + 128 : Nat) : Int) == 128) = false := by simp; omega
  have hb2 : ((k : Int) + 128 == 128) = false := by simp; omega
  clear hx h128 h131
  go_enter Tryd.func28, Tryd.ntmps28
  go_wp2_with fail
  refine (HT.out _).mono ?_
  rintro e w' ⟨rfl, rfl⟩
  go_wp2_with fail
  refine bodyPost_ret (v := resE 3 fin) (by simp [results, Tryd.results28, go_sem, resE]) rfl ⟨rfl, past_alloc8 _ _⟩
end

end Go.Proofs.YtdpnfojpeafdhaaDoor
