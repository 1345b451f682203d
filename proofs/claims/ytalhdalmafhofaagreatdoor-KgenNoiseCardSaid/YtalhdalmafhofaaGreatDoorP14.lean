/- The contracts of the program's package kring. The chapter's examples hold of the program's package kring, by its contracts. The program's Reduce, reversed, splitter. The program's Add and Sub. The program's Valid, makePowers, Root. -/
import Derived.Test.YtalhdalmafhofaaGreatDoorR14A
import Derived.Test.YtalhdalmafhofaaGreatDoorArr
import Derived.IntWalk
import Derived.Deep.RegionHeld
namespace Go.Proofs.YtalhdalmafhofaaGreatDoor
set_option maxRecDepth 100000
open Go.RowKit
set_option linter.unusedVariables false

def subF (f g : Nat → Int) (j : Nat) : Int := (f j - g j) % 3329
/-- Coefficients of 16 bits. -/
def R16 (f : Nat → Int) : Prop := ∀ j, 0 ≤ f j ∧ f j < 65536
theorem R16.of_low {f : Nat → Int} (h : ∀ j, 0 ≤ f j ∧ f j < 3329) : R16 f := fun j => by have := h j; omega
/-- The polynomial c. -/
def dlt (c : Int) (j : Nat) : Int := if j = 0 then c else 0
theorem dlt_rng {c : Int} (h0 : 0 ≤ c) (h1 : c < 65536) : R16 (dlt c) := fun j => by unfold dlt; split <;> omega
theorem ev_zero (n : Nat) (z : Int) : ev (fun _ => 0) n z = 0 := by
  induction n with
  | zero => rfl
  | succ n ih => rw [ev, ih, Int.mul_zero, Int.add_zero]
theorem ntt_dlt (i : Nat) (hi : i < 128) : ntt (dlt 1) (2 * i) = 1 ∧ ntt (dlt 1) (2 * i + 1) = 0 := by
  obtain ⟨h0, h1⟩ := ntt_at (dlt 1) i hi
  rw [h0, h1]
  constructor
  · have : ev (fun t => dlt 1 (2 * t)) 128 (rt i) = 1 := by
      rw [show (128 : Nat) = 127 + 1 from rfl, ev, ev_ext (g := fun _ => 0) fun t _ => by unfold dlt; rw [if_neg (by omega)], ev_zero]
      rfl
    rw [this]
    decide
  · have : ev (fun t => dlt 1 (2 * t + 1)) 128 (rt i) = 0 := by
      rw [ev_ext (g := fun _ => 0) fun t _ => by unfold dlt; rw [if_neg (by omega)], ev_zero]
    rw [this]
    decide
theorem rdc_dlt : rdc (dlt 1) = dlt 1 := by
  funext j
  unfold rdc dlt
  split <;> decide
theorem rdc_low {f : Nat → Int} (h : ∀ j, 0 ≤ f j ∧ f j < 3329) : rdc f = f := by
  funext j
  have := h j
  unfold rdc
  omega
/-- Arrays as lists of cells. -/
def lst (f : Nat → Int) : List Value := (List.range 256).map fun i => Value.int .u16 (f i)
theorem arr_lst (f : Nat → Int) : arr .u16 256 f = (lst f).toArray := rfl
theorem row_lst {w : World} {g : Nat} {t : TypeId} {f : Nat → Int} (h : Row w g t (arr .u16 256 f)) : w.rangeAt g 0 (lst f) := fun j v hj => by
  rw [Nat.zero_add, h.cell]
  rw [arr_lst]
  simpa using hj
theorem lst_len (f : Nat → Int) : (Tryz.prog.info? 29).map (·.size) = some (lst f).length ∧ (Tryz.prog.info? 30).map (·.size) = some (lst f).length := by
  have : (lst f).length = 256 := by unfold lst; simp
  rw [this]
  exact ⟨by kernel_rfl, by kernel_rfl⟩
end Go.Proofs.YtalhdalmafhofaaGreatDoor

namespace Go.Proofs.YtalhdalmafhofaaGreatDoor
open Go.RowKit
set_option linter.unusedVariables false

theorem zeroP (w : World) : (zeroValue 30).run Tryz.prog w = .ok (.agg (arr .u16 256 fun _ => 0)) w := by kernel_rfl
theorem infP (f : Nat → Int) : (Tryz.prog.info? 30).map (·.size) = some (arr .u16 256 f).size := by rw [arr_size]; kernel_rfl
theorem setP (c : Int) : (arr .u16 256 fun _ => 0).setIfInBounds 0 (.int .u16 c) = arr .u16 256 (dlt c) := by
  rw [arr_set .u16 256 _ 0 c (by decide)]
  refine arr_ext fun i _ => ?_
  unfold upd dlt
  rfl
theorem builtP (c : Int) : Tryz.prog.built 30 [(0, .int .u16 c)] = some (arr .u16 256 (dlt c)) := by kernel_rfl
theorem eqP (f g : Nat → Int) (h : ∀ i, i < 256 → f i = g i) (w : World) : (Op.equalIn 10000 30 (.agg (arr .u16 256 f)) (.agg (arr .u16 256 g))).run Tryz.prog w = .ok true w := by
  obtain ⟨i, hi, hz⟩ : ∃ i, Tryz.prog.info? 28 = some i ∧ i.size = 1 := by
    cases hq : Tryz.prog.info? 28 with
    | none =>
      have : (Tryz.prog.info? 28).isSome = true := by kernel_rfl
      rw [hq] at this
      cases this
    | some i =>
      have : (Tryz.prog.info? 28).map (·.size) = some 1 := by kernel_rfl
      rw [hq] at this
      exact ⟨i, rfl, by simpa using this⟩
  rw [run_eq_arr w Tryz.underlying30 Tryz.underlying28 hi hz, eqB_true h]
theorem egP : Tryz.prog.eqGuardType Tryz.prog.depth 30 = false := by kernel_rfl
theorem wpList_build_oneP {P : Program} {ops : Array Oper} {rest : List Oper} {o : Oper} {a : Act} {w : World} {Q : Exit → Act → World → Prop} (hg : o.guard = none) (t : TypeId) (i : Nat) (x : Operand) (ho : o.op = .build t #[(i, x)]) (v : Value) (hx : a.eval x = v) (cs : Array Value)
    (hb : P.built t [(i, v)] = some cs) (h : wpList P ops Q rest (a.put o.dst (.agg cs)) w) : wpList P ops Q (o :: rest) a w := by
  have e : ((#[(i, x)] : Array (Nat × Operand)).map fun (i, x) => (i, a.eval x)).toList = [(i, v)] := by simp [hx]
  exact wpList_build hg t #[(i, x)] ho (by rw [e, hb]; rfl) (by rw [e, hb]; exact h)
/-- A new variable that is written at once. -/
theorem fresh_row (w : World) (t : TypeId) (c0 cs : Array Value) : Row ((w.alloc (.cells c0 t)).setRow w.heap.size cs) w.heap.size t cs ∧ Past w ((w.alloc (.cells c0 t)).setRow w.heap.size cs) :=
  ⟨setRow_heap _ _ c0 cs t (0, 0) (Row.new w t c0), below_setRow ((Below.refl w.heap.size w).alloc (Nat.le_refl _) _) (Nat.le_refl _) _⟩
end Go.Proofs.YtalhdalmafhofaaGreatDoor

namespace Go.Proofs.YtalhdalmafhofaaGreatDoor
open Go.RowKit
set_option linter.unusedVariables false

theorem reduce_any (n : Int) (w : World) (h0 : -9223372036854775808 ≤ n) (h1 : n < 9223372036854775808) : Calls Tryz.prog 18 #[.int .i64 n] w fun e w' => e = .returned (.int .u16 (n % 3329)) ∧ w' = w := by
  obtain ⟨x, hx⟩ : ∃ x, n % 3329 = x := ⟨_, rfl⟩
  have x0 : 0 ≤ x := by omega
  have x1 : x < 3329 := by omega
  obtain ⟨t, ht⟩ : ∃ t, n.tmod 3329 = t := ⟨_, rfl⟩
  have htx : (0 ≤ t ∧ t = x) ∨ (t < 0 ∧ t = x - 3329) := by
    rcases (show 0 ≤ n ∨ n < 0 by omega) with h | h
    · rw [Int.tmod_eq_emod_of_nonneg h] at ht
      omega
    · have := Int.tmod_eq_emod (a := n) (b := 3329)
      rw [ht] at this
      split at this <;> omega
  have hwx : IntKind.u16.wrap x = x := by rw [IntKind.wrap_u16]; omega
  have hwt : IntKind.i64.wrap t = t := by rw [IntKind.wrap_i64]; omega
  rw [hx]
  rcases htx with ⟨h2, h3⟩ | ⟨h2, h3⟩
  · subst h3
    clear hx
    go_enter Tryz.func18, Tryz.ntmps18
    go_wp2_with fail
    go_ret
    exact ⟨rfl, rfl⟩
  · have hs : t + 3329 = x := by omega
    have hws : IntKind.i64.wrap (t + 3329) = x := by rw [IntKind.wrap_i64]; omega
    clear hx h3
    go_enter Tryz.func18, Tryz.ntmps18
    go_wp2_with fail
    go_ret
    exact ⟨rfl, rfl⟩
end Go.Proofs.YtalhdalmafhofaaGreatDoor

namespace Go.Proofs.YtalhdalmafhofaaGreatDoor
open Go.RowKit
set_option linter.unusedVariables false

set_option maxHeartbeats 4000000 in
set_option maxRecDepth 100000 in
theorem padd_any (a b : Nat → Int) (ha : ∀ j, 0 ≤ a j ∧ a j < 65536) (hb : ∀ j, 0 ≤ b j ∧ b j < 65536) (w : World) :
    Calls Tryz.prog 38 #[.agg (arr .u16 256 a), .agg (arr .u16 256 b)] w fun e w' => e = .returned (.agg (arr .u16 256 (addF a b))) ∧ Past w w' := by
  have HCA := Lib.hid (fun i (hi : i < 256) => arr_get .u16 256 a i hi)
  have HCB := Lib.hid (fun i (hi : i < 256) => arr_get .u16 256 b i hi)
  have HFA := Lib.hid ha
  have HFB := Lib.hid hb
  obtain ⟨g, hg⟩ : ∃ g, w.heap.size = g := ⟨_, rfl⟩
  obtain ⟨w3, hw3⟩ : ∃ w', w' = (((w.alloc (.cells (arr .u16 256 a) 30)).alloc (.cells (arr .u16 256 b) 30)).alloc (.cells (arr .u16 256 fun _ => 0) 30)).alloc (.cells (arr .u16 256 fun _ => 0) 30) := ⟨_, rfl⟩
  have H0 : Hid (Fx [(g, 30, arr .u16 256 a), (g + 1, 30, arr .u16 256 b), (g + 1 + 1, 30, arr .u16 256 fun _ => 0)] .u16 256 w w3 (g + 1 + 1 + 1) 30 fun _ => 0) := Lib.hid (by
    have h := four_fx w 30 30 30 30 (arr .u16 256 a) (arr .u16 256 b) (arr .u16 256 fun _ => 0) .u16 256 fun _ => 0
    rw [hg, ← hw3] at h
    exact h)
  have HGE : Hid (w.heap.size = g) := Lib.hid hg
  have HW3 := Lib.hid hw3
  clear ha hb hw3
  generalize arr .u16 256 a = ca at *
  generalize arr .u16 256 b = cb at *
  go_enter Tryz.func38, Tryz.ntmps38
  have hz := zeroP
  go_upto_region 2 with (fail)
  clear hz
  rw [← HW3.out]
  try rw [hg]
  clear HW3 hg
  go_wp2_with fail
  go_loopg [7] 256 (fun q s7 wx => ∃ i : Nat, i ≤ 256 ∧ q = 256 - i ∧ s7 = .int .i64 (i : Int) ∧ Hid (∃ F, Fx [(g, 30, ca), (g + 1, 30, cb), (g + 1 + 1, 30, arr .u16 256 fun _ => 0)] .u16 256 w wx (g + 1 + 1 + 1) 30 F ∧ ∀ j, j < i → F j = addF a b j))
  case atStart => exact ⟨0, Nat.zero_le _, rfl, rfl, Lib.hid ⟨_, H0.out, fun j hj => absurd hj (by omega)⟩⟩
  case round =>
    clear H0
    obtain ⟨i, hi, hq, rfl, HQ⟩ := hrel
    have HGQ := Lib.hid hq
    clear hq
    have hi0 : (0 : Int) ≤ (i : Int) := by omega
    obtain ⟨F, hT, hF⟩ := HQ.out
    by_cases hlt : i < 256
    · have hii : (i : Int) < 256 := by omega
      have HLT := Lib.hid hlt
      have hc1 : wr.cell? ⟨g, i, none⟩ = some (.int .u16 (a i)) := by
        rw [(hT.2.1 (g, 30, ca) (by simp)).cell]
        exact HCA.out i hlt
      have hc2 : wr.cell? ⟨g + 1, i, none⟩ = some (.int .u16 (b i)) := by
        rw [(hT.2.1 (g + 1, 30, cb) (by simp)).cell]
        exact HCB.out i hlt
      obtain ⟨x0, x1⟩ := HFA.out i
      obtain ⟨y0, y1⟩ := HFB.out i
      obtain ⟨wd, hwd⟩ : ∃ w', w' = wr.drew := ⟨_, rfl⟩
      have HWD := Lib.hid hwd
      have hT0 : Fx _ _ _ _ _ _ _ F := hT.drewN 1
      change Fx _ _ _ _ wr.drew _ _ _ at hT0
      have HS00 : Hid (wr.drew.cell? ⟨g, i, none⟩ = some (.int .u16 (a i)) ∧ wr.drew.cell? ⟨g + 1, i, none⟩ = some (.int .u16 (b i))) := Lib.hid ⟨hc1, hc2⟩
      rw [← hwd] at hT0 HS00
      have hc3 := hT0.2.2.at i hlt
      have hf3 := hT0.2.2.fr i
      have hT1 := hT0.put (by have := HGE.out; omega) (by intro x hx; simp at hx; rcases hx with rfl | rfl | rfl <;> simp <;> omega) i hlt (addF a b i)
      have HT2 := Lib.hid (show ∃ F', Fx _ _ _ _ _ _ _ F' ∧ ∀ j, j < i + 1 → F' j = addF a b j from ⟨_, hT1, fun j hj => by
        by_cases e1 : j = i
        · subst e1; rw [upd_at]
        · rw [upd_ne _ _ e1]; exact hF j (by omega)⟩)
      have HS11 : Hid ((wd.setCell ⟨g + 1 + 1 + 1, i, none⟩ (.int .u16 (addF a b i))).cell? ⟨g, i, none⟩ = some (.int .u16 (a i)) ∧ (wd.setCell ⟨g + 1 + 1 + 1, i, none⟩ (.int .u16 (addF a b i))).cell? ⟨g + 1, i, none⟩ = some (.int .u16 (b i))) := Lib.hid (by
        have hr1 := hT1.2.1 (g, 30, ca) (by simp)
        have hr2 := hT1.2.1 (g + 1, 30, cb) (by simp)
        exact ⟨by rw [hr1.cell]; exact HCA.out i hlt, by rw [hr2.cell]; exact HCB.out i hlt⟩)
      obtain ⟨p, hp⟩ : ∃ p, a i = p := ⟨_, rfl⟩
      obtain ⟨r, hr⟩ : ∃ p, b i = p := ⟨_, rfl⟩
      obtain ⟨y, hy⟩ : ∃ y, addF a b i = y := ⟨_, rfl⟩
      have hyp : (p + r) % 3329 = y := by rw [← hp, ← hr]; exact hy
      rw [hp] at x0 x1 HS00 HS11
      rw [hr] at y0 y1 HS00 HS11
      rw [hy] at HS11 HT2
      obtain ⟨E, hE⟩ : ∃ E, p + r = E := ⟨_, rfl⟩
      have hwE : IntKind.i64.wrap (p + r) = E := by rw [hE, IntKind.wrap_i64]; omega
      have hwp : IntKind.i64.wrap p = p := by rw [IntKind.wrap_i64]; omega
      have hwr2 : IntKind.i64.wrap r = r := by rw [IntKind.wrap_i64]; omega
      have HRE := Lib.hid (fun w => reduce_any E w (by omega) (by omega))
      rw [show E % 3329 = y by rw [← hE]; exact hyp] at HRE
      have HS0 := HS00
      have HS1 := HS11
      clear hT hT0 hF hT1 HQ hy hyp hlt hi hwd hp hr hE HS00 HS11 hc1 hc2
      go_upto_region 5 with (fail)
      refine wp_region_held_drew (S := fun w' => w'.cell? ⟨g, i, none⟩ = some (.int .u16 p) ∧ w'.cell? ⟨g + 1, i, none⟩ = some (.int .u16 r)) (by kernel_rfl) (by rw [← HWD.out]; exact HS0.out) (fun hH => ?_)
      change wpAnyH _ _ _ _ _ _ _ _ (World.drew _)
      rw [← HWD.out]
      clear hH
      have hH := HS0.out
      clear HWD
      refine held_take 0 10 (v := .int .i64 (i : Int)) rfl rfl (by kernel_rfl) (by kernel_rfl) (by kernel_rfl) (fun _ _ _ h => h) (Or.inl ⟨by kernel_rfl, fun w _ => by kernel_rfl⟩) hH ?_
      (try simp only [List.setIfInBounds_toArray, List.set_cons_zero, List.set_cons_succ])
      refine held_take 1 11 (v := .int .i64 (i : Int)) rfl rfl (by kernel_rfl) (by kernel_rfl) (by kernel_rfl) (fun _ _ _ h => h) (Or.inl ⟨by kernel_rfl, fun w _ => by kernel_rfl⟩) hH ?_
      (try simp only [List.setIfInBounds_toArray, List.set_cons_zero, List.set_cons_succ])
      refine held_take 2 12 (v := .pointer (some ⟨g, i, none⟩)) rfl rfl (by kernel_rfl) (by kernel_rfl) (by kernel_rfl) (fun _ _ _ h => h) (Or.inl ⟨by kernel_rfl, fun w _ => by go_simp⟩) hH ?_
      (try simp only [List.setIfInBounds_toArray, List.set_cons_zero, List.set_cons_succ])
      refine held_take 3 13 (v := .int .u16 p) rfl rfl (by kernel_rfl) (by kernel_rfl) (by kernel_rfl) (fun _ _ _ h => h) (Or.inl ⟨by kernel_rfl, fun w hSw => by
        have hcell := hSw.1
        go_simp⟩) hH ?_
      (try simp only [List.setIfInBounds_toArray, List.set_cons_zero, List.set_cons_succ])
      refine held_take 4 14 (v := .int .i64 p) rfl rfl (by kernel_rfl) (by kernel_rfl) (by kernel_rfl) (fun _ _ _ h => h) (Or.inl ⟨by kernel_rfl, fun w _ => by go_simp⟩) hH ?_
      (try simp only [List.setIfInBounds_toArray, List.set_cons_zero, List.set_cons_succ])
      refine held_take 5 15 (v := .int .i64 (i : Int)) rfl rfl (by kernel_rfl) (by kernel_rfl) (by kernel_rfl) (fun _ _ _ h => h) (Or.inl ⟨by kernel_rfl, fun w _ => by kernel_rfl⟩) hH ?_
      (try simp only [List.setIfInBounds_toArray, List.set_cons_zero, List.set_cons_succ])
      refine held_take 6 16 (v := .pointer (some ⟨g + 1, i, none⟩)) rfl rfl (by kernel_rfl) (by kernel_rfl) (by kernel_rfl) (fun _ _ _ h => h) (Or.inl ⟨by kernel_rfl, fun w _ => by go_simp⟩) hH ?_
      (try simp only [List.setIfInBounds_toArray, List.set_cons_zero, List.set_cons_succ])
      refine held_take 7 17 (v := .int .u16 r) rfl rfl (by kernel_rfl) (by kernel_rfl) (by kernel_rfl) (fun _ _ _ h => h) (Or.inl ⟨by kernel_rfl, fun w hSw => by
        have hcell := hSw.2
        go_simp⟩) hH ?_
      (try simp only [List.setIfInBounds_toArray, List.set_cons_zero, List.set_cons_succ])
      refine held_take 8 18 (v := .int .i64 r) rfl rfl (by kernel_rfl) (by kernel_rfl) (by kernel_rfl) (fun _ _ _ h => h) (Or.inl ⟨by kernel_rfl, fun w _ => by go_simp⟩) hH ?_
      (try simp only [List.setIfInBounds_toArray, List.set_cons_zero, List.set_cons_succ])
      refine held_take 9 19 (v := .int .i64 E) rfl rfl (by kernel_rfl) (by kernel_rfl) (by kernel_rfl) (fun _ _ _ h => h) (Or.inl ⟨by kernel_rfl, fun w _ => by go_simp⟩) hH ?_
      (try simp only [List.setIfInBounds_toArray, List.set_cons_zero, List.set_cons_succ])
      refine wpAnyH_ready (rs := [10]) (by kernel_rfl) (by simp) ?_
      refine AllReadyH.cons rfl (fun K hK => ?_) AllReadyH.nil
      go_simp
      refine (HRE.out wd).mono ?_
      rintro e9 w9 ⟨rfl, hw9⟩
      rw [hw9]
      clear hw9
      refine hK.out _ _ HS0.out (fun hH => ?_)
      clear hK K
      refine held_take 11 21 (v := .pointer (some ⟨g + 1 + 1 + 1, i, none⟩)) rfl rfl (by kernel_rfl) (by kernel_rfl) (by kernel_rfl) (fun _ _ _ h => h) (Or.inl ⟨by kernel_rfl, fun w _ => by go_simp⟩) hH ?_
      (try simp only [List.setIfInBounds_toArray, List.set_cons_zero, List.set_cons_succ])
      refine wpAnyH_ready (rs := [12]) (by kernel_rfl) (by simp) ?_
      refine AllReadyH.cons rfl (fun K hK => ?_) AllReadyH.nil
      go_simp
      refine hK.out _ _ HS1.out (fun hH => ?_)
      clear hK K
      refine wpAnyH_done (by kernel_rfl) ?_ _
      go_simp
      go_wp2_with fail
      go_roundg (256 - (i + 1))
      case rel => exact ⟨i + 1, HLT.out, rfl, by go_num, HT2⟩
      case measure => have := HGQ.out; have := HLT.out; omega
    · obtain rfl : i = 256 := by omega
      have he : arr .u16 256 F = arr .u16 256 (addF a b) := arr_ext fun j hj => hF j (by omega)
      have hr2 := hT.2.2
      have hr1 := hT.2.1 (g + 1 + 1, 30, arr .u16 256 fun _ => 0) (by simp)
      unfold LM at hr2
      rw [he] at hr2
      have hi2 := infP (addF a b)
      have hs2 : (arr .u16 256 fun _ => 0).size = (arr .u16 256 (addF a b)).size := by rw [arr_size, arr_size]
      have ho2 := arr_one .u16 256 (addF a b)
      have HP := Lib.hid hT.1
      clear hT hF he HQ HCA HCB
      generalize hcc : arr .u16 256 (addF a b) = c2 at *
      have HCC := Lib.hid hcc
      clear hcc
      generalize arr .u16 256 (fun _ => 0) = c1 at *
      simp only at hr1
      go_wp2_with (first | (refine wpList_load_row rfl 30 _ rfl (g + 1 + 1 + 1) rfl _ _ (0, 0) _ hr2 Tryz.underlying30 rfl hi2 ?_) | (refine wpList_store_row rfl 30 _ _ rfl (g + 1 + 1) _ rfl rfl _ _ hr1 hi2 hs2 ho2 ?_))
      refine bodyPost_ret (results_cell_row rfl _ _ (g + 1 + 1) _ c2 (0, 0) _ rfl (setRow_heap wr (g + 1 + 1) c1 c2 _ _ hr1) Tryz.underlying30 rfl hi2) rfl ?_
      exact ⟨by rw [HCC.out], below_setRow HP.out (by have := HGE.out; omega) _⟩
end Go.Proofs.YtalhdalmafhofaaGreatDoor

namespace Go.Proofs.YtalhdalmafhofaaGreatDoor
open Go.RowKit
set_option linter.unusedVariables false

theorem valid_eq (f : Nat → Int) (hf : R16 f) : (eqB 256 f (addF f fun _ => 0) = true) ↔ ∀ j, j < 256 → f j < 3329 := by
  unfold eqB
  rw [List.all_eq_true]
  constructor
  · intro h j hj
    have e : f j = (f j + 0) % 3329 := by simpa [addF] using h j (List.mem_range.2 hj)
    omega
  · intro h j hj
    have h1 := h j (List.mem_range.1 hj)
    have h2 := hf j
    have e : f j = (f j + 0) % 3329 := by omega
    simpa [addF] using e
theorem runEqP (f g : Nat → Int) (w : World) : (Op.equalIn 10000 30 (.agg (arr .u16 256 f)) (.agg (arr .u16 256 g))).run Tryz.prog w = .ok (eqB 256 f g) w := by
  obtain ⟨i, hi, hz⟩ : ∃ i, Tryz.prog.info? 28 = some i ∧ i.size = 1 := by
    cases hq : Tryz.prog.info? 28 with
    | none =>
      have : (Tryz.prog.info? 28).isSome = true := by kernel_rfl
      rw [hq] at this
      cases this
    | some i =>
      have : (Tryz.prog.info? 28).map (·.size) = some 1 := by kernel_rfl
      rw [hq] at this
      exact ⟨i, rfl, by simpa using this⟩
  exact run_eq_arr w Tryz.underlying30 Tryz.underlying28 hi hz
theorem runIndex (f : Nat → Int) (j : Nat) (hj : j < 256) (w : World) : (Instr.index 29 (.agg (arr .u16 256 f)) (.int .i64 (j : Int))).run Tryz.prog w = .ok (.int .u16 (f j)) w := by
  obtain ⟨i, hi, hz⟩ : ∃ i, Tryz.prog.info? 28 = some i ∧ i.size = 1 := by
    cases hq : Tryz.prog.info? 28 with
    | none =>
      have : (Tryz.prog.info? 28).isSome = true := by kernel_rfl
      rw [hq] at this
      cases this
    | some i =>
      have : (Tryz.prog.info? 28).map (·.size) = some 1 := by kernel_rfl
      rw [hq] at this
      exact ⟨i, rfl, by simpa using this⟩
  exact run_index_cells w Tryz.underlying29 Tryz.underlying28 hi hz (j : Int) (by omega) (by omega) (arr_get .u16 256 f j hj)
end Go.Proofs.YtalhdalmafhofaaGreatDoor
