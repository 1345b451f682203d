/- The program's read. -/
import Derived.Test.YtnnonidiogoffaaGreatDoorPm12J
namespace Go.Proofs.YtnnonidiogoffaaGreatDoor
open Go.RowKit Go.Shelf
set_option linter.unusedVariables false

/-- An error that is a code. -/
def cdV (c : Int) : Value := .iface 47 (.int .i64 c)
def MidP (r : PRes) (w : World) (e : Ending) (w' : World) : Prop :=
  (match r with
    | .err c => e = .returned (.tuple #[.slice none 0 0, cdV c])
    | .ok _ ys => ∃ A m cc, e = .returned (.tuple #[.slice A m cc, .nilIface]) ∧ Sl w' A m cc ys) ∧ Past w w'
theorem mid_long {X : Nat → List Int} {n : Nat} (lab : List Int) (h : anyL (fun k => decide (64 < k)) X n = true) : midP lab (prt X n) = .err 5 := by
  unfold midP
  exact if_pos h
theorem mid_none (X : Nat → List Int) (lab : List Int) : midP lab (prt X 0) = .err 6 := rfl
theorem prt_drop (X : Nat → List Int) (k : Nat) : (prt X (k + 1)).dropLast = prt X k := by rw [prt_succ]; simp
theorem mid_short {X : Nat → List Int} {k : Nat} (lab : List Int) (h : anyL (fun k => decide (64 < k)) X (k + 1) = false) (h2 : anyL (fun k => decide (k < 64)) X k = true) : midP lab (prt X (k + 1)) = .err 6 := by
  have h' : ¬ (prt X (k + 1)).any (fun y => decide (64 < y.length)) = true := by
    intro e
    have : anyL (fun k => decide (64 < k)) X (k + 1) = true := e
    rw [h] at this
    cases this
  unfold midP
  rw [if_neg h', if_pos (.inr (by rw [prt_drop]; exact h2))]
theorem mid_rest {X : Nat → List Int} {k : Nat} (lab : List Int) (h : anyL (fun k => decide (64 < k)) X (k + 1) = false) (h2 : anyL (fun k => decide (k < 64)) X k = false) :
    midP lab (prt X (k + 1)) = match rdec 1 (txt (prt X (k + 1)).flatten) with
      | none => .err 5
      | some ys => if X k = [] then .err 5 else .ok lab ys := by
  have h' : ¬ (prt X (k + 1)).any (fun y => decide (64 < y.length)) = true := by
    intro e
    have : anyL (fun k => decide (64 < k)) X (k + 1) = true := e
    rw [h] at this
    cases this
  have h2' : ¬ (prt X (k + 1) = [] ∨ (prt X (k + 1)).dropLast.any (fun y => decide (y.length < 64)) = true) := by
    rintro (e | e)
    · have := congrArg List.length e
      rw [prt_len] at this
      simp at this
    · rw [prt_drop] at e
      have : anyL (fun k => decide (k < 64)) X k = true := e
      rw [h2] at this
      cases this
  unfold midP
  rw [if_neg h', if_neg h2']
  have el : (prt X (k + 1)).getLastD [] = X k := by rw [prt_succ, List.getLastD_eq_getLast?, List.getLast?_append]; rfl
  rw [el]
  cases rdec 1 (txt (prt X (k + 1)).flatten) with
  | none => rfl
  | some ys => rfl
theorem Sls.less {w : World} {P : Option Addr} {n c : Nat} {V : Nat → Option Addr} {C : Nat → Nat} {X : Nat → List Int} (h : Sls w P n c V C X) {k : Nat} (hk : k ≤ n) : Sls w P k c V C X :=
  ⟨Nat.le_trans hk h.cap, h.big, h.nil0, fun h0 => by
    obtain ⟨b, o, e, hc⟩ := h.cells (by omega)
    exact ⟨b, o, e, fun i hi => hc i (by omega)⟩⟩

set_option maxRecDepth 100000 in
set_option maxHeartbeats 4000000 in
theorem read_any (P : Option Addr) (n c : Nat) (V : Nat → Option Addr) (C : Nat → Nat) (X : Nat → List Int) (lab : List Int) (w : World) (hS : Sls w P n c V C X) (hn : n ≤ 1000000) (hl : (prt X n).flatten.length ≤ 100000) :
    Calls Tryz.prog 24 #[.slice P n c] w (MidP (midP lab (prt X n)) w) := by
  have HL := Lib.hid (fun w h => containsL_any 41 (fun k => decide (64 < k)) (enters_of Tryz.func41 (by kernel_rfl) rfl) isLong_any P n c V C X w h hn)
  have HS := Lib.hid hS
  have hbig : (n : Int) ≤ 1000000 := by omega
  cases hlg : anyL (fun k => decide (64 < k)) X n with
  | true =>
    rw [hlg] at HL
    have HR := Lib.hid (mid_long lab hlg)
    clear hlg hS hn hl
    go_enter Tryz.func24, Tryz.ntmps24
    go_wp2_with fail
    refine (HL.out _ HS.out).mono ?_
    rintro e w1 ⟨rfl, m, hw1⟩
    have H1 : Hid (Past w w1) := Lib.hid (by rw [hw1]; exact Past.drewN (Below.refl _ _) m)
    clear hw1
    go_wp2_with fail
    go_ret2
    rw [HR.out]
    exact ⟨rfl, H1.out⟩
  | false =>
    rw [hlg] at HL
    by_cases h0 : n = 0
    · subst h0
      have HR := Lib.hid (mid_none X lab)
      clear hlg hS hn hl
      go_enter Tryz.func24, Tryz.ntmps24
      go_wp2_with fail
      refine (HL.out _ HS.out).mono ?_
      rintro e w1 ⟨rfl, m, hw1⟩
      have H1 : Hid (Past w w1) := Lib.hid (by rw [hw1]; exact Past.drewN (Below.refl _ _) m)
      clear hw1
      go_wp2_with fail
      go_ret2
      rw [HR.out]
      exact ⟨rfl, H1.out⟩
    · obtain ⟨k, hk⟩ : ∃ k, n = k + 1 := ⟨n - 1, by omega⟩
      obtain ⟨b, o, rfl, hc⟩ := hS.cells (by omega)
      have h0b : ((n : Int) == 0) = false := by simp; omega
      have hnk : (n : Int) - 1 = (k : Int) := by omega
      have hnkw : IntKind.i64.wrap ((n : Int) - 1) = (k : Int) := by rw [IntKind.wrap_i64]; omega
      have hk0 : (0 : Int) ≤ (k : Int) := by omega
      have hkn : (k : Int) ≤ (n : Int) := by omega
      have hkn1 : (k : Int) < (n : Int) := by omega
      have HSh := Lib.hid (fun w h => containsL_any 42 (fun k => decide (k < 64)) (enters_of Tryz.func42 (by kernel_rfl) rfl) isShort_any (some ⟨b, o, none⟩) k c V C X w h (by omega))
      have hcap := hS.cap
      have hsl : ∀ w : World, (Instr.slice 48 (.slice (some ⟨b, o, none⟩) n c) none (some (.int .i64 (k : Int))) none).run Tryz.prog w = .ok (.slice (some ⟨b, o, none⟩) k c) w := fun w => by
        rw [run_slice_h w 48 (some ⟨b, o, none⟩) n c Tryz.underlying48 .i64 (k : Int) (by omega) (by omega)]
        have hs : (sizeOf (Tryz.prog.elem 48)).run Tryz.prog w = .ok 1 w := by kernel_rfl
        rw [hs]
        simp [Result.andThen, sliced]
        intro _
        exact add_none b o 0
      cases hsh : anyL (fun k => decide (k < 64)) X k with
      | true =>
        rw [hsh] at HSh
        have HR : Hid (midP lab (prt X n) = .err 6) := Lib.hid (by rw [hk]; rw [hk] at hlg; exact mid_short lab hlg hsh)
        have HKL : Hid (k ≤ n) := Lib.hid (by omega)
        clear hlg hS hn hl hk h0 hsh hc hcap
        go_enter Tryz.func24, Tryz.ntmps24
        go_wp2_with fail
        refine (HL.out _ HS.out).mono ?_
        rintro e w1 ⟨rfl, m, hw1⟩
        have H1 : Hid (Past w w1) := Lib.hid (by rw [hw1]; exact Past.drewN (Below.refl _ _) m)
        clear hw1
        go_wp2_with fail
        refine (HSh.out _ ((HS.out.less HKL.out).past H1.out)).mono ?_
        rintro e w2 ⟨rfl, m2, hw2⟩
        have H2 : Hid (Past w w2) := Lib.hid (by rw [hw2]; exact H1.out.drewN m2)
        clear hw2
        go_wp2_with fail
        go_ret2
        rw [HR.out]
        exact ⟨rfl, H2.out⟩
      | false =>
        rw [hsh] at HSh
        have HR : Hid (midP lab (prt X n) = match rdec 1 (txt (prt X n).flatten) with
          | none => .err 5
          | some ys => if X k = [] then .err 5 else .ok lab ys) := Lib.hid (by rw [hk]; rw [hk] at hlg; exact mid_rest lab hlg hsh)
        have HKL : Hid (k ≤ n) := Lib.hid (by omega)
        have HJ := Lib.hid (fun w h => join_any (some ⟨b, o, none⟩) n c V C X w h (by omega) hn (by omega))
        obtain ⟨D, hD⟩ : ∃ D, txt (prt X n).flatten = D := ⟨_, rfl⟩
        have hDz : D.size ≤ 100000 := by rw [← hD, tsz]; exact hl
        have HDE := Lib.hid (fun w => pdecode_any 1 D w hDz)
        have HCO := Lib.hid (fun w A m cc (h : Sl w A m cc (prt X n).flatten) => hD ▸ conv_sl (P := Tryz.prog) (src := 22) (dst := 9) (e := 5) Tryz.underlying22 Tryz.underlying5 Tryz.underlying9 h)
        rw [hD] at HR
        have hxk := hc k (by omega)
        have HXK := Lib.hid hxk.1
        cases hdec : rdec 1 D with
        | none =>
          rw [hdec] at HDE HR
          clear hlg hS hn hl hk h0 hsh hc hcap hD hDz hxk hdec
          go_enter Tryz.func24, Tryz.ntmps24
          go_wp2_with fail
          refine (HL.out _ HS.out).mono ?_
          rintro e w1 ⟨rfl, m, hw1⟩
          have H1 : Hid (Past w w1) := Lib.hid (by rw [hw1]; exact Past.drewN (Below.refl _ _) m)
          clear hw1
          go_wp2_with fail
          refine (HSh.out _ ((HS.out.less HKL.out).past H1.out)).mono ?_
          rintro e w2 ⟨rfl, m2, hw2⟩
          have H2 : Hid (Past w w2) := Lib.hid (by rw [hw2]; exact H1.out.drewN m2)
          clear hw2
          go_wp2_with fail
          refine (HJ.out _ (HS.out.past H2.out)).mono ?_
          rintro e w3 ⟨A3, m3, c3, rfl, hs3, hp3⟩
          have H3 : Hid (Past w w3) := Lib.hid (H2.out.trans' hp3)
          have hco := HCO.out _ _ _ _ hs3
          clear hs3 hp3
          go_wp2_with fail
          refine (HDE.out _).mono ?_
          rintro e w4 ⟨rfl, hp4⟩
          have H4 := Lib.hid (H3.out.trans' hp4)
          clear hp4
          go_wp2_with fail
          go_ret2
          rw [HR.out]
          exact ⟨rfl, H4.out⟩
        | some ys =>
          rw [hdec] at HDE HR
          by_cases hx : X k = []
          · have hxl : (X k).length = 0 := by rw [hx]; rfl
            rw [hxl] at HXK
            have HR2 : Hid (midP lab (prt X n) = .err 5) := Lib.hid (by rw [HR.out]; exact if_pos hx)
            clear hlg hS hn hl hk h0 hsh hc hcap hD hDz hxk hdec hx hxl HR
            go_enter Tryz.func24, Tryz.ntmps24
            go_wp2_with fail
            refine (HL.out _ HS.out).mono ?_
            rintro e w1 ⟨rfl, m, hw1⟩
            have H1 : Hid (Past w w1) := Lib.hid (by rw [hw1]; exact Past.drewN (Below.refl _ _) m)
            clear hw1
            go_wp2_with fail
            refine (HSh.out _ ((HS.out.less HKL.out).past H1.out)).mono ?_
            rintro e w2 ⟨rfl, m2, hw2⟩
            have H2 : Hid (Past w w2) := Lib.hid (by rw [hw2]; exact H1.out.drewN m2)
            clear hw2
            go_wp2_with fail
            refine (HJ.out _ (HS.out.past H2.out)).mono ?_
            rintro e w3 ⟨A3, m3, c3, rfl, hs3, hp3⟩
            have H3 : Hid (Past w w3) := Lib.hid (H2.out.trans' hp3)
            have hco := HCO.out _ _ _ _ hs3
            clear hs3 hp3
            go_wp2_with fail
            refine (HDE.out _).mono ?_
            rintro e w4 ⟨A4, m4, c4, rfl, hs4, hp4⟩
            have H4 := Lib.hid (H3.out.trans' hp4)
            clear hp4 hs4
            have y0 : w4.cell? ⟨b, o + k, none⟩ = some (.slice (V k) 0 (C k)) := by rw [H4.out.cell (cell_lt HXK.out)]; exact HXK.out
            go_wp2_with fail
            go_ret2
            rw [HR2.out]
            exact ⟨rfl, H4.out⟩
          · have hxl : ¬ (X k).length = 0 := fun e => hx (List.length_eq_zero_iff.1 e)
            have HR2 : Hid (midP lab (prt X n) = .ok lab ys) := Lib.hid (by rw [HR.out]; exact if_neg hx)
            obtain ⟨q, hq⟩ : ∃ q, (X k).length = q := ⟨_, rfl⟩
            rw [hq] at HXK hxl
            have hqb : ((q : Int) == 0) = false := by simp; omega
            clear hlg hS hn hl hk h0 hsh hc hcap hD hDz hxk hdec hx hxl HR hq
            go_enter Tryz.func24, Tryz.ntmps24
            go_wp2_with fail
            refine (HL.out _ HS.out).mono ?_
            rintro e w1 ⟨rfl, m, hw1⟩
            have H1 : Hid (Past w w1) := Lib.hid (by rw [hw1]; exact Past.drewN (Below.refl _ _) m)
            clear hw1
            go_wp2_with fail
            refine (HSh.out _ ((HS.out.less HKL.out).past H1.out)).mono ?_
            rintro e w2 ⟨rfl, m2, hw2⟩
            have H2 : Hid (Past w w2) := Lib.hid (by rw [hw2]; exact H1.out.drewN m2)
            clear hw2
            go_wp2_with fail
            refine (HJ.out _ (HS.out.past H2.out)).mono ?_
            rintro e w3 ⟨A3, m3, c3, rfl, hs3, hp3⟩
            have H3 : Hid (Past w w3) := Lib.hid (H2.out.trans' hp3)
            have hco := HCO.out _ _ _ _ hs3
            clear hs3 hp3
            go_wp2_with fail
            refine (HDE.out _).mono ?_
            rintro e w4 ⟨A4, m4, c4, rfl, hs4, hp4⟩
            have H4 := Lib.hid (And.intro (H3.out.trans' hp4) hs4)
            clear hp4 hs4
            have y0 : w4.cell? ⟨b, o + k, none⟩ = some (.slice (V k) q (C k)) := by rw [H4.out.1.cell (cell_lt HXK.out)]; exact HXK.out
            go_wp2_with fail
            go_ret2
            rw [HR2.out]
            exact ⟨⟨A4, m4, c4, rfl, H4.out.2⟩, H4.out.1⟩
end Go.Proofs.YtnnonidiogoffaaGreatDoor
