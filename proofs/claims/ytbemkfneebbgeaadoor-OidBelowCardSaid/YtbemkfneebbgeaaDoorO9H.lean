/- The program's Content. -/
import Derived.Test.YtbemkfneebbgeaaDoorO9G
import Derived.StillTailTactics
import Derived.Laws.EntriesVeiled
namespace Go.Proofs.YtbemkfneebbgeaaDoor
open Go.RowKit
set_option linter.unusedVariables false

theorem sliceFrom2 (b o n c : Nat) (hn : 2 ≤ n) (hc : n ≤ c) (w : World) :
    (Instr.slice 22 (.slice (some ⟨b, o, none⟩) n c) (some (.int .i64 2)) none none).run Tryd.prog w = .ok (.slice (some ⟨b, if c = 2 then o else o + 2, none⟩) (n - 2) (c - 2)) w := by
  rw [run_slice_l w 22 (some ⟨b, o, none⟩) n c Tryd.underlying22 .i64 2 (by omega) (by omega)]
  have hs : (sizeOf (Tryd.prog.elem 22)).run Tryd.prog w = .ok 1 w := by kernel_rfl
  rw [hs]
  have e2 : (2 : Int).toNat = 2 := rfl
  simp only [Result.andThen, sliced, e2]
  by_cases h : c = 2
  · rw [if_pos h, if_pos h]
  · rw [if_neg h, if_neg h, Option.map_some, Nat.mul_one, add_none]

set_option maxHeartbeats 4000000 in
set_option maxRecDepth 100000 in
theorem pcontent_any (A : Option Addr) (n c : Nat) (l : List Int) (w : World) (h : SlK .u32 w A n c l) (hr : Rng l) (hn : n ≤ 1000) :
    Calls Tryd.prog 10 #[.slice A n c] w (ContP (contL l) w) := by
  have HV := Lib.hid (pvalid_any A n c l w h hr hn)
  have hl := h.len
  have hcm := h.big
  have hcp := h.cap
  unfold maxLen at hcm
  cases hok : okL l with
  | false =>
    rw [hok] at HV
    rw [contL_no hok]
    clear h hl hok hr
    go_enter Tryd.func10, Tryd.ntmps10
    go_wp2_with fail
    refine HV.out.mono ?_
    rintro e w1 ⟨rfl, rfl⟩
    go_wp2_with fail
    go_ret
    exact ⟨none, 0, rfl, Sl.nil w, Below.refl _ _⟩
  | true =>
    rw [hok] at HV
    obtain ⟨q1, q2, q3, _⟩ := okL_true hok
    have hT : contL l = cS l (n - 2) := by unfold contL; rw [hok, hl]; rfl
    have HRG := Lib.hid (contL_rng l)
    rw [hT] at HRG ⊢
    have HZ := Lib.hid (fun k => cS_len hr q3 k)
    have HG := Lib.hid (fun i => getD_rngK (m := 4294967296) (by omega) hr i)
    obtain ⟨b, o, rfl, hc⟩ := h.cells (by omega)
    have hbl := cell_lt (hc 0 (by omega))
    have HC := Lib.hid hc
    have c0 := hc 0 (by omega)
    have c1 := hc 1 (by omega)
    rw [Nat.add_zero] at c0
    have hni : (n : Int) ≤ 20 := by omega
    have h0i : (0 : Int) < (n : Int) := by omega
    have h1i : (1 : Int) < (n : Int) := by omega
    have h2n : 2 ≤ n := by omega
    have h0n : 0 < n := by omega
    have h1n : 1 < n := by omega
    have r0 := HG.out 0
    have r1 := HG.out 1
    have hsl := fun w => sliceFrom2 b o n c (by omega) hcp w
    obtain ⟨x0, hx0⟩ : ∃ x : Nat, l.getD 0 0 = (x : Int) := ⟨(l.getD 0 0).toNat, by omega⟩
    obtain ⟨x1, hx1⟩ : ∃ x : Nat, l.getD 1 0 = (x : Int) := ⟨(l.getD 1 0).toNat, by omega⟩
    have HT0 : Hid (cS l 0 = grp (40 * x0 + x1)) := Lib.hid (by show grp _ = _; rw [hx0, hx1, Int.toNat_natCast, Int.toNat_natCast])
    have q4 := (okL_true hok).2.2.2.2 1 (by omega)
    rw [hx0] at c0 q3 r0
    rw [hx1] at c1 r1 q4
    have hwm : IntKind.u32.wrap ((40 : Int) * (x0 : Int)) = (40 : Int) * (x0 : Int) := by rw [IntKind.wrap_u32]; omega
    have hwa : IntKind.u32.wrap ((40 : Int) * (x0 : Int) + (x1 : Int)) = (40 : Int) * (x0 : Int) + (x1 : Int) := by rw [IntKind.wrap_u32]; omega
    have HCA : Hid ((40 : Int) * (x0 : Int) + (x1 : Int) = ((40 * x0 + x1 : Nat) : Int)) := Lib.hid (by omega)
    have HO2 : Hid (2 < n → (if c = 2 then o else o + 2) = o + 2) := Lib.hid (fun h => if_neg (by omega))
    generalize (if c = 2 then o else o + 2) = o2 at *
    have hx0b : (x0 : Int) ≤ 2 := by omega
    have hR2 : Row ((w.alloc (.cells #[.slice none 0 0] 25)).alloc (.cells #[(Value.func (.func 24) #[] #[.pointer (some ⟨w.heap.size + 1, 0, none⟩), .pointer (some ⟨w.heap.size, 0, none⟩)])] 40)) (w.heap.size + 1) 40 #[(Value.func (.func 24) #[] #[.pointer (some ⟨w.heap.size + 1, 0, none⟩), .pointer (some ⟨w.heap.size, 0, none⟩)])] := by
      have h := Row.new (w.alloc (.cells #[.slice none 0 0] 25)) 40 #[(Value.func (.func 24) #[] #[.pointer (some ⟨w.heap.size + 1, 0, none⟩), .pointer (some ⟨w.heap.size, 0, none⟩)])]
      simpa using h
    have hR1 : Row ((w.alloc (.cells #[.slice none 0 0] 25)).alloc (.cells #[(Value.func (.func 24) #[] #[.pointer (some ⟨w.heap.size + 1, 0, none⟩), .pointer (some ⟨w.heap.size, 0, none⟩)])] 40)) w.heap.size 25 #[.slice none 0 0] := (Row.new w 25 #[.slice none 0 0]).alloc _
    have HW0 : Hid (Wr w ((w.alloc (.cells #[.slice none 0 0] 25)).alloc (.cells #[(Value.func (.func 24) #[] #[.pointer (some ⟨w.heap.size + 1, 0, none⟩), .pointer (some ⟨w.heap.size, 0, none⟩)])] 40)) (Value.func (.func 24) #[] #[.pointer (some ⟨w.heap.size + 1, 0, none⟩), .pointer (some ⟨w.heap.size, 0, none⟩)]) (w.heap.size + 1) w.heap.size 40 []) := Lib.hid
      ⟨(past_alloc9 w _).trans' (past_alloc9 _ _), by omega, Nat.le_refl _, by omega, hR2, none, 0, 0, hR1, World.ownsRow_nil _ _ _ _, rfl⟩
    clear hR1 hR2
    have hmf : ∀ (fn : Fn) (first cap : Array Value) (w : World), (Instr.makeFunc fn first cap).run Tryd.prog w = .ok (.func fn first cap) w := fun _ _ _ _ => rfl
    clear h hl hok hr q1 q2 hc hx0 hx1 hT
    go_enter Tryd.func10, Tryd.ntmps10
    go_wp2_with fail
    refine HV.out.mono ?_
    rintro e w1 ⟨rfl, rfl⟩
    go_wp2_with fail
    generalize hw3 : (((w.alloc (.cells #[.slice none 0 0] 25)).alloc (.cells #[(Value.func (.func 24) #[] #[.pointer (some ⟨w.heap.size + 1, 0, none⟩), .pointer (some ⟨w.heap.size, 0, none⟩)])] 40)) : World) = w3 at *
    clear hw3
    have f0 : w3.drew.cell? ⟨w.heap.size + 1, 0, none⟩ = some (Value.func (.func 24) #[] #[.pointer (some ⟨w.heap.size + 1, 0, none⟩), .pointer (some ⟨w.heap.size, 0, none⟩)]) := HW0.out.rd.cell 0
    have d0 : w3.drew.cell? ⟨b, o, none⟩ = some (.int .u32 (x0 : Int)) := (HW0.out.past.cell hbl).trans c0
    have d1 : w3.drew.cell? ⟨b, o + 1, none⟩ = some (.int .u32 (x1 : Int)) := (HW0.out.past.cell hbl).trans c1
    have HA := Lib.hid (add_any w (w.heap.size + 1) w.heap.size (40 * x0 + x1) 0 [] w3.drew (by omega) (.inl rfl) (by simp) ⟨HW0.out.past.drewN 1, HW0.out.d0, HW0.out.b0, HW0.out.ne, HW0.out.rd, by
      obtain ⟨A, n, c, h1, h2, h3⟩ := HW0.out.rb
      exact ⟨A, n, c, h1, h2, h3⟩⟩)
    rw [List.nil_append, clo_grp, ← HT0.out] at HA
    clear HV c0 c1
    go_still_tail 9, (by kernel_rfl)
    change wpList _ _ _ _ _ w3.drew
    go_wp2_with fail
    rw [HCA.out]
    refine HA.out.mono ?_
    rintro e w4 ⟨rfl, hw4⟩
    have HW4 := Lib.hid hw4
    clear hw4 HA d0 d1 f0 hwm hwa HW0 HCA q3 q4 r0 r1 hx0b HT0
    go_wp2_with fail
    go_loopg [6, 24] (n - 2) (fun k s6 s24 wx => ∃ i : Nat, i + 2 ≤ n ∧ k = n - 2 - i ∧ s24 = .int .i64 (i : Int) ∧ Hid (Wr w wx (.func (.func 24) #[] #[.pointer (some ⟨w.heap.size + 1, 0, none⟩), .pointer (some ⟨w.heap.size, 0, none⟩)]) (w.heap.size + 1) w.heap.size 40 (cS l i)))
    case atStart => exact ⟨0, h2n, rfl, rfl, HW4⟩
    case round =>
      clear HW4
      obtain ⟨i, hi, hgk, rfl, HI⟩ := hrel
      have HGK := Lib.hid hgk
      clear hgk
      have hi0 : (0 : Int) ≤ (i : Int) := by omega
      by_cases hlt : i + 2 < n
      · have hin : (i : Int) < ((n - 2 : Nat) : Int) := by omega
        have hx := HC.out (i + 2) hlt
        have hx2 : wr.cell? ⟨b, o2 + i, none⟩ = some (.int .u32 (l.getD (i + 2) 0)) := by
          have h := (HI.out.past.cell (cell_lt hx)).trans hx
          rw [HO2.out (by omega), show o + 2 + i = o + (i + 2) by omega]
          exact h
        have hxr := HG.out (i + 2)
        have hz1 := HZ.out i
        obtain ⟨x, hxe⟩ : ∃ x : Nat, l.getD (i + 2) 0 = (x : Int) := ⟨(l.getD (i + 2) 0).toNat, by omega⟩
        have HS : Hid (cS l (i + 1) = cS l i ++ grp x) := Lib.hid (by
          show cS l i ++ grp (l.getD (i + 2) 0).toNat = _
          rw [hxe, Int.toNat_natCast])
        rw [hxe] at hx2 hxr
        have HA := Lib.hid (add_any w (w.heap.size + 1) w.heap.size x 0 (cS l i) wr (by omega) (.inl rfl) (by omega) HI.out)
        rw [clo_grp, ← HS.out] at HA
        have f0 : wr.cell? ⟨w.heap.size + 1, 0, none⟩ = some (.func (.func 24) #[] #[.pointer (some ⟨w.heap.size + 1, 0, none⟩), .pointer (some ⟨w.heap.size, 0, none⟩)]) := HI.out.rd.cell 0
        clear hx hxe hz1
        go_wp2_with fail
        refine HA.out.mono ?_
        rintro e w5 ⟨rfl, hw5⟩
        have HI2 := Lib.hid hw5
        clear hw5 HA hx2 f0
        go_wp2_with fail
        go_roundg (n - 2 - (i + 1))
        case rel => exact ⟨i + 1, by omega, rfl, by go_num, HI2⟩
        case measure => have := HGK.out; omega
      · have hin : ¬ (i : Int) < ((n - 2 : Nat) : Int) := by omega
        have HE : Hid (n - 2 = i) := Lib.hid (by omega)
        obtain ⟨B, k, d, hrb, hown, hlk⟩ := HI.out.rb
        have f1 : wr.cell? ⟨w.heap.size, 0, none⟩ = some (.slice B k d) := hrb.cell 0
        have HO := Lib.hid (And.intro hown hlk)
        clear hrb hown hlk
        go_wp2_with fail
        go_ret
        rw [HE.out]
        obtain ⟨hown, hlk⟩ := HO.out
        refine ⟨B, d, by rw [hlk]; rfl, ?_, HI.out.past⟩
        rw [hlk]
        exact Sl.of_own hown (cS_rng l i)

end Go.Proofs.YtbemkfneebbgeaaDoor
