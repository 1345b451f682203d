/- The program's Below; all contracts of package oid together. -/
import Derived.Test.YtbemkfneebbgeaaDoorO9K
namespace Go.Proofs.YtbemkfneebbgeaaDoor
open Go.RowKit
set_option linter.unusedVariables false

theorem SlK.front {w : World} {b o n c : Nat} {xs : List Int} (h : SlK .u32 w (some ⟨b, o, none⟩) n c xs) {m : Nat} (hm : m ≤ n) : SlK .u32 w (some ⟨b, o, none⟩) m c (xs.take m) := by
  have hl := h.len
  have hcp := h.cap
  refine ⟨by simp; omega, by omega, h.big, fun hn2 => ?_, fun e => by cases e⟩
  obtain ⟨b', o', e, hc⟩ := h.cells (by omega)
  refine ⟨b', o', e, fun j hj => ?_⟩
  rw [hc j (by omega)]
  congr 2
  simp [List.getD, hj]
theorem sliceTo9 (b o n c m : Nat) (hm : m ≤ n) (hc : n ≤ c) (w : World) :
    (Instr.slice 22 (.slice (some ⟨b, o, none⟩) n c) none (some (.int .i64 (m : Int))) none).run Tryd.prog w = .ok (.slice (some ⟨b, o, none⟩) m c) w := by
  rw [run_slice_h w 22 (some ⟨b, o, none⟩) n c Tryd.underlying22 .i64 (m : Int) (by omega) (by omega)]
  have hs : (sizeOf (Tryd.prog.elem 22)).run Tryd.prog w = .ok 1 w := by kernel_rfl
  rw [hs]
  simp only [Result.andThen, sliced, Int.toNat_natCast, Nat.sub_zero]
  by_cases h : c = 0
  · rw [if_pos h]
  · rw [if_neg h, Option.map_some, Nat.zero_mul, add_none, Nat.add_zero]

set_option maxHeartbeats 4000000 in
theorem pbelow_any (A : Option Addr) (n c : Nat) (a : List Int) (B : Option Addr) (m d : Nat) (b : List Int) (w : World) (h : SlK .u32 w A n c a) (h2 : SlK .u32 w B m d b) (hr : Rng a) (hr2 : Rng b) (hn : n ≤ 1000) (hm : m ≤ 1000) :
    Calls Tryd.prog 21 #[.slice A n c, .slice B m d] w fun e w' => e = .returned (.bool (belowB a b)) ∧ Past w w' := by
  have HV1 := Lib.hid (pvalid_any A n c a w h hr hn)
  have HV2 := Lib.hid (pvalid_any B m d b w h2 hr2 hm)
  have hl := h.len
  have hl2 := h2.len
  cases hka : okL a with
  | false =>
    rw [hka] at HV1
    rw [below_no_a hka]
    clear h h2 hr hr2 hka hl hl2 HV2
    go_enter Tryd.func21, Tryd.ntmps21
    go_wp2_with fail
    refine HV1.out.mono ?_
    rintro e w1 ⟨rfl, rfl⟩
    go_wp2_with fail
    go_ret
    exact ⟨rfl, Below.refl _ _⟩
  | true =>
    rw [hka] at HV1
    cases hkb : okL b with
    | false =>
      rw [hkb] at HV2
      rw [below_no_b hkb]
      clear h h2 hr hr2 hka hkb hl hl2
      go_enter Tryd.func21, Tryd.ntmps21
      go_wp2_with fail
      refine HV1.out.mono ?_
      rintro e w1 ⟨rfl, rfl⟩
      go_wp2_with fail
      refine HV2.out.mono ?_
      rintro e w1 ⟨rfl, rfl⟩
      go_wp2_with fail
      go_ret
      exact ⟨rfl, Below.refl _ _⟩
    | true =>
      rw [hkb] at HV2
      by_cases hlt : m < n
      · obtain ⟨x, o, rfl, _⟩ := h.cells (by omega)
        have hsl := fun w => sliceTo9 x o n c m (Nat.le_of_lt hlt) h.cap w
        have HE := Lib.hid (fun w1 (hp : w = w1) => equal_any (some ⟨x, o, none⟩) B m m c d (a.take m) b w1 (by rw [← hp]; exact h.front (Nat.le_of_lt hlt)) (by rw [← hp]; exact h2))
        have HR : Hid (belowB a b = sameB (a.take m) b) := Lib.hid (by
          unfold belowB sameB
          rw [hka, hkb, hl, hl2]
          simp [hlt])
        have hi : (m : Int) < (n : Int) := by omega
        rw [HR.out]
        clear h h2 hr hr2 hka hkb hl hl2
        generalize sameB (a.take m) b = q at *
        go_enter Tryd.func21, Tryd.ntmps21
        go_wp2_with fail
        refine HV1.out.mono ?_
        rintro e w1 ⟨rfl, rfl⟩
        go_wp2_with fail
        refine HV2.out.mono ?_
        rintro e w1 ⟨rfl, rfl⟩
        go_wp2_with fail
        refine (HE.out _ rfl).mono ?_
        rintro e w1 ⟨rfl, k, hw1⟩
        have HP : Hid (Past w w1) := Lib.hid (by rw [hw1]; exact Past.drewN (Below.refl _ _) k)
        clear hw1
        go_wp2_with fail
        go_ret
        exact ⟨rfl, HP.out⟩
      · have HR : Hid (belowB a b = false) := Lib.hid (by
          unfold belowB
          rw [hl, hl2]
          exact decide_eq_false fun h => hlt h.2.2.1)
        have hi : ¬ (m : Int) < (n : Int) := by omega
        rw [HR.out]
        clear h h2 hr hr2 hka hkb hl hl2
        go_enter Tryd.func21, Tryd.ntmps21
        go_wp2_with fail
        refine HV1.out.mono ?_
        rintro e w1 ⟨rfl, rfl⟩
        go_wp2_with fail
        refine HV2.out.mono ?_
        rintro e w1 ⟨rfl, rfl⟩
        go_wp2_with fail
        go_ret
        exact ⟨rfl, Below.refl _ _⟩

theorem prog9 : Prog9 where
  valid := fun A n c l w h hr hn => (pvalid_any A n c l w h hr hn).mono fun e w' ⟨h1, h2⟩ => ⟨h1, by rw [← h2]; exact Below.refl _ _⟩
  text := fun A n c l w hG h hr hn => ptext_any A n c l w hG h hr hn
  content := fun A n c l w h hr hn => pcontent_any A n c l w h hr hn
  parse := fun s w hG hs => pparse_any s w hG hs
  read := fun A n c xs w h hn => pread_any A n c xs w h hn
  below := fun A n c a B m d b w h h2 hr hr2 hn hm => pbelow_any A n c a B m d b w h h2 hr hr2 hn hm

end Go.Proofs.YtbemkfneebbgeaaDoor
