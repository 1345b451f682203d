/- The program's reader. -/
import Derived.Test.YtclnoblcdaimiaaDoorPg11A
import Derived.Deep.Cut
namespace Go.Proofs.YtclnoblcdaimiaaDoor
open Go.RowKit
set_option linter.unusedVariables false

/-- What the table of the least numbers of bytes holds. -/
def RestT (w : World) : Prop := ∀ a : Nat, a ≤ 9 → w.cell? ⟨0, a, none⟩ = some (.int .i64 (restN a : Int))
theorem RestT.past {w w' : World} (h : RestT w) (hp : Past w w') : RestT w' := fun a ha => by
  rw [hp.cell (cell_lt (h a ha))]
  exact h a ha
theorem drop_cons11 {xs : List Int} {i : Nat} (h : i < xs.length) : xs.drop i = xs.getD i 0 :: xs.drop (i + 1) := by
  rw [List.drop_eq_getElem_cons h, List.getD_eq_getElem?_getD, List.getElem?_eq_getElem h]
  rfl
set_option maxHeartbeats 2000000 in
theorem pread_any (A : Option Addr) (n c : Nat) (xs : List Int) (w : World) (hS : Sl w A n c xs) (hR : RestT w) (hn : n ≤ 1048576) : Calls Tryd.prog 24 #[.slice A n c] w fun e w' => e = .returned (.tuple #[.int .i64 ((readS xs 0 0).1 : Int), .int .i64 ((readS xs 0 0).2 : Int)]) ∧ Past w w' := by
  have HL := Lib.hid hS.len
  have HS := Lib.hid hS
  have HR := Lib.hid hR
  have HST := Lib.hid step_any
  have hbig : (n : Int) ≤ 1048576 := by omega
  clear hS hR
  go_enter Tryd.func24, Tryd.ntmps24
  go_wp2_with fail
  go_loopg [4, 5, 6, 7, 8, 11] n (fun q s4 s5 s6 s7 s8 s11 wx => ∃ i s : Nat, i ≤ n ∧ q = n - i ∧ s4 = .int .i64 (s : Int) ∧ s11 = .int .i64 (i : Int) ∧ Hid (Past w wx ∧ s ≤ 9 ∧ readS xs 0 0 = readS (xs.drop i) i s))
  case atStart => exact ⟨0, 0, Nat.zero_le _, rfl, rfl, rfl, Lib.hid ⟨Below.refl _ _, Nat.zero_le _, rfl⟩⟩
  case round =>
    obtain ⟨i, s, hi, hgk, rfl, rfl, HQ⟩ := hrel
    have HGK := Lib.hid hgk
    clear hgk
    by_cases hlt : i < n
    · have hli : (i : Int) < (n : Int) := by omega
      obtain ⟨b, o, rfl, hc⟩ := HS.out.bytes (by omega)
      have f0 := hc i hlt
      have HE := Lib.hid (drop_cons11 (show i < xs.length by rw [HL.out]; exact hlt))
      obtain ⟨x, hx⟩ : ∃ x, xs.getD i 0 = x := ⟨_, rfl⟩
      rw [hx] at f0 HE
      rw [← Below.cell HQ.out.1 (cell_lt f0)] at f0
      have HLT := Lib.hid hlt
      have hi0 : (0 : Int) ≤ (i : Int) := by omega
      clear hc hlt hx
      go_wp2_with fail
      refine (HST.out s HQ.out.2.1 x _).mono ?_
      rintro e w' ⟨a, rfl, ha, hst, rfl⟩
      cases hs : stp s x with
      | none =>
        have HF : Hid (readS xs 0 0 = (i, s)) := Lib.hid (by rw [HQ.out.2.2, HE.out, readS_none hs])
        have HP := Lib.hid HQ.out.1
        rw [show (none : Option Nat).isSome = false from rfl]
        clear hst hs HQ ha
        go_wp2_with fail
        go_ret2
        rw [HF.out]
        exact ⟨rfl, HP.out⟩
      | some t =>
        obtain rfl := hst t hs
        have r0 := (HR.out.past HQ.out.1) a ha
        have hr7 := restN_le a
        rw [show (some a).isSome = true from rfl]
        obtain ⟨r, hr⟩ : ∃ r, restN a = r := ⟨_, rfl⟩
        rw [hr] at r0 hr7
        have ha0 : (0 : Int) ≤ (a : Int) := by omega
        have ha9 : (a : Int) < 10 := by omega
        by_cases hl : 1048576 < i + 1 + r
        · have hli2 : (1048576 : Int) < (i : Int) + 1 + (r : Int) := by omega
          have HF : Hid (readS xs 0 0 = (i, s)) := Lib.hid (by rw [HQ.out.2.2, HE.out, readS_long hs _ _ (by rw [hr]; exact hl)])
          have HP := Lib.hid HQ.out.1
          clear hst hs HQ hl
          go_wp2_with fail
          go_ret2
          rw [HF.out]
          exact ⟨rfl, HP.out⟩
        · have hli2 : ¬ (1048576 : Int) < (i : Int) + 1 + (r : Int) := by omega
          have HF : Hid (readS xs 0 0 = readS (xs.drop (i + 1)) (i + 1) a) := Lib.hid (by rw [HQ.out.2.2, HE.out, readS_some hs _ _ (by rw [hr]; omega)])
          have HP := Lib.hid HQ.out.1
          have HA := Lib.hid ha
          clear hst hs HQ hl
          go_wp2_with fail
          go_roundg (n - (i + 1))
          case rel => exact ⟨i + 1, a, by have := HLT.out; omega, rfl, rfl, by go_num, Lib.hid ⟨HP.out, HA.out, HF.out⟩⟩
          case measure => have := HGK.out; have := HLT.out; omega
    · obtain rfl : i = n := by omega
      have hli : ¬ (i : Int) < (i : Int) := by omega
      have HF : Hid (readS xs 0 0 = (i, s)) := Lib.hid (by rw [HQ.out.2.2, List.drop_of_length_le (by rw [HL.out]; exact Nat.le_refl _)]; rfl)
      clear hlt hi
      go_wp2_with fail
      go_ret2
      rw [HF.out]
      exact ⟨rfl, HQ.out.1⟩

end Go.Proofs.YtclnoblcdaimiaaDoor
