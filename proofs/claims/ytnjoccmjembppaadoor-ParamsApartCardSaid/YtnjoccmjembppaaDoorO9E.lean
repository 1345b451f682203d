/- The program's Text. -/
import Derived.Test.YtnjoccmjembppaaDoorO9B
import Derived.Test.YtnjoccmjembppaaDoorO9D
namespace Go.Proofs.YtnjoccmjembppaaDoor
open Go.RowKit
set_option linter.unusedVariables false

theorem infoStr : (Tryd.prog.info? 9).map (fun i => (i.zero, i.size)) = some (some (.string ⟨#[]⟩), 1) := by kernel_rfl
theorem bytesStr : (Tryd.prog.info? 9).map (fun i => i.bytes) = some 16 := by kernel_rfl
theorem makeS (N : Nat) (hN : N ≤ 1000000) (w : World) : (Instr.makeSlice 66 (.int .i64 (N : Int)) (.int .i64 (N : Int))).run Tryd.prog w = .ok (.slice (some ⟨w.heap.size, 0, none⟩) N N) (w.alloc (.cells (madeCells #[.string ⟨#[]⟩] N) 9)) := by
  obtain ⟨i0, hi, hz⟩ := Option.map_eq_some_iff.1 infoStr
  simp only [Prod.mk.injEq] at hz
  obtain ⟨hz0, hz1⟩ := hz
  have hb : i0.bytes = 16 := by
    have h := bytesStr
    rw [hi] at h
    simpa using h
  have h := run_make (P := Tryd.prog) w 66 9 i0 (.string ⟨#[]⟩) Tryd.underlying66 hi hz0 .i64 .i64 (N : Int) (N : Int) (by omega) (Int.le_refl _) (by rw [hb]; omega) (by omega)
  rw [hz1, Nat.mul_one, Int.toNat_natCast] at h
  exact h

/-- The digits of a number, as a string. -/
def digT (x : Int) : ByteArray := ⟨(Lib.decDigits x.toNat).toArray⟩
/-- What the loop keeps: the row of strings, of which the first i are written. -/
def TG (l : List Int) (g N i : Nat) (w wx : World) : Prop :=
  Past w wx ∧ ∃ cs : Array Value, Row wx g 9 cs ∧ cs.size = N ∧ ∀ j, j < i → cs[j]? = some (.string (digT (l.getD j 0)))
theorem TG.next {l : List Int} {g N i : Nat} {w wx w2 : World} (h : TG l g N i w wx) (hp : Past wx w2) (hg : w.heap.size ≤ g) (hi : i < N) :
    (∃ v, w2.cell? ⟨g, i, none⟩ = some v) ∧ w2.frozen? ⟨g, i, none⟩ = false ∧ TG l g N (i + 1) w (w2.setCell ⟨g, i, none⟩ (.string (digT (l.getD i 0)))) := by
  obtain ⟨h1, cs, h2, h3, h4⟩ := h
  have h5 := h2.past hp
  refine ⟨⟨cs[i], by rw [h5.cell]; exact Array.getElem?_eq_getElem (by omega)⟩, h5.fr i, (h1.trans' hp).setCell hg _, _, h5.set i _, by simpa using h3, fun j hj => ?_⟩
  rw [Array.getElem?_setIfInBounds]
  by_cases e : i = j
  · subst e
    rw [if_pos rfl, if_pos (by omega)]
  · rw [if_neg e]
    exact h4 j (by omega)

set_option maxHeartbeats 2000000 in
set_option maxRecDepth 100000 in
theorem ptext_any (A : Option Addr) (n c : Nat) (l : List Int) (w : World) (hG : Glob w) (h : SlK .u32 w A n c l) (hr : Rng l) (hn : n ≤ 1000) :
    Calls Tryd.prog 29 #[.slice A n c] w fun e w' => e = .returned (.string (textS l)) ∧ Past w w' := by
  have HV := Lib.hid (pvalid_any A n c l w h hr hn)
  cases hok : okL l with
  | false =>
    rw [textS_no hok]
    rw [hok] at HV
    clear h hr hG hok
    go_enter Tryd.func29, Tryd.ntmps29
    go_wp2_with fail
    refine HV.out.mono ?_
    rintro e w' ⟨rfl, rfl⟩
    go_wp2_with fail
    go_ret
    exact ⟨rfl, Below.refl _ _⟩
  | true =>
    have hl := h.len
    have h2 := (okL_true hok).1
    obtain ⟨b, o, rfl, hc⟩ := h.cells (by omega)
    have HC := Lib.hid hc
    have HR := Lib.hid hr
    have HG := Lib.hid hG
    have hm := makeS n (by omega)
    have HT0 : Hid (TG l w.heap.size n 0 w (w.alloc (.cells (madeCells #[.string ⟨#[]⟩] n) 9))) :=
      Lib.hid ⟨(Below.refl _ _).alloc (Nat.le_refl _) _, _, Row.new _ _ _, size_madeCells _ _, fun _ hj => absurd hj (Nat.not_lt_zero _)⟩
    have HJ := Lib.hid (fun (wx : World) (cap : Nat) (hcap : n ≤ cap) (g : Nat) (hgl : g < wx.heap.size) (hcs : ∀ (j : Nat) x, (l.map digT)[j]? = some x → wx.cell? ⟨g, 0 + j, none⟩ = some (.string x)) =>
      Tryd.strings_Join g 0 cap (l.map digT) ⟨#[46]⟩ wx hcs hgl (by rw [List.length_map]; omega) (by rw [List.length_map]; omega))
    have hj1 : (l.map digT).map (fun x => x.data.toList) = l.map fun x => Lib.decDigits x.toNat := by
      rw [List.map_map]
      rfl
    rw [List.length_map, hl, hj1] at HJ
    have hT := text_join hok
    have hTl : (Lib.join (l.map fun x => Lib.decDigits x.toNat) [46]).length ≤ 140737488355328 := by
      have h3 := congrArg ByteArray.size hT
      have h4 := tS_size hr (l.length - 1)
      have h5 : textS l = tS l (l.length - 1) := by unfold textS; rw [hok]; rfl
      have h6 := (okL_true hok).2.1
      have h7 : (⟨(Lib.join (l.map fun x => Lib.decDigits x.toNat) [46]).toArray⟩ : ByteArray).size = (Lib.join (l.map fun x => Lib.decDigits x.toNat) [46]).length := by
        show (Lib.join (l.map fun x => Lib.decDigits x.toNat) [46]).toArray.size = _
        simp
      rw [h5] at h3
      omega
    have HJ2 : Hid (∀ (wx : World) (g : Nat), g < wx.heap.size → (∀ (j : Nat) x, (l.map digT)[j]? = some x → wx.cell? ⟨g, 0 + j, none⟩ = some (.string x)) →
        Calls Tryd.prog 41 #[.slice (some ⟨g, 0, none⟩) n n, .string ⟨#[46]⟩] wx fun e w' => e = .returned (.string (textS l)) ∧ Past wx w') := Lib.hid fun wx g hg hcs => by
      have := HJ.out wx n (Nat.le_refl _) g hg hcs hTl
      rw [← hT]
      exact this
    rw [hok] at HV
    have HL := Lib.hid hl
    have hn0 : (0 : Int) ≤ (n : Int) := by omega
    clear h hr hG hok hl h2 hc HJ hj1 hT hTl
    go_enter Tryd.func29, Tryd.ntmps29
    go_wp2_with fail
    refine HV.out.mono ?_
    rintro e w' ⟨rfl, rfl⟩
    go_wp2_with fail
    go_loopg [4, 5, 14] n (fun k s4 s5 s14 wx => ∃ i : Nat, i ≤ n ∧ k = n - i ∧ s14 = .int .i64 (i : Int) ∧ Hid (TG l w.heap.size n i w wx))
    case atStart => exact ⟨0, Nat.zero_le _, rfl, rfl, HT0⟩
    case round =>
      obtain ⟨i, hi, hgk, rfl, HI⟩ := hrel
      have HGK := Lib.hid hgk
      clear hgk
      by_cases hlt : i < n
      · have hx := (HI.out.1.cell (cell_lt (HC.out i hlt))).trans (HC.out i hlt)
        have hxr := getD_rngK (by omega) HR.out i
        obtain ⟨y, hy⟩ : ∃ y, l.getD i 0 = y := ⟨_, rfl⟩
        rw [hy] at hx hxr
        have HY := Lib.hid hy
        obtain ⟨hy0, hy1⟩ := hxr
        obtain ⟨u, rfl⟩ : ∃ u : Nat, y = (u : Int) := ⟨y.toNat, by omega⟩
        clear hy
        have hi0 : (0 : Int) ≤ (i : Int) := by omega
        have hin : (i : Int) < (n : Int) := by omega
        go_wp2_with fail
        refine (fmt_any u (by omega) _ (HG.out.past HI.out.1)).mono ?_
        rintro e w2 ⟨rfl, hp⟩
        obtain ⟨⟨v0, hv0⟩, hf0, hI2⟩ := HI.out.next hp (Nat.le_refl _) hlt
        rw [HY.out] at hI2
        have HI2 : Hid (TG l w.heap.size n (i + 1) w (w2.setCell ⟨w.heap.size, i, none⟩ (.string ⟨(Lib.decDigits u).toArray⟩))) := Lib.hid hI2
        clear hp hI2
        go_wp2_with fail
        go_roundg (n - (i + 1))
        case rel => exact ⟨i + 1, by omega, rfl, by go_num, HI2⟩
        case measure => have := HGK.out; omega
      · obtain rfl : i = n := by omega
        obtain ⟨hp, cs, hrow, hsz, hcs⟩ := HI.out
        have hJ := HJ2.out _ w.heap.size hrow.lt (fun j x hx => by
          rw [List.getElem?_map] at hx
          cases hlj : l[j]? with
          | none => rw [hlj] at hx; cases hx
          | some y =>
            rw [hlj] at hx
            obtain rfl : digT y = x := by simpa using hx
            have hj : j < i := by
              have := (List.getElem?_eq_some_iff.1 hlj).1
              rw [HL.out] at this
              exact this
            rw [Nat.zero_add, hrow.cell j, hcs j hj, List.getD_eq_getElem?_getD, hlj]
            rfl)
        have HJ3 := Lib.hid hJ
        have HP := Lib.hid hp
        clear hJ hp hrow hsz hcs
        go_wp2_with fail
        refine HJ3.out.mono ?_
        rintro e w2 ⟨rfl, hp2⟩
        have HP2 := Lib.hid (HP.out.trans' hp2)
        clear hp2
        go_wp2_with fail
        go_ret
        exact ⟨rfl, HP2.out⟩

end Go.Proofs.YtnjoccmjembppaaDoor
