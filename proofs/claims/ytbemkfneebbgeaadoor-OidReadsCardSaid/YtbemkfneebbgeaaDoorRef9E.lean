/- The reference's content of a list of arcs. -/
import Derived.Test.YtbemkfneebbgeaaDoorRef9D
import Derived.StillTailTactics
namespace Go.Proofs.YtbemkfneebbgeaaDoor
open Go.RowKit

/-- The groups of the first two arcs and the next k. -/
def cS (l : List Int) : Nat → List Int
  | 0 => grp (40 * (l.getD 0 0).toNat + (l.getD 1 0).toNat)
  | k + 1 => cS l k ++ grp (l.getD (k + 2) 0).toNat
def contL (l : List Int) : List Int := if okL l then cS l (l.length - 2) else []
theorem cS_rng (l : List Int) : ∀ k, ∀ x ∈ cS l k, 0 ≤ x ∧ x < 256
  | 0 => grp_rng _
  | k + 1 => fun x hx => by
    rcases List.mem_append.1 hx with hx | hx
    · exact cS_rng l k x hx
    · exact grp_rng _ x hx
theorem contL_rng (l : List Int) : ∀ x ∈ contL l, 0 ≤ x ∧ x < 256 := by
  unfold contL
  split
  · exact cS_rng l _
  · simp
theorem cS_len {l : List Int} (hr : ∀ x ∈ l, 0 ≤ x ∧ x < 4294967296) (h0 : l.getD 0 0 ≤ 2) : ∀ k, (cS l k).length ≤ 5 * (k + 1)
  | 0 => by
    have q0 := getD_rngK (m := 4294967296) (by omega) hr 0
    have q1 := getD_rngK (m := 4294967296) (by omega) hr 1
    have := (grp_len (40 * (l.getD 0 0).toNat + (l.getD 1 0).toNat) (by omega)).1
    show (grp _).length ≤ _
    omega
  | k + 1 => by
    have q := getD_rngK (m := 4294967296) (by omega) hr (k + 2)
    have h1 := cS_len hr h0 k
    have h2 := (grp_len (l.getD (k + 2) 0).toNat (by omega)).1
    show (cS l k ++ grp _).length ≤ _
    rw [List.length_append]
    omega

set_option maxHeartbeats 2000000 in
set_option maxRecDepth 100000 in
theorem rcontent_any (A : Option Addr) (n c : Nat) (l : List Int) (w : World) (h : SlK .u32 w A n c l) (hr : ∀ x ∈ l, 0 ≤ x ∧ x < 4294967296) :
    Calls Tryd.prog 15 #[.slice A n c] w fun e w' => ∃ B d, e = .returned (.slice B (contL l).length d) ∧ Sl w' B (contL l).length d (contL l) ∧ Past w w' := by
  have HV := Lib.hid (rvalid_any A n c l w h hr)
  have hl := h.len
  have hcm := h.big
  have hcp := h.cap
  unfold maxLen at hcm
  cases hok : okL l with
  | false =>
    rw [hok] at HV
    have hT : contL l = [] := by unfold contL; rw [hok]; rfl
    rw [hT]
    clear h hl hok hr hT
    go_enter Tryd.func15, Tryd.ntmps15
    go_wp2_with fail
    refine HV.out.mono ?_
    rintro e w1 ⟨rfl, rfl⟩
    go_wp2_with fail
    go_ret
    exact ⟨none, 0, rfl, Sl.nil w, Below.refl _ _⟩
  | true =>
    rw [hok] at HV
    obtain ⟨q1, q2, q3, _⟩ := okL_true hok
    have hT : contL l = cS l (n - 2) := by unfold contL; rw [hok, hl]; rfl
    have HRG := Lib.hid (contL_rng l)
    rw [hT] at HRG ⊢
    have HZ := Lib.hid (fun k => cS_len hr q3 k)
    have HG := Lib.hid (fun i => getD_rngK (m := 4294967296) (by omega) hr i)
    obtain ⟨b, o, rfl, hc⟩ := h.cells (by omega)
    have HC := Lib.hid hc
    have c0 := hc 0 (by omega)
    have c1 := hc 1 (by omega)
    rw [Nat.add_zero] at c0
    have hni : (n : Int) ≤ 20 := by omega
    have h0i : (0 : Int) < (n : Int) := by omega
    have h1i : (1 : Int) < (n : Int) := by omega
    have h2n : 2 ≤ n := by omega
    have h0n : 0 < n := by omega
    have h1n : 1 < n := by omega
    have hwm : IntKind.i64.wrap ((40 : Int) * (l.getD 0 0)) = (40 : Int) * (l.getD 0 0) := by have := HG.out 0; rw [IntKind.wrap_i64]; omega
    have hwa : IntKind.i64.wrap ((40 : Int) * (l.getD 0 0) + l.getD 1 0) = (40 : Int) * (l.getD 0 0) + l.getD 1 0 := by have h1 := HG.out 0; have h2 := HG.out 1; rw [IntKind.wrap_i64]; omega
    have hw0 : IntKind.i64.wrap (l.getD 0 0) = l.getD 0 0 := by have := HG.out 0; rw [IntKind.wrap_i64]; omega
    have hw1 : IntKind.i64.wrap (l.getD 1 0) = l.getD 1 0 := by have := HG.out 1; rw [IntKind.wrap_i64]; omega
    have hnn : n ≤ 20 := by omega
    have r0 := HG.out 0
    have r1 := HG.out 1
    obtain ⟨x0, hx0⟩ : ∃ x : Nat, l.getD 0 0 = (x : Int) := ⟨(l.getD 0 0).toNat, by omega⟩
    obtain ⟨x1, hx1⟩ : ∃ x : Nat, l.getD 1 0 = (x : Int) := ⟨(l.getD 1 0).toNat, by omega⟩
    have HT0 : Hid (cS l 0 = grp (40 * x0 + x1)) := Lib.hid (by show grp _ = _; rw [hx0, hx1, Int.toNat_natCast, Int.toNat_natCast])
    rw [hx0] at c0 q3 r0 hwm hwa hw0
    rw [hx1] at c1 r1 hwa hw1
    have HGr := Lib.hid (fun w => rgroup_any (40 * x0 + x1) (by omega) w)
    have HCA : Hid ((40 : Int) * (x0 : Int) + (x1 : Int) = ((40 * x0 + x1 : Nat) : Int)) := Lib.hid (by omega)
    have hx0b : (x0 : Int) ≤ 2 := by omega
    have hx1b : (x1 : Int) < 4294967296 := by omega
    clear h hl hok hr q1 q2 hc hx0 hx1 hT
    go_enter Tryd.func15, Tryd.ntmps15
    go_wp2_with fail
    refine HV.out.mono ?_
    rintro e w1 ⟨rfl, rfl⟩
    have c0d : w.drew.cell? ⟨b, o, none⟩ = some (.int .u32 (x0 : Int)) := c0
    have c1d : w.drew.cell? ⟨b, o + 1, none⟩ = some (.int .u32 (x1 : Int)) := c1
    go_wp2_with fail
    go_still_tail 10, (by kernel_rfl)
    change wpList _ _ _ _ _ w.drew
    have HPd : Hid (Past w w.drew) := Lib.hid (Past.drewN (Below.refl _ w) 1)
    clear HV c0 c1 c0d c1d
    generalize w.drew = wd at *
    go_wp2_with fail
    rw [HCA.out]
    refine (HGr.out _).mono ?_
    rintro e w2 ⟨B, d, rfl, hown, hp⟩
    rw [← HT0.out] at hown ⊢
    have HO1 : Hid (w2.ownsRow w.heap.size 5 1 (.slice B (cS l 0).length d) (cS l 0).length ((cS l 0).map (Value.int .u8)) ∧ Past w w2) := Lib.hid ⟨own_mono hown HPd.out.size, HPd.out.trans' hp⟩
    clear hown hp HGr HT0 HCA HPd hwm hwa hw0 hw1 q3 r0 r1 hx0b hx1b
    generalize hL0 : (cS l 0).length = L0 at *
    have HL0 := Lib.hid hL0
    clear hL0
    go_wp2_with fail
    go_loopg [3, 4] (n - 2) (fun k s3 s4 wx => ∃ (i : Nat) (B : Option Addr) (L d : Nat), i + 2 ≤ n ∧ k = n - 2 - i ∧ s3 = .slice B L d ∧ s4 = .int .i64 ((i : Int) + 2) ∧ Hid ((cS l i).length = L) ∧ Hid (wx.ownsRow w.heap.size 5 1 (.slice B L d) L ((cS l i).map (Value.int .u8)) ∧ Past w wx))
    case atStart => exact ⟨0, B, L0, d, by omega, rfl, rfl, by simp, HL0, HO1⟩
    case round =>
      clear HO1 HL0
      obtain ⟨i, B, L, d, hi, hgk, rfl, rfl, HL, HO⟩ := hrel
      have HGK := Lib.hid hgk
      clear hgk
      have hi0 : (0 : Int) ≤ (i : Int) + 2 := by omega
      by_cases hlt : i + 2 < n
      · have hin : (i : Int) + 2 < (n : Int) := by omega
        have hx := HC.out (i + 2) hlt
        have hx2 : wr.cell? ⟨b, o + (i + 2), none⟩ = some (.int .u32 (l.getD (i + 2) 0)) := (HO.out.2.cell (cell_lt hx)).trans hx
        have hxr := HG.out (i + 2)
        have hz1 := HZ.out i
        rw [HL.out] at hz1
        have HS : Hid (cS l (i + 1) = cS l i ++ grp (l.getD (i + 2) 0).toNat) := Lib.hid rfl
        obtain ⟨x, hxe⟩ : ∃ x : Nat, l.getD (i + 2) 0 = (x : Int) := ⟨(l.getD (i + 2) 0).toNat, by omega⟩
        rw [hxe] at hx2 hxr HS
        rw [Int.toNat_natCast] at HS
        have HGx := Lib.hid (fun w => rgroup_any x (by omega) w)
        have HGl := Lib.hid (grp_len x (by omega)).1
        have hti : (((i : Int) + 2).toNat) = i + 2 := by omega
        clear hx hxe
        go_wp2_with fail
        refine (HGx.out _).mono ?_
        rintro e w3 ⟨B2, d2, rfl, hown2, hp2⟩
        have HO2 : Hid (w3.ownsRow w.heap.size 5 1 (.slice B L d) L ((cS l i).map (Value.int .u8)) ∧ Past w w3 ∧ Sl w3 B2 (grp x).length d2 (grp x)) := Lib.hid ⟨HO.out.1.kept (only_of_past hp2 none) (by cases (Value.slice B L d).ownBlock <;> simp), HO.out.2.trans' hp2, Sl.of_own hown2 (grp_rng x)⟩
        have hg5 := HGl.out
        have HLx : Hid ((cS l (i + 1)).length = L + (grp x).length) := Lib.hid (by rw [HS.out, List.length_append, HL.out])
        clear hown2 hp2 HGx HO hx2 HGl
        generalize hgl : (grp x).length = G at *
        have HGL := Lib.hid hgl
        clear hgl
        go_wp2_with (at_builtin; refine wpList_append_sl rfl _ _ 25 5 rfl Tryd.underlying25 info8 w.heap.size _ L (cS l i) rfl HO2.out.1 B2 G d2 (grp x) rfl HO2.out.2.2 (by omega) HO2.out.2.1.size ?_; intro v' w4 hown hgrow)
        obtain ⟨B3, d3, rfl⟩ := own_slice hown
        have HO3 : Hid (w4.ownsRow w.heap.size 5 1 (.slice B3 (L + G) d3) (L + G) ((cS l (i + 1)).map (Value.int .u8)) ∧ Past w w4) := by
          rw [HS.out]
          exact Lib.hid ⟨hown, HO2.out.2.1.grown hgrow HO2.out.2.1.size (own_block_ge HO2.out.1)⟩
        clear hown hgrow HO2
        go_wp2_with fail
        go_roundg (n - 2 - (i + 1))
        case rel => exact ⟨i + 1, B3, L + G, d3, by omega, rfl, rfl, by go_num, HLx, HO3⟩
        case measure => have := HGK.out; omega
      · have hie : i = n - 2 := by omega
        have hin : ¬ (i : Int) + 2 < (n : Int) := by omega
        have HIE := Lib.hid hie.symm
        clear hie
        go_wp2_with fail
        go_ret
        rw [HIE.out, HL.out]
        exact ⟨B, d, rfl, Sl.of_own HO.out.1 (cS_rng l i), HO.out.2⟩

end Go.Proofs.YtbemkfneebbgeaaDoor
