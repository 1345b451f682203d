/- The reference's text of a list of arcs. -/
import Derived.Test.YtnjoccmjembppaaDoorRef9C
namespace Go.Proofs.YtnjoccmjembppaaDoor
open Go.RowKit

/-- The first k + 1 arcs in decimal digits, with dots between. -/
def tS (l : List Int) : Nat → ByteArray
  | 0 => decS (l.getD 0 0).toNat
  | k + 1 => tS l k ++ ⟨#[46]⟩ ++ decS (l.getD (k + 1) 0).toNat
def textS (l : List Int) : ByteArray := if okL l then tS l (l.length - 1) else ⟨#[]⟩
theorem arc_size {l : List Int} (hr : ∀ x ∈ l, 0 ≤ x ∧ x < 4294967296) (i : Nat) : (decS (l.getD i 0).toNat).size ≤ 10 := by
  have h := getD_rngK (by omega) hr i
  exact decS_size 9 _ (by omega)
theorem tS_size {l : List Int} (hr : ∀ x ∈ l, 0 ≤ x ∧ x < 4294967296) : ∀ k, (tS l k).size ≤ 11 * (k + 1)
  | 0 => by
    have := arc_size hr 0
    show (decS _).size ≤ _
    omega
  | k + 1 => by
    have h1 := tS_size hr k
    have h2 := arc_size hr (k + 1)
    show (tS l k ++ ⟨#[46]⟩ ++ decS _).size ≤ _
    rw [ByteArray.size_append, ByteArray.size_append]
    have h3 : (⟨#[46]⟩ : ByteArray).size = 1 := rfl
    omega

set_option maxHeartbeats 1000000 in
theorem rtext_any (A : Option Addr) (n c : Nat) (l : List Int) (w : World) (h : SlK .u32 w A n c l) (hr : ∀ x ∈ l, 0 ≤ x ∧ x < 4294967296) :
    Calls Tryd.prog 17 #[.slice A n c] w fun e w' => e = .returned (.string (textS l)) ∧ Past w w' := by
  have HV := Lib.hid (rvalid_any A n c l w h hr)
  have hl := h.len
  have hcm := h.big
  have hcp := h.cap
  unfold maxLen at hcm
  cases hok : okL l with
  | false =>
    rw [hok] at HV
    have HT : Hid (textS l = ⟨#[]⟩) := Lib.hid (by unfold textS; rw [hok]; rfl)
    clear h hl hok hr
    go_enter Tryd.func17, Tryd.ntmps17
    go_wp2_with fail
    refine HV.out.mono ?_
    rintro e w1 ⟨rfl, rfl⟩
    go_wp2_with fail
    go_ret
    exact ⟨by rw [HT.out]; rfl, Below.refl _ _⟩
  | true =>
    rw [hok] at HV
    obtain ⟨q1, q2, _⟩ := okL_true hok
    have HT : Hid (textS l = tS l (n - 1)) := Lib.hid (by unfold textS; rw [hok, hl]; rfl)
    have HZ := Lib.hid (fun k => tS_size hr k)
    have HA := Lib.hid (fun i => arc_size hr i)
    have HR := Lib.hid (fun i => getD_rngK (m := 4294967296) (by omega) hr i)
    have HD := Lib.hid (fun i w => rdec_any (l.getD i 0).toNat (by have := getD_rngK (m := 4294967296) (by omega) hr i; omega) w)
    obtain ⟨b, o, rfl, hc⟩ := h.cells (by omega)
    have HC := Lib.hid hc
    have c0 := hc 0 (by omega)
    rw [Nat.add_zero] at c0
    have hni : (n : Int) ≤ 20 := by omega
    have h0i : (0 : Int) < (n : Int) := by omega
    have h1n : 1 ≤ n := by omega
    have hnn : n ≤ 20 := by omega
    have r0 := HR.out 0
    obtain ⟨x0, hx0⟩ : ∃ x : Nat, l.getD 0 0 = (x : Int) := ⟨(l.getD 0 0).toNat, by omega⟩
    have HD0 := Lib.hid (HD.out 0)
    have HT0 : Hid (tS l 0 = decS x0) := Lib.hid (by show decS (l.getD 0 0).toNat = _; rw [hx0, Int.toNat_natCast])
    rw [hx0] at c0 HD0 r0
    rw [Int.toNat_natCast] at HD0
    clear h hl hok hr q1 q2 hc hx0
    go_enter Tryd.func17, Tryd.ntmps17
    go_wp2_with fail
    refine HV.out.mono ?_
    rintro e w1 ⟨rfl, rfl⟩
    go_wp2_with fail
    refine (HD0.out _).mono ?_
    rintro e w1 ⟨rfl, m1, rfl⟩
    have H1 : Hid (Past w (w.drewN m1)) := Lib.hid (Past.drewN (Below.refl _ _) m1)
    generalize w.drewN m1 = w2 at *
    rw [← HT0.out]
    clear HD0 HT0 HV c0
    go_wp2_with fail
    go_loopg [3, 4] (n - 1) (fun k s3 s4 wx => ∃ i : Nat, i + 1 ≤ n ∧ k = n - 1 - i ∧ s3 = .string (tS l i) ∧ s4 = .int .i64 ((i : Int) + 1) ∧ Hid (Past w wx))
    case atStart => exact ⟨0, by omega, rfl, rfl, by simp, H1⟩
    case round =>
      clear H1
      obtain ⟨i, hi, hgk, rfl, rfl, HQ⟩ := hrel
      have HGK := Lib.hid hgk
      clear hgk
      have hi0 : (0 : Int) ≤ (i : Int) + 1 := by omega
      by_cases hlt : i + 1 < n
      · have hin : (i : Int) + 1 < (n : Int) := by omega
        have hx := HC.out (i + 1) hlt
        have hx2 : wr.cell? ⟨b, o + (i + 1), none⟩ = some (.int .u32 (l.getD (i + 1) 0)) := (HQ.out.cell (cell_lt hx)).trans hx
        have hxr := HR.out (i + 1)
        have hz1 := HZ.out i
        have hz2 := HA.out (i + 1)
        have HS : Hid (tS l (i + 1) = tS l i ++ ⟨#[46]⟩ ++ decS (l.getD (i + 1) 0).toNat) := Lib.hid rfl
        obtain ⟨x, hxe⟩ : ∃ x : Nat, l.getD (i + 1) 0 = (x : Int) := ⟨(l.getD (i + 1) 0).toNat, by omega⟩
        have HDi := Lib.hid (HD.out (i + 1))
        rw [hxe] at hx2 HDi hxr
        rw [hxe] at hz2 HS
        rw [Int.toNat_natCast] at HDi hz2 HS
        clear hx hxe
        generalize tS l i = S at *
        have hti : (((i : Int) + 1).toNat) = i + 1 := by omega
        have hb1 : S.size + (⟨#[46]⟩ : ByteArray).size ≤ 9223372036854775807 := by
          have h3 : (⟨#[46]⟩ : ByteArray).size = 1 := rfl
          omega
        have hz3 : (S ++ ⟨#[46]⟩ : ByteArray).size ≤ 300 := by
          rw [ByteArray.size_append]
          have h3 : (⟨#[46]⟩ : ByteArray).size = 1 := rfl
          omega
        have hadd1 := run_string_add_sum (P := Tryd.prog) (w := wr) S ⟨#[46]⟩ hb1
        go_wp2_with fail
        refine (HDi.out _).mono ?_
        rintro e w3 ⟨rfl, m3, rfl⟩
        have H3 := Lib.hid (HQ.out.drewN m3)
        clear HDi hx2 HQ hadd1
        generalize wr.drewN m3 = w4 at *
        obtain ⟨E, hE⟩ : ∃ E, decS x = E := ⟨_, rfl⟩
        rw [hE] at hz2 HS ⊢
        have hb2 : (S ++ ⟨#[46]⟩ : ByteArray).size + E.size ≤ 9223372036854775807 := by omega
        generalize (S ++ ⟨#[46]⟩ : ByteArray) = S2 at *
        go_wp2_with fail
        go_roundg (n - 1 - (i + 1))
        case rel => exact ⟨i + 1, by omega, rfl, by rw [HS.out], by go_num, H3⟩
        case measure => have := HGK.out; omega
      · have hie : i = n - 1 := by omega
        have hin : ¬ (i : Int) + 1 < (n : Int) := by omega
        have HT2 := HT.out
        rw [← hie] at HT2
        have HT3 := Lib.hid HT2
        clear HT2 HT hie
        go_wp2_with fail
        go_ret
        exact ⟨by rw [HT3.out]; rfl, HQ.out⟩

end Go.Proofs.YtnjoccmjembppaaDoor
