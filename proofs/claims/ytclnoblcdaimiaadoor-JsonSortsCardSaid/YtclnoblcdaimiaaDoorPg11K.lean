/- The program's Parse. -/
import Derived.Test.YtclnoblcdaimiaaDoorPg11J
import Derived.Test.YtclnoblcdaimiaaDoorPg11E
import Derived.Test.YtclnoblcdaimiaaDoorErrM2
namespace Go.Proofs.YtclnoblcdaimiaaDoor
open Go.RowKit
set_option linter.unusedVariables false

/-- What the variables hold that the program reads. -/
structure Glob11 (w : World) : Prop where
  err : Glob w
  rest : RestT w
  mx : ∃ m : Int, w.cell? ⟨2, 0, none⟩ = some (.int .i64 m)
theorem Glob11.past {w w' : World} (h : Glob11 w) (hp : Past w w') : Glob11 w' := by
  obtain ⟨m, hm⟩ := h.mx
  exact ⟨h.err.past hp, h.rest.past hp, m, by rw [hp.cell (cell_lt hm)]; exact hm⟩

theorem parse_long (A : Option Addr) (n c : Nat) (w : World) (hn : 1048576 < n) : Calls Tryd.prog 8 #[.slice A n c] w fun e w' => e = .returned (.tuple #[.slice none 0 0, (Ch.flt 1 1048576).val]) ∧ Past w w' := by
  have hi : (1048576 : Int) < (n : Int) := by omega
  have HNew := Lib.hid (fun w => new_any 1 1048576 w)
  clear hn
  go_enter Tryd.func8, Tryd.ntmps8
  go_wp2_with fail
  refine (HNew.out _).mono ?_
  rintro e w1 ⟨rfl, hp⟩
  have H1 := Lib.hid hp
  clear hp
  go_wp2_with fail
  go_ret2
  exact ⟨rfl, H1.out⟩

/-- The code of a string that is not read to its end. -/
def badC (n k s : Nat) : Nat := if k < n then (if s = 9 then 4 else 5) else 3
set_option maxHeartbeats 2000000 in
theorem parse_bad (A : Option Addr) (n c : Nat) (xs : List Int) (w : World) (hS : Sl w A n c xs) (hG : Glob11 w) (hn : n ≤ 1048576) (k s : Nat) (hr : readS xs 0 0 = (k, s)) (hb : k < n ∨ s ≠ 9) :
    Calls Tryd.prog 8 #[.slice A n c] w fun e w' => e = .returned (.tuple #[.slice none 0 0, (Ch.flt (badC n k s : Int) (k : Int)).val]) ∧ Past w w' := by
  have hi : ¬ (1048576 : Int) < (n : Int) := by omega
  have HNew := Lib.hid (fun c w => new_any c (k : Int) w)
  have HRe := Lib.hid (pread_any A n c xs w hS hG.rest hn)
  rw [hr] at HRe
  simp only at HRe
  have hge := readS_ge xs 0 0
  rw [hr] at hge
  have hlen := hS.len
  have hkn : k ≤ n := by have := hge.2; simp only at this; omega
  clear hS hG hr hge hlen
  by_cases h1 : k < n
  · have h1i : (k : Int) < (n : Int) := by omega
    by_cases h9 : s = 9
    · have hc : Hid (badC n k s = 4) := Lib.hid (by unfold badC; rw [if_pos h1, if_pos h9])
      subst h9
      clear h1 hn hb hkn
      go_enter Tryd.func8, Tryd.ntmps8
      go_wp2_with fail
      refine HRe.out.mono ?_
      rintro e w1 ⟨rfl, hp⟩
      have H1 := Lib.hid hp
      clear hp
      go_wp2_with fail
      refine (HNew.out _ _).mono ?_
      rintro e w2 ⟨rfl, hp⟩
      have H2 := Lib.hid (H1.out.trans' hp)
      clear hp
      go_wp2_with fail
      go_ret2
      rw [hc.out]
      exact ⟨rfl, H2.out⟩
    · have hc : Hid (badC n k s = 5) := Lib.hid (by unfold badC; rw [if_pos h1, if_neg h9])
      have h9b : ((s : Int) == 9) = false := by simp; omega
      have h9i : ¬ (s : Int) = 9 := by omega
      clear h1 hn hb hkn h9
      go_enter Tryd.func8, Tryd.ntmps8
      go_wp2_with fail
      refine HRe.out.mono ?_
      rintro e w1 ⟨rfl, hp⟩
      have H1 := Lib.hid hp
      clear hp
      go_wp2_with fail
      refine (HNew.out _ _).mono ?_
      rintro e w2 ⟨rfl, hp⟩
      have H2 := Lib.hid (H1.out.trans' hp)
      clear hp
      go_wp2_with fail
      go_ret2
      rw [hc.out]
      exact ⟨rfl, H2.out⟩
  · have h1i : ¬ (k : Int) < (n : Int) := by omega
    have h9 : s ≠ 9 := hb.resolve_left h1
    have hc : Hid (badC n k s = 3) := Lib.hid (by unfold badC; rw [if_neg h1])
    have h9b : ((s : Int) == 9) = false := by simp; omega
    have h9c : ((s : Int) != 9) = true := by simp; omega
    have h9i : ¬ (s : Int) = 9 := by omega
    clear h1 hn hb hkn h9
    go_enter Tryd.func8, Tryd.ntmps8
    go_wp2_with fail
    refine HRe.out.mono ?_
    rintro e w1 ⟨rfl, hp⟩
    have H1 := Lib.hid hp
    clear hp
    go_wp2_with fail
    refine (HNew.out _ _).mono ?_
    rintro e w2 ⟨rfl, hp⟩
    have H2 := Lib.hid (H1.out.trans' hp)
    clear hp
    go_wp2_with fail
    go_ret2
    rw [hc.out]
    exact ⟨rfl, H2.out⟩

/-- What Parse answers to the text of pairs. -/
def AccP (l : List P2) (w : World) (e : Ending) (w' : World) : Prop :=
  (∀ c a, chk l = some (c, a) → e = .returned (.tuple #[.slice none 0 0, (Ch.flt (c : Int) (a : Int)).val])) ∧
  (chk l = none → ∃ A c, e = .returned (.tuple #[.slice A l.length c, .nilIface]) ∧ Ps w' A l.length c l) ∧ Past w w'
theorem text_eq (l : List P2) : txt (textI l) = textP l := by rw [← ints_textP, txt_ints]
theorem len_lenL (l : List P2) : l.length ≤ lenL l := by
  have h : ∀ i, i ≤ lenP l i := by
    intro i
    induction i with
    | zero => exact Nat.zero_le _
    | succ i ih =>
      show i + 1 ≤ lenP l i + plenN (l.getD i default)
      unfold plenN
      omega
  exact h l.length
set_option maxHeartbeats 2000000 in
theorem parse_acc (A : Option Addr) (n c : Nat) (l : List P2) (w : World) (hS : Sl w A n c (textI l)) (hG : Glob11 w) (hn : n ≤ 1048576) (hl : Loose l) (hr : readS (textI l) 0 0 = (n, 9)) :
    Calls Tryd.prog 8 #[.slice A n c] w (AccP l w) := by
  have hi : ¬ (1048576 : Int) < (n : Int) := by omega
  have HRe := Lib.hid (pread_any A n c _ w hS hG.rest hn)
  rw [hr] at HRe
  simp only at HRe
  have hlen := hS.len
  have hL : lenL l = n := by rw [← text_len, hlen]
  have hsz : (textP l).size = n := by rw [textP_size, hL]
  obtain ⟨m, hm⟩ := hG.mx
  have HCu := Lib.hid (fun w hm => cut_any l hl (by omega) w m hm)
  have HM := Lib.hid hm
  have HCh := Lib.hid (fun A c w h => check_any A l.length c l w h (by omega) (by have := len_lenL l; omega))
  have HS := Lib.hid hS
  have HCo := fun w (hp : Sl w A n c (textI l)) => conv_sl (P := Tryd.prog) (src := 22) (dst := 9) (e := 5) Tryd.underlying22 Tryd.underlying5 Tryd.underlying9 hp
  simp only [text_eq] at HCo
  have HCO := Lib.hid HCo
  obtain ⟨T, hT⟩ : ∃ T, textP l = T := ⟨_, rfl⟩
  rw [hT] at HCu HCO
  clear hS hG hr hlen hL hsz hm hT HCo hl hn
  cases hk : chk l with
  | none =>
    rw [hk] at HCh
    have HK := Lib.hid hk
    rw [show errV none = .nilIface from rfl] at HCh
    clear hk
    go_enter Tryd.func8, Tryd.ntmps8
    go_wp2_with fail
    refine HRe.out.mono ?_
    rintro e w1 ⟨rfl, hp⟩
    have H1 := Lib.hid hp
    have hco := HCO.out w1 (HS.out.past hp)
    clear hp
    go_wp2_with fail
    refine (HCu.out _ (by rw [H1.out.cell (cell_lt HM.out)]; exact HM.out)).mono ?_
    rintro e w2 ⟨A2, c2, rfl, hps, hp⟩
    have H2 := Lib.hid (And.intro (H1.out.trans' hp) hps)
    clear hp hps hco
    go_wp2_with fail
    refine (HCh.out _ _ _ H2.out.2).mono ?_
    rintro e w3 ⟨rfl, hp⟩
    have H3 := Lib.hid (And.intro (H2.out.1.trans' hp) (H2.out.2.past hp))
    clear hp
    go_wp2_with fail
    go_ret2
    exact ⟨fun c a h => (by rw [HK.out] at h; cases h), fun _ => ⟨A2, c2, rfl, H3.out.2⟩, H3.out.1⟩
  | some ca =>
    obtain ⟨cc, aa⟩ := ca
    rw [hk] at HCh
    have HK := Lib.hid hk
    rw [show errV (some (cc, aa)) = .iface 73 (.agg #[.int .i64 (cc : Int), .int .i64 (aa : Int)]) from rfl] at HCh
    clear hk
    go_enter Tryd.func8, Tryd.ntmps8
    go_wp2_with fail
    refine HRe.out.mono ?_
    rintro e w1 ⟨rfl, hp⟩
    have H1 := Lib.hid hp
    have hco := HCO.out w1 (HS.out.past hp)
    clear hp
    go_wp2_with fail
    refine (HCu.out _ (by rw [H1.out.cell (cell_lt HM.out)]; exact HM.out)).mono ?_
    rintro e w2 ⟨A2, c2, rfl, hps, hp⟩
    have H2 := Lib.hid (And.intro (H1.out.trans' hp) hps)
    clear hp hps hco
    go_wp2_with fail
    refine (HCh.out _ _ _ H2.out.2).mono ?_
    rintro e w3 ⟨rfl, hp⟩
    have H3 := Lib.hid (H2.out.1.trans' hp)
    clear hp
    go_wp2_with fail
    go_ret2
    exact ⟨fun c a h => (by rw [HK.out] at h; injection h with h; injection h with h1 h2; subst h1 h2; rfl), fun h => (by rw [HK.out] at h; cases h), H3.out⟩

end Go.Proofs.YtclnoblcdaimiaaDoor
