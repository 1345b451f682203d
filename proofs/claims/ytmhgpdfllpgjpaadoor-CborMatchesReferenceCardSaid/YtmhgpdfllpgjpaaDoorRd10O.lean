/- The reference's reader, whole; Parse. -/
import Derived.Test.YtmhgpdfllpgjpaaDoorRd10H
import Derived.Test.YtmhgpdfllpgjpaaDoorRd10I
import Derived.Test.YtmhgpdfllpgjpaaDoorRd10K
import Derived.Test.YtmhgpdfllpgjpaaDoorRd10N
namespace Go.Proofs.YtmhgpdfllpgjpaaDoor
open Go.RowKit
set_option linter.unusedVariables false

theorem rdW_end {rc : Nat → R10} {deep : Bool} {b : List Int} {p : Nat} (h : b.length ≤ p) : rdW rc deep b p = .bad 3 b.length := by
  unfold rdW
  rw [if_pos h]
theorem rdW_kind {rc : Nat → R10} {deep : Bool} {b : List Int} {p : Nat} (h : ¬ b.length ≤ p) (hk : 5 < (b.getD p 0).toNat / 32 ∨ 27 < (b.getD p 0).toNat % 32) : rdW rc deep b p = .bad 5 p := by
  unfold rdW
  rw [if_neg h, if_pos hk]
theorem rdW_deep {rc : Nat → R10} {b : List Int} {p : Nat} (h : ¬ b.length ≤ p) (hk : ¬ (5 < (b.getD p 0).toNat / 32 ∨ 27 < (b.getD p 0).toNat % 32)) : rdW rc true b p = .bad 2 p := by
  unfold rdW
  rw [if_neg h, if_neg hk, if_pos rfl]
/-- What stands behind a head that is right. -/
theorem rdW_rest {rc : Nat → R10} {b : List Int} {p : Nat} (h : ¬ b.length ≤ p) (hk : ¬ (5 < (b.getD p 0).toNat / 32 ∨ 27 < (b.getD p 0).toNat % 32)) : rdW rc false b p =
    (if b.length < p + 1 + szOf ((b.getD p 0).toNat % 32) then .bad 3 b.length
    else if hsz (numAt b p ((b.getD p 0).toNat % 32)) ≠ szOf ((b.getD p 0).toNat % 32) then .bad 6 p
    else if (b.getD p 0).toNat / 32 < 2 then .good (.node ((b.getD p 0).toNat / 32 : Nat) (numAt b p ((b.getD p 0).toNat % 32) : Nat) [] []) (p + 1 + szOf ((b.getD p 0).toNat % 32))
    else if (b.getD p 0).toNat / 32 < 4 then bytesR b ((b.getD p 0).toNat / 32) (p + 1 + szOf ((b.getD p 0).toNat % 32)) (numAt b p ((b.getD p 0).toNat % 32))
    else match itemsR rc ((b.getD p 0).toNat / 32 == 5) (numAt b p ((b.getD p 0).toNat % 32)) (p + 1 + szOf ((b.getD p 0).toNat % 32)) [] with
    | .inl (c, q) => .bad c q
    | .inr (ks, e) => .good (.node ((b.getD p 0).toNat / 32 : Nat) 0 [] ks) e) := by
  unfold rdW
  rw [if_neg h, if_neg hk, if_neg (by decide)]
  rfl

theorem read_any {w0 : World} {A : Option Addr} {n c : Nat} {xs : List Int} (h0 : Sl w0 A n c xs) (hn : n ≤ 1048576) : ∀ (f : Nat) (ab : Int) (p : Nat) (w : World), Past w0 w → 0 ≤ ab → ab + (f : Int) = 8 → p ≤ n →
    Calls Tryd.prog 34 #[.slice A n c, .int .i64 (p : Int), .int .i64 ab] w (ReadR (rd xs f p) w) := by
  intro f
  induction f with
  | zero =>
    intro ab p w hw hab0 hab hp
    have hS := h0.past hw
    have hl := hS.len
    show Calls _ _ _ _ (ReadR (rdW _ true xs p) w)
    by_cases he : n ≤ p
    · rw [rdW_end (by omega), hl]
      exact read_end w A n c p ab (by omega) he
    · have hA := at10 hS (p := p) (by omega)
      by_cases hk : 5 < (xs.getD p 0).toNat / 32 ∨ 27 < (xs.getD p 0).toNat % 32
      · rw [rdW_kind (by omega) hk]
        exact read_kind w A n c p xs _ _ _ ab (by omega) hA hk
      · rw [rdW_deep (by omega) hk]
        exact read_deep w A n c p xs _ _ _ ab (by omega) hA (by omega) (by omega) (by omega)
  | succ f ih =>
    intro ab p w hw hab0 hab hp
    have hS := h0.past hw
    have hl := hS.len
    show Calls _ _ _ _ (ReadR (rdW (rd xs f) false xs p) w)
    by_cases he : n ≤ p
    · rw [rdW_end (by omega), hl]
      exact read_end w A n c p ab (by omega) he
    · have hA := at10 hS (p := p) (by omega)
      by_cases hk : 5 < (xs.getD p 0).toNat / 32 ∨ 27 < (xs.getD p 0).toNat % 32
      · rw [rdW_kind (by omega) hk]
        exact read_kind w A n c p xs _ _ _ ab (by omega) hA hk
      · rw [rdW_rest (by omega) hk]
        obtain ⟨b, o, rfl, _⟩ := hS.bytes (by omega)
        have hk5 : (xs.getD p 0).toNat / 32 ≤ 5 := by omega
        have hl27 : (xs.getD p 0).toNat % 32 ≤ 27 := by omega
        have hIH : ∀ at1 w1, Past w w1 → at1 ≤ n → Calls Tryd.prog 34 #[.slice (some ⟨b, o, none⟩) n c, .int .i64 (at1 : Int), .int .i64 (ab + 1)] w1 (ReadR (rd xs f at1) w1) :=
          fun at1 w1 hp1 ha => ih (ab + 1) at1 w1 (hw.trans' hp1) (by omega) (by omega) ha
        generalize (xs.getD p 0).toNat / 32 = k at *
        generalize (xs.getD p 0).toNat % 32 = l at *
        by_cases hcut : n < p + 1 + szOf l
        · rw [if_pos (by rw [hl]; exact hcut), hl]
          exact read_cut w b o n c p xs _ k l ab hn hA hk5 hl27 (by omega) hcut
        · rw [if_neg (by rw [hl]; exact hcut)]
          by_cases hlen : hsz (numAt xs p l) = szOf l
          · rw [if_neg (by simpa using hlen)]
            by_cases h2 : k < 2
            · rw [if_pos h2]
              exact read_num w b o n c p xs _ k l ab hn hA hk5 hl27 (by omega) (by omega) hlen h2
            · rw [if_neg h2]
              by_cases h4 : k < 4
              · rw [if_pos h4]
                exact read_bytes w b o n c p xs _ k l ab hn hA hk5 hl27 (by omega) (by omega) hlen (by omega) h4
              · rw [if_neg h4]
                by_cases h5 : k = 5
                · exact read_map w b o n c p xs _ k l ab hn hA hk5 hl27 (by omega) (by omega) f hab0 hlen (by omega) h5 hIH
                · exact read_list w b o n c p xs _ k l ab hn hA hk5 hl27 (by omega) (by omega) f hab0 hlen (by omega) h5 hIH
          · rw [if_pos (by simpa using hlen)]
            exact read_len w b o n c p xs _ k l ab hn hA hk5 hl27 (by omega) (by omega) hlen

end Go.Proofs.YtmhgpdfllpgjpaaDoor
