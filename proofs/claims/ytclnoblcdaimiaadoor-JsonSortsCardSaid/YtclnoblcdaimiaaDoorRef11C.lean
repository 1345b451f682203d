/- The reference's Text: the encoding of pairs. -/
import Derived.Test.YtclnoblcdaimiaaDoorRef11B
namespace Go.Proofs.YtclnoblcdaimiaaDoor
open Go.RowKit
set_option linter.unusedVariables false

/-- What stands behind the comma. -/
def pairB (S : ByteArray) (p : P2) : ByteArray := S ++ ⟨#[34]⟩ ++ p.1 ++ ⟨#[34, 58, 34]⟩ ++ p.2 ++ ⟨#[34]⟩
def commaB (S : ByteArray) (i : Nat) : ByteArray := if 0 < i then S ++ ⟨#[44]⟩ else S
def tP (l : List P2) : Nat → ByteArray
  | 0 => ⟨#[123]⟩
  | i + 1 => pairB (commaB (tP l i) i) (l.getD i default)
def textP (l : List P2) : ByteArray := tP l l.length ++ ⟨#[125]⟩
theorem pairB_size (S : ByteArray) (p : P2) : (pairB S p).size = S.size + p.1.size + p.2.size + 5 := by
  unfold pairB
  simp only [ByteArray.size_append]
  have h1 : (⟨#[34]⟩ : ByteArray).size = 1 := rfl
  have h3 : (⟨#[34, 58, 34]⟩ : ByteArray).size = 3 := rfl
  omega
theorem commaB_size (S : ByteArray) (i : Nat) : S.size ≤ (commaB S i).size ∧ (commaB S i).size ≤ S.size + 1 := by
  unfold commaB
  split
  · rw [ByteArray.size_append]
    have h1 : (⟨#[44]⟩ : ByteArray).size = 1 := rfl
    omega
  · omega
theorem tP_next (l : List P2) (i : Nat) : (tP l i).size ≤ (tP l (i + 1)).size := by
  show _ ≤ (pairB (commaB (tP l i) i) (l.getD i default)).size
  rw [pairB_size]
  have := (commaB_size (tP l i) i).1
  omega
theorem tP_mono (l : List P2) (i : Nat) : ∀ k, (tP l i).size ≤ (tP l (i + k)).size
  | 0 => Nat.le_refl _
  | k + 1 => Nat.le_trans (tP_mono l i k) (tP_next l (i + k))

set_option maxHeartbeats 4000000 in
theorem rtext11_any (A : Option Addr) (n c : Nat) (l : List P2) (w : World) (h : Ps w A n c l) (hs : (textP l).size ≤ 1000000000) : Calls Tryd.prog 20 #[.slice A n c] w fun e w' => e = .returned (.string (textP l)) ∧ ∃ q, w' = w.drewN q := by
  have hbig : (n : Int) ≤ 9223372036854775807 := by
    have h1 := h.cap
    have h2 := h.big
    unfold maxLen at h2
    omega
  have HL := Lib.hid h.len
  have HP := Lib.hid h
  have HS : Hid (∀ i, i ≤ n → (tP l i).size ≤ 1000000000) := Lib.hid fun i hi => by
    have h1 := tP_mono l i (n - i)
    rw [show i + (n - i) = n by omega] at h1
    have h2 : (textP l).size = (tP l n).size + 1 := by
      unfold textP
      rw [ByteArray.size_append, HL.out]
      rfl
    omega
  clear h hs
  go_enter Tryd.func20, Tryd.ntmps20
  go_wp2_with fail
  go_loopg [3, 4] n (fun q s3 s4 wx => ∃ i : Nat, i ≤ n ∧ q = n - i ∧ s3 = .string (tP l i) ∧ s4 = .int .i64 (i : Int) ∧ Hid (∃ q, wx = w.drewN q))
  case atStart => exact ⟨0, Nat.zero_le _, rfl, rfl, rfl, Lib.hid ⟨0, rfl⟩⟩
  case round =>
    obtain ⟨i, hi, hgk, rfl, rfl, HQ⟩ := hrel
    have HGK := Lib.hid hgk
    clear hgk
    by_cases hlt : i < n
    · have hli : (i : Int) < (n : Int) := by omega
      obtain ⟨b, o, rfl, hc⟩ := HP.out.cells (by omega)
      obtain ⟨f0, f1⟩ := hc i hlt
      have HLT := Lib.hid hlt
      have hz := HS.out i hi
      have hz2 := HS.out (i + 1) hlt
      have hT : tP l (i + 1) = pairB (commaB (tP l i) i) (l.getD i default) := rfl
      obtain ⟨p, hp⟩ : ∃ p, l.getD i default = p := ⟨_, rfl⟩
      rw [hp] at f0 f1 hT
      obtain ⟨q0, hq0⟩ := HQ.out
      subst hq0
      replace f0 : (w.drewN q0).cell? ⟨b, o + i * 2, none⟩ = some (.string p.1) := f0
      replace f1 : (w.drewN q0).cell? ⟨b, o + i * 2 + 1, none⟩ = some (.string p.2) := f1
      obtain ⟨wr, hwr⟩ : ∃ wr, w.drewN q0 = wr := ⟨_, rfl⟩
      rw [hwr] at f0 f1 ⊢
      have HWR := Lib.hid hwr
      rw [hT, pairB_size] at hz2
      have hcs := (commaB_size (tP l i) i)
      obtain ⟨S, hS⟩ : ∃ S, tP l i = S := ⟨_, rfl⟩
      rw [hS] at hz hcs hT hz2 ⊢
      obtain ⟨C, hC⟩ : ∃ C, commaB S i = C := ⟨_, rfl⟩
      rw [hC] at hcs hT hz2
      obtain ⟨a, b'⟩ := p
      have q1 : (⟨#[34]⟩ : ByteArray).size = 1 := rfl
      have q3 : (⟨#[34, 58, 34]⟩ : ByteArray).size = 3 := rfl
      have q44 : (⟨#[44]⟩ : ByteArray).size = 1 := rfl
      simp only at hz2
      obtain ⟨S0, hS0⟩ : ∃ X, C ++ ⟨#[34]⟩ = X := ⟨_, rfl⟩
      have z0 : S0.size = C.size + 1 := by rw [← hS0, ByteArray.size_append, q1]
      obtain ⟨S2, hS2⟩ : ∃ X, S0 ++ a = X := ⟨_, rfl⟩
      have z2 : S2.size = S0.size + a.size := by rw [← hS2, ByteArray.size_append]
      obtain ⟨S3, hS3⟩ : ∃ X, S2 ++ ⟨#[34, 58, 34]⟩ = X := ⟨_, rfl⟩
      have z3 : S3.size = S2.size + 3 := by rw [← hS3, ByteArray.size_append, q3]
      obtain ⟨S4, hS4⟩ : ∃ X, S3 ++ b' = X := ⟨_, rfl⟩
      have z4 : S4.size = S3.size + b'.size := by rw [← hS4, ByteArray.size_append]
      obtain ⟨S5, hS5⟩ : ∃ X, S4 ++ ⟨#[34]⟩ = X := ⟨_, rfl⟩
      have HT : Hid (tP l (i + 1) = S5) := Lib.hid (by rw [hT]; unfold pairB; simp only; rw [hS0, hS2, hS3, hS4, hS5])
      have hadd0 := fun w : World => run_string_add_sum (P := Tryd.prog) (w := w) C ⟨#[34]⟩ (by omega)
      have hadd2 := fun w : World => run_string_add_sum (P := Tryd.prog) (w := w) S0 a (by omega)
      have hadd3 := fun w : World => run_string_add_sum (P := Tryd.prog) (w := w) S2 ⟨#[34, 58, 34]⟩ (by omega)
      have hadd4 := fun w : World => run_string_add_sum (P := Tryd.prog) (w := w) S3 b' (by omega)
      have hadd5 := fun w : World => run_string_add_sum (P := Tryd.prog) (w := w) S4 ⟨#[34]⟩ (by omega)
      have haddc := fun w : World => run_string_add_sum (P := Tryd.prog) (w := w) S ⟨#[44]⟩ (by omega)
      rw [hS0] at hadd0
      rw [hS2] at hadd2
      rw [hS3] at hadd3
      rw [hS4] at hadd4
      rw [hS5] at hadd5
      clear hc hp hT hz2 hwr HQ hz hS0 hS2 hS3 hS4 hS5 z0 z2 z3 z4 q1 q3 q44 hcs hS hi
      by_cases h0 : 0 < i
      · have h0i : (0 : Int) < (i : Int) := by omega
        have hCe : S ++ ⟨#[44]⟩ = C := by rw [← hC]; unfold commaB; rw [if_pos h0]
        rw [hCe] at haddc
        clear hC hCe h0 hlt
        go_upto_region 7 with (fail)
        go_quiet (fail)
        go_wp2_with fail
        go_roundg (n - (i + 1))
        case rel => exact ⟨i + 1, HLT.out, rfl, by rw [HT.out], by go_num, Lib.hid ⟨_, by rw [← HWR.out, World.drewN_drewN]⟩⟩
        case measure => have := HGK.out; have := HLT.out; omega
      · have h0i : ¬ (0 : Int) < (i : Int) := by omega
        have hCe : S = C := by rw [← hC]; unfold commaB; rw [if_neg h0]
        subst hCe
        clear hC haddc h0 hlt
        go_upto_region 7 with (fail)
        go_quiet (fail)
        go_wp2_with fail
        go_roundg (n - (i + 1))
        case rel => exact ⟨i + 1, HLT.out, rfl, by rw [HT.out], by go_num, Lib.hid ⟨_, by rw [← HWR.out, World.drewN_drewN]⟩⟩
        case measure => have := HGK.out; have := HLT.out; omega
    · obtain rfl : i = n := by omega
      have hli : ¬ (i : Int) < (i : Int) := by omega
      have hz := HS.out i (Nat.le_refl _)
      have q1 : (⟨#[125]⟩ : ByteArray).size = 1 := rfl
      have hadd := fun w : World => run_string_add_sum (P := Tryd.prog) (w := w) (tP l i) ⟨#[125]⟩ (by omega)
      have HE : Hid (tP l i ++ ⟨#[125]⟩ = textP l) := Lib.hid (by unfold textP; rw [HL.out])
      rw [HE.out] at hadd
      clear hlt hi hz q1
      go_wp2_with fail
      go_ret
      exact ⟨rfl, HQ.out⟩

end Go.Proofs.YtclnoblcdaimiaaDoor
