/- The program's lengths, offsets and searches over pairs. -/
import Derived.Test.YtclnoblcdaimiaaDoorPg11B
namespace Go.Proofs.YtclnoblcdaimiaaDoor
open Go.RowKit
set_option linter.unusedVariables false

/-- The first number below n with a property. -/
def firstF (f : Nat → Bool) (n : Nat) : Option Nat := (List.range n).find? f
theorem firstF_none {f : Nat → Bool} {n : Nat} (h : ∀ j, j < n → f j = false) : firstF f n = none := by
  unfold firstF
  rw [List.find?_eq_none]
  intro x hx
  rw [h x (List.mem_range.1 hx)]
  decide
theorem firstF_some {f : Nat → Bool} {n i : Nat} (hi : i < n) (hf : f i = true) (h : ∀ j, j < i → f j = false) : firstF f n = some i := by
  unfold firstF
  rw [List.find?_range_eq_some]
  exact ⟨hf, List.mem_range.2 hi, fun j hj => by rw [h j hj]; rfl⟩
theorem firstF_lt {f : Nat → Bool} {n i : Nat} (h : firstF f n = some i) : i < n ∧ f i = true := by
  unfold firstF at h
  exact ⟨List.mem_range.1 (List.mem_of_find?_eq_some h), List.find?_some h⟩
theorem firstF_not {f : Nat → Bool} {n : Nat} (h : firstF f n = none) : ∀ j, j < n → f j = false := by
  intro j hj
  unfold firstF at h
  rw [List.find?_eq_none] at h
  have := h j (List.mem_range.2 hj)
  cases hf : f j with
  | false => rfl
  | true => exact absurd hf this
def badI (o : Option Nat) : Int := match o with
  | none => -1
  | some i => (i : Int)

abbrev pV (p : P2) : Value := .agg #[.string p.1, .string p.2]
/-- The length of the text of a pair. -/
def plenN (p : P2) : Nat := 5 + p.1.size + p.2.size
theorem plen_any (a b : ByteArray) (w : World) (ha : a.size ≤ 1000000000) (hb : b.size ≤ 1000000000) : Calls Tryd.prog 51 #[.agg #[.string a, .string b]] w fun e w' => e = .returned (.int .i64 (plenN (a, b) : Int)) ∧ Past w w' := by
  have ha' : (a.size : Int) ≤ 1000000000 := by omega
  have hb' : (b.size : Int) ≤ 1000000000 := by omega
  have ha0 : (0 : Int) ≤ (a.size : Int) := by omega
  have hb0 : (0 : Int) ≤ (b.size : Int) := by omega
  clear ha hb
  go_enter Tryd.func51, Tryd.ntmps51
  go_wp2_with fail
  go_ret
  refine ⟨?_, past_alloc8 _ _⟩
  show _ = Ending.returned (.int .i64 ((5 + a.size + b.size : Nat) : Int))
  congr 2
  try omega

/-- The offset of a name. -/
def nmP (l : List P2) : Nat → Nat
  | 0 => 2
  | i + 1 => nmP l i + (plenN (l.getD i default) + 1)
theorem nmP_mono (l : List P2) (i : Nat) : ∀ k, nmP l i ≤ nmP l (i + k)
  | 0 => Nat.le_refl _
  | k + 1 => Nat.le_trans (nmP_mono l i k) (by rw [← Nat.add_assoc]; show _ ≤ nmP l (i + k) + _; omega)
/-- The length of the text of pairs. -/
def lenP (l : List P2) : Nat → Nat
  | 0 => 2 + (l.length - 1)
  | i + 1 => lenP l i + plenN (l.getD i default)
def lenL (l : List P2) : Nat := lenP l l.length
theorem lenP_mono (l : List P2) (i : Nat) : ∀ k, lenP l i ≤ lenP l (i + k)
  | 0 => Nat.le_refl _
  | k + 1 => Nat.le_trans (lenP_mono l i k) (by rw [← Nat.add_assoc]; show _ ≤ lenP l (i + k) + _; omega)
theorem nmP_lenP (l : List P2) : ∀ i, nmP l i + (l.length - 1) = lenP l i + i
  | 0 => by show 2 + _ = 2 + _ + 0; omega
  | i + 1 => by
    have := nmP_lenP l i
    show nmP l i + (plenN (l.getD i default) + 1) + _ = lenP l i + plenN (l.getD i default) + (i + 1)
    omega

set_option maxRecDepth 100000 in
theorem slice0_11 (A : Option Addr) (n c k : Nat) (hk : k ≤ n) (hc : n ≤ c) : ∃ X, (∀ w, (Instr.slice 24 (.slice A n c) none (some (.int .i64 (k : Int))) none).run Tryd.prog w = .ok (.slice X k c) w) ∧ ∀ b o, A = some ⟨b, o, none⟩ → X = A := by
  refine ⟨(if c = 0 then A else A.map (·.add (0 * 2))), fun w => ?_, fun b o e => ?_⟩
  · rw [run_slice_h w 24 A n c Tryd.underlying24 .i64 (k : Int) (by omega) (by omega)]
    have hs : (sizeOf (Tryd.prog.elem 24)).run Tryd.prog w = .ok 2 w := by kernel_rfl
    rw [hs]
    simp only [Result.andThen, sliced, Int.toNat_natCast, Nat.sub_zero]
  · subst e
    split
    · rfl
    · rw [Option.map_some, add_none]
      simp

set_option maxHeartbeats 2000000 in
theorem nameAt_any (A : Option Addr) (n c : Nat) (l : List P2) (k : Nat) (w : World) (h : Ps w A n c l) (hk : k ≤ n) (hs : lenL l ≤ 100000000) (hn : n ≤ 100000000) : Calls Tryd.prog 46 #[.slice A n c, .int .i64 (k : Int)] w fun e w' => e = .returned (.int .i64 (nmP l k : Int)) ∧ Past w w' := by
  have HP := Lib.hid h
  have HL := Lib.hid h.len
  have hcap := h.cap
  have hbig := h.big
  have HS : Hid (∀ i, i ≤ n → nmP l i ≤ 200000000) := Lib.hid fun i hi => by
    have h1 := nmP_lenP l i
    have h2 := lenP_mono l i (n - i)
    rw [show i + (n - i) = n by omega] at h2
    unfold lenL at hs
    rw [HL.out] at hs h1
    omega
  obtain ⟨X, hsl1, hX⟩ := slice0_11 A n c k hk hcap
  have HX := Lib.hid hX
  have hkb : (k : Int) ≤ 100000000 := by omega
  clear h hX hs hbig hcap
  go_enter Tryd.func46, Tryd.ntmps46
  go_wp2_with fail
  go_loopg [5, 7, 12] k (fun q s5 s7 s12 wx => ∃ i : Nat, i ≤ k ∧ q = k - i ∧ s5 = .int .i64 (nmP l i : Int) ∧ s12 = .int .i64 (i : Int) ∧ Hid (Past w wx))
  case atStart => exact ⟨0, Nat.zero_le _, rfl, rfl, rfl, Lib.hid (Below.refl _ _)⟩
  case round =>
    obtain ⟨i, hi, hgk, rfl, rfl, HQ⟩ := hrel
    have HGK := Lib.hid hgk
    clear hgk
    by_cases hlt : i < k
    · have hli : (i : Int) < (k : Int) := by omega
      obtain ⟨b, o, rfl, hc⟩ := HP.out.cells (by omega)
      obtain rfl := HX.out b o rfl
      obtain ⟨f0, f1⟩ := hc i (by omega)
      rw [← Below.cell HQ.out (cell_lt f0)] at f0
      rw [← Below.cell HQ.out (cell_lt f1)] at f1
      have HLT := Lib.hid hlt
      have hi0 : (0 : Int) ≤ (i : Int) := by omega
      have hz := HS.out (i + 1) (by omega)
      have hz2 : nmP l (i + 1) = nmP l i + (plenN (l.getD i default) + 1) := rfl
      obtain ⟨p, hp⟩ : ∃ p, l.getD i default = p := ⟨_, rfl⟩
      rw [hp] at f0 f1 hz2
      obtain ⟨a, b'⟩ := p
      have hpl : plenN (a, b') = 5 + a.size + b'.size := rfl
      have HC := Lib.hid (fun w => plen_any a b' w (by omega) (by omega))
      obtain ⟨m, hm⟩ : ∃ m, plenN (a, b') = m := ⟨_, rfl⟩
      rw [hm] at HC hz2
      obtain ⟨z, hzz⟩ : ∃ z, nmP l i = z := ⟨_, rfl⟩
      have HZ : Hid (nmP l (i + 1) = z + (m + 1)) := Lib.hid (by rw [← hzz]; exact hz2)
      rw [hzz] at hz2 ⊢
      have hzb : (z : Int) ≤ 200000000 := by omega
      have hmb : (m : Int) ≤ 200000000 := by omega
      have hz0 : (0 : Int) ≤ (z : Int) := by omega
      have hm0 : (0 : Int) ≤ (m : Int) := by omega
      clear hc hlt hp hz hz2 hpl hm hzz hi
      go_wp2_with fail
      refine (HC.out _).mono ?_
      rintro e w' ⟨rfl, hp'⟩
      have HP' : Hid (Past w w') := Lib.hid ((HQ.out.trans' (past_alloc8 _ _)).trans' hp')
      clear hp'
      go_wp2_with fail
      go_roundg (k - (i + 1))
      case rel => exact ⟨i + 1, by have := HLT.out; omega, rfl, by rw [HZ.out]; go_num, by go_num, HP'⟩
      case measure => have := HGK.out; have := HLT.out; omega
    · obtain rfl : i = k := by omega
      have hli : ¬ (i : Int) < (i : Int) := by omega
      clear hlt hi
      go_wp2_with fail
      go_ret
      exact ⟨rfl, HQ.out⟩

end Go.Proofs.YtclnoblcdaimiaaDoor
