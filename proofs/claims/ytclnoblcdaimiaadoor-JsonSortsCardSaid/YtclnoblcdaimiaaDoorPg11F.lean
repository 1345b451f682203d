/- The program's Get and the text of a pair; whether all bytes are of a kind; whether a pair is one. -/
import Derived.Test.YtclnoblcdaimiaaDoorPg11D
namespace Go.Proofs.YtclnoblcdaimiaaDoor
open Go.RowKit
set_option linter.unusedVariables false

/-- The value of the first pair with a name. -/
def fName (l : List P2) (s : ByteArray) : Option Nat := firstF (fun i => decide ((l.getD i default).1 = s)) l.length
def getV (l : List P2) (s : ByteArray) : Value := match fName l s with
  | none => .tuple #[.string ⟨#[]⟩, .bool false]
  | some i => .tuple #[.string (l.getD i default).2, .bool true]
set_option maxHeartbeats 2000000 in
theorem get11_any (A : Option Addr) (n c : Nat) (l : List P2) (s : ByteArray) (w : World) (h : Ps w A n c l) :
    Calls Tryd.prog 22 #[.slice A n c, .string s] w fun e w' => e = .returned (getV l s) ∧ Past w w' := by
  have HP := Lib.hid h
  have HL := Lib.hid h.len
  have hbig : (n : Int) ≤ 9223372036854775807 := by
    have h1 := h.cap
    have h2 := h.big
    unfold maxLen at h2
    omega
  clear h
  go_enter Tryd.func22, Tryd.ntmps22
  go_wp2_with fail
  go_loopg [7, 10] n (fun q s7 s10 wx => ∃ i : Nat, i ≤ n ∧ q = n - i ∧ s10 = .int .i64 (i : Int) ∧ Hid ((∀ j, j < i → decide ((l.getD j default).1 = s) = false) ∧ Past w wx))
  case atStart => exact ⟨0, Nat.zero_le _, rfl, rfl, Lib.hid ⟨fun j hj => absurd hj (Nat.not_lt_zero j), Below.refl _ _⟩⟩
  case round =>
    obtain ⟨i, hi, hgk, rfl, HQ⟩ := hrel
    have HGK := Lib.hid hgk
    clear hgk
    by_cases hlt : i < n
    · have hli : (i : Int) < (n : Int) := by omega
      obtain ⟨b, o, rfl, hc⟩ := HP.out.cells (by omega)
      obtain ⟨f0, f1⟩ := hc i (by omega)
      rw [← Below.cell HQ.out.2 (cell_lt f0)] at f0
      rw [← Below.cell HQ.out.2 (cell_lt f1)] at f1
      have HLT := Lib.hid hlt
      have hi0 : (0 : Int) ≤ (i : Int) := by omega
      obtain ⟨p, hp⟩ : ∃ p, l.getD i default = p := ⟨_, rfl⟩
      rw [hp] at f0 f1
      obtain ⟨a, b'⟩ := p
      have HPE := Lib.hid hp
      clear hc hlt hp hi
      by_cases he : a = s
      · subst he
        have HF : Hid (getV l a = .tuple #[.string b', .bool true]) := Lib.hid (by
          have : fName l a = some i := firstF_some (by rw [HL.out]; exact HLT.out) (by rw [HPE.out]; exact decide_eq_true rfl) HQ.out.1
          unfold getV
          rw [this]
          simp only
          rw [HPE.out])
        have HP' : Hid (Past w _) := Lib.hid (HQ.out.2.trans' (past_alloc8 _ (.cells #[.string a, .string b'] 54)))
        go_wp2_with fail
        go_ret2
        rw [HF.out]
        exact ⟨rfl, HP'.out⟩
      · have hbb := bneS he
        have HR : Hid (∀ j, j < i + 1 → decide ((l.getD j default).1 = s) = false) := Lib.hid fun j hj => by
          by_cases hji : j = i
          · rw [hji, HPE.out]; exact decide_eq_false he
          · exact HQ.out.1 j (by omega)
        have HP' : Hid (Past w _) := Lib.hid (HQ.out.2.trans' (past_alloc8 _ (.cells #[.string a, .string b'] 54)))
        go_wp2_with fail
        go_roundg (n - (i + 1))
        case rel => exact ⟨i + 1, by have := HLT.out; omega, rfl, by go_num, Lib.hid ⟨HR.out, HP'.out⟩⟩
        case measure => have := HGK.out; have := HLT.out; omega
    · obtain rfl : i = n := by omega
      have hli : ¬ (i : Int) < (i : Int) := by omega
      have HF : Hid (getV l s = .tuple #[.string ⟨#[]⟩, .bool false]) := Lib.hid (by
        have : fName l s = none := firstF_none fun j hj => HQ.out.1 j (by rw [HL.out] at hj; exact hj)
        unfold getV
        rw [this])
      clear hlt hi
      go_wp2_with fail
      go_ret2
      rw [HF.out]
      exact ⟨rfl, HQ.out.2⟩

/-- The text of a pair. -/
def encB (p : P2) : ByteArray := ⟨#[34]⟩ ++ p.1 ++ ⟨#[34, 58, 34]⟩ ++ p.2 ++ ⟨#[34]⟩
theorem encoding_any (a b : ByteArray) (w : World) (h : a.size + b.size ≤ 100000000) : Calls Tryd.prog 29 #[.agg #[.string a, .string b]] w fun e w' => e = .returned (.string (encB (a, b))) ∧ Past w w' := by
  have q1 : (⟨#[34]⟩ : ByteArray).size = 1 := rfl
  have q3 : (⟨#[34, 58, 34]⟩ : ByteArray).size = 3 := rfl
  obtain ⟨S0, hS0⟩ : ∃ X, (⟨#[34]⟩ : ByteArray) ++ a = X := ⟨_, rfl⟩
  have z0 : S0.size = 1 + a.size := by rw [← hS0, ByteArray.size_append, q1]
  obtain ⟨S2, hS2⟩ : ∃ X, S0 ++ ⟨#[34, 58, 34]⟩ = X := ⟨_, rfl⟩
  have z2 : S2.size = S0.size + 3 := by rw [← hS2, ByteArray.size_append, q3]
  obtain ⟨S3, hS3⟩ : ∃ X, S2 ++ b = X := ⟨_, rfl⟩
  have z3 : S3.size = S2.size + b.size := by rw [← hS3, ByteArray.size_append]
  obtain ⟨S4, hS4⟩ : ∃ X, S3 ++ ⟨#[34]⟩ = X := ⟨_, rfl⟩
  have HT : Hid (encB (a, b) = S4) := Lib.hid (by unfold encB; simp only; rw [hS0, hS2, hS3, hS4])
  have hadd0 := fun w : World => run_string_add_sum (P := Tryd.prog) (w := w) ⟨#[34]⟩ a (by omega)
  have hadd2 := fun w : World => run_string_add_sum (P := Tryd.prog) (w := w) S0 ⟨#[34, 58, 34]⟩ (by omega)
  have hadd3 := fun w : World => run_string_add_sum (P := Tryd.prog) (w := w) S2 b (by omega)
  have hadd4 := fun w : World => run_string_add_sum (P := Tryd.prog) (w := w) S3 ⟨#[34]⟩ (by omega)
  rw [hS0] at hadd0
  rw [hS2] at hadd2
  rw [hS3] at hadd3
  rw [hS4] at hadd4
  clear hS0 hS2 hS3 hS4 z0 z2 z3 q1 q3 h
  go_enter Tryd.func29, Tryd.ntmps29
  go_wp2_with fail
  go_ret
  exact ⟨by rw [HT.out]; rfl, past_alloc8 _ _⟩

/-- Whether all bytes are of a kind, for either kind. -/
theorem all_any (f : Nat) (F : Int → Bool) (hF : ∀ x w, Calls Tryd.prog f #[.int .u8 x] w fun e w' => e = .returned (.bool (F x)) ∧ w' = w)
    (eg : ∀ args w, (callFunc f args).run Tryd.prog w = .ok (.enter f args) w) (s : ByteArray) (hs : s.size ≤ 100000000) (w : World) :
    Calls Tryd.prog 52 #[.string s, .func (.func f) #[] #[]] w fun e w' => e = .returned (.bool ((ints s).all F)) ∧ Past w w' := by
  have HF := Lib.hid hF
  have hbig : (s.size : Int) ≤ 100000000 := by omega
  obtain ⟨n, hn⟩ : ∃ n, s.size = n := ⟨_, rfl⟩
  have HN := Lib.hid hn
  have HX := Lib.hid (fun k hk w => idx_str s k hk w)
  clear hF hs hn
  go_enter Tryd.func52, Tryd.ntmps52
  go_wp2_with fail
  rw [HN.out] at hbig ⊢
  go_loopg [5, 8] n (fun q s5 s8 wx => ∃ i : Nat, i ≤ n ∧ q = n - i ∧ s8 = .int .i64 (i : Int) ∧ Hid ((∀ j, j < i → F ((ints s).getD j 0) = true) ∧ Past w wx))
  case atStart => exact ⟨0, Nat.zero_le _, rfl, rfl, Lib.hid ⟨fun j hj => absurd hj (Nat.not_lt_zero j), Below.refl _ _⟩⟩
  case round =>
    obtain ⟨i, hi, hgk, rfl, HQ⟩ := hrel
    have HGK := Lib.hid hgk
    clear hgk
    by_cases hlt : i < n
    · have hli : (i : Int) < (n : Int) := by omega
      have HLT := Lib.hid hlt
      have hi0 : (0 : Int) ≤ (i : Int) := by omega
      have hx := fun w => HX.out i (by rw [HN.out]; exact hlt) w
      obtain ⟨x, hxe⟩ : ∃ x, (ints s).getD i 0 = x := ⟨_, rfl⟩
      rw [hxe] at hx
      have HXE := Lib.hid hxe
      have HFX := Lib.hid (HF.out x)
      clear hxe hlt hi
      cases hq : F x with
      | true =>
        rw [hq] at HFX
        have HR : Hid (∀ j, j < i + 1 → F ((ints s).getD j 0) = true) := Lib.hid fun j hj => by
          by_cases hji : j = i
          · rw [hji, HXE.out]; exact hq
          · exact HQ.out.1 j (by omega)
        clear hq
        go_wp2_with fail
        refine (HFX.out _).mono ?_
        rintro e w' ⟨rfl, rfl⟩
        go_wp2_with fail
        go_roundg (n - (i + 1))
        case rel => exact ⟨i + 1, by have := HLT.out; omega, rfl, by go_num, Lib.hid ⟨HR.out, HQ.out.2⟩⟩
        case measure => have := HGK.out; have := HLT.out; omega
      | false =>
        rw [hq] at HFX
        have HR : Hid ((ints s).all F = false) := Lib.hid (by
          rw [List.all_eq_false]
          have hl : i < (ints s).length := by rw [ints_len, HN.out]; exact HLT.out
          refine ⟨(ints s)[i], List.getElem_mem hl, ?_⟩
          have := HXE.out
          rw [List.getD_eq_getElem?_getD, List.getElem?_eq_getElem hl] at this
          rw [show (ints s)[i] = x from this, hq]
          decide)
        clear hq
        go_wp2_with fail
        refine (HFX.out _).mono ?_
        rintro e w' ⟨rfl, rfl⟩
        go_wp2_with fail
        go_ret
        exact ⟨by rw [HR.out]; rfl, HQ.out.2⟩
    · obtain rfl : i = n := by omega
      have hli : ¬ (i : Int) < (i : Int) := by omega
      have HR : Hid ((ints s).all F = true) := Lib.hid (by
        rw [List.all_eq_true]
        intro x hx
        obtain ⟨j, hj, rfl⟩ := List.getElem_of_mem hx
        have := HQ.out.1 j (by rw [ints_len, HN.out] at hj; exact hj)
        rwa [List.getD_eq_getElem?_getD, List.getElem?_eq_getElem hj] at this)
      clear hlt hi
      go_wp2_with fail
      go_ret
      exact ⟨by rw [HR.out]; rfl, HQ.out.2⟩
theorem allL_any (s : ByteArray) (hs : s.size ≤ 100000000) (w : World) : Calls Tryd.prog 52 #[.string s, .func (.func 53) #[] #[]] w fun e w' => e = .returned (.bool ((ints s).all letB)) ∧ Past w w' :=
  all_any _ letB (fun x w => pletter_any x w) (enters_of Tryd.func53 (by kernel_rfl) rfl) s hs w
theorem allT_any (s : ByteArray) (hs : s.size ≤ 100000000) (w : World) : Calls Tryd.prog 52 #[.string s, .func (.func 54) #[] #[]] w fun e w' => e = .returned (.bool ((ints s).all plainB)) ∧ Past w w' :=
  all_any _ plainB (fun x w => pplain_any x w) (enters_of Tryd.func54 (by kernel_rfl) rfl) s hs w

end Go.Proofs.YtclnoblcdaimiaaDoor
