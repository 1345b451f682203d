/- The fixed results that the laws ask for first: the contract of awake. -/
import Derived.Test.YtclfnpggllgepaaJoin
namespace Go.Proofs.Ytclfnpggllgepaa
open Go.RowKit

theorem dec_ok1 : rdec 1 ⟨#[47, 119, 61, 61]⟩ = some [255] := by
  have h := rdec_renc (al := 1) rfl [255] (by decide)
  have e : txt (renc 1 [255] ([255] : List Int).length) = ⟨#[47, 119, 61, 61]⟩ := by kernel_rfl
  rwa [e] at h
theorem dec_no1 : rdec 1 ⟨#[47, 120, 61, 61]⟩ = none := by
  cases hd : rdec 1 ⟨#[47, 120, 61, 61]⟩ with
  | none => rfl
  | some xs =>
    exfalso
    have h : decide (rdec 1 ⟨#[47, 120, 61, 61]⟩ = none) = true := by
      unfold rdec
      rw [if_pos]
      · rfl
      · right
        right
        have e : decide (txt (renc 1 (routs 1 (ints ⟨#[47, 120, 61, 61]⟩) (nout (slen 1 (ints ⟨#[47, 120, 61, 61]⟩)))) (nout (slen 1 (ints ⟨#[47, 120, 61, 61]⟩)))) ≠ ⟨#[47, 120, 61, 61]⟩) = true := by kernel_rfl
        exact of_decide_eq_true e
    rw [hd] at h
    cases h
theorem enc_ok1 : txt (renc 1 [255] 1) = ⟨#[47, 119, 61, 61]⟩ := by kernel_rfl
theorem enc_ok2 : txt (renc 2 [255] 1) = ⟨#[95, 119]⟩ := by kernel_rfl

theorem digit_63 (w : World) : Calls Try.prog 15 #[.int .i64 2, .int .i64 63] w fun e w' => e = .returned (.tuple #[.int .u8 95, .bool true]) ∧ w = w' := pdigit_any 2 63 w
theorem value_43 (w : World) : Calls Try.prog 16 #[.int .i64 1, .int .u8 43] w fun e w' => e = .returned (.tuple #[.int .i64 62, .bool true]) ∧ w = w' := by
  have h := pvalue_any 1 43 (by decide) (by decide) w
  have e : rval 1 43 = 62 := by kernel_rfl
  rw [e] at h
  exact h
theorem one_slice (w : World) (x : Int) (h0 : 0 ≤ x) (h1 : x < 256) : Sl (w.alloc (.cells #[.int .u8 x] 5)) (some ⟨w.heap.size, 0, none⟩) 1 1 [x] := by
  refine ⟨rfl, Nat.le_refl _, by unfold maxLen; omega, fun _ => ⟨w.heap.size, 0, rfl, fun i hi => ?_⟩, by simp; omega, fun e => by cases e⟩
  obtain rfl : i = 0 := by omega
  exact (Row.new w 5 #[.int .u8 x]).cell 0
theorem past_alloc (w : World) (o : Obj) : Past w (w.alloc o) := (Below.refl _ _).alloc (Nat.le_refl _) _

set_option maxHeartbeats 1000000 in
theorem awake_any (w : World) : Calls Try.prog 8 #[] w fun e w' => e = .returned (.bool true) ∧ Past w w' := by
  have HD1 := Lib.hid (pdecode_any 1 ⟨#[47, 119, 61, 61]⟩ w (by decide))
  have HD2 := fun w => Lib.hid (pdecode_any 1 ⟨#[47, 120, 61, 61]⟩ w (by decide))
  rw [dec_ok1] at HD1
  simp only [dec_no1] at HD2
  go_enter Try.func8, Try.ntmps8
  go_wp2_with fail
  refine HD1.out.mono ?_
  rintro e w1 ⟨A, n, c, rfl, hs, hp⟩
  have H1 := Lib.hid (And.intro hs hp)
  obtain rfl : n = 1 := by have := hs.len; simpa using this.symm
  clear hs hp HD1
  go_wp2_with fail
  refine (HD2 _).out.mono ?_
  rintro e w2 ⟨rfl, hp⟩
  replace H1 := Lib.hid (And.intro (H1.out.1.past hp) (H1.out.2.trans' hp))
  clear hp HD2
  go_wp2_with fail
  refine (digit_63 _).mono ?_
  rintro e w' ⟨rfl, rfl⟩
  go_wp2_with fail
  refine (value_43 _).mono ?_
  rintro e w' ⟨rfl, rfl⟩
  go_wp2_with fail
  have E1 := pencode_any 1 _ 1 1 [255] _ (one_slice w2 255 (by decide) (by decide)) (by decide)
  rw [enc_ok1] at E1
  have HE1 := Lib.hid E1
  clear E1
  refine HE1.out.mono ?_
  rintro e w3 ⟨rfl, hp⟩
  replace H1 := Lib.hid (And.intro (H1.out.1.past ((past_alloc _ _).trans' hp)) (H1.out.2.trans' ((past_alloc _ _).trans' hp)))
  clear hp HE1
  go_wp2_with fail
  have E1 := pencode_any 2 _ 1 1 [255] _ (one_slice w3 255 (by decide) (by decide)) (by decide)
  rw [enc_ok2] at E1
  have HE1 := Lib.hid E1
  clear E1
  refine HE1.out.mono ?_
  rintro e w4 ⟨rfl, hp⟩
  replace H1 := Lib.hid (And.intro (H1.out.1.past ((past_alloc _ _).trans' hp)) (H1.out.2.trans' ((past_alloc _ _).trans' hp)))
  clear hp HE1
  go_wp2_with fail
  refine (rsame_self _ _ 1 c 1 [255] _ (H1.out.1.past (past_alloc _ _)) (one_slice w4 255 (by decide) (by decide))).mono ?_
  rintro e w' ⟨rfl, m, rfl⟩
  replace H1 := Lib.hid ((H1.out.2.trans' (past_alloc w4 (.cells #[.int .u8 255] 5))).drewN m)
  go_wp2_with fail
  refine (length_any 1 1 (by decide) _).mono ?_
  rintro e w' ⟨rfl, rfl⟩
  go_wp2_with fail
  refine (length_any 2 1 (by decide) _).mono ?_
  rintro e w' ⟨rfl, rfl⟩
  go_wp2_with fail
  go_ret
  exact ⟨rfl, H1.out⟩

end Go.Proofs.Ytclfnpggllgepaa
