/- The fixed results that the laws ask for first: the contract of awake. -/
import Derived.Test.YtnfdfnlmckeebaaRef
namespace Go.Proofs.Ytnfdfnlmckeebaa
open Go.RowKit

/-- A meter of a call's own. -/
def Own (w0 w : World) (g : Nat) (B c : Int) : Prop := Past w0 w ∧ Mt w g B c ∧ w0.heap.size ≤ g ∧ 0 ≤ c ∧ c ≤ B ∧ B ≤ top
section
variable {w0 w w' : World} {g : Nat} {B c n : Int}
theorem Own.add_ok (h : Own w0 w g B c) (hp : 0 ≤ n) (hn : n ≤ B - c) :
    Calls Try.prog 10 #[.pointer (some ⟨g, 0, none⟩), .int .i64 n] w fun e w' => e = .returned (.bool true) ∧ Own w0 w' g B (c + n) := by
  obtain ⟨h1, h2, h3, h4, h5, h6⟩ := h
  refine (_root_.Go.Proofs.Ytnfdfnlmckeebaa.add_ok h2 h4 h5 h6 hp hn).mono ?_
  rintro e w' ⟨rfl, rfl⟩
  exact ⟨rfl, h1.setCell h3 _, h2.set _, h3, by omega, by omega, h6⟩
theorem Own.add_no (h : Own w0 w g B c) (hn : n < 0 ∨ B - c < n) :
    Calls Try.prog 10 #[.pointer (some ⟨g, 0, none⟩), .int .i64 n] w fun e w' => e = .returned (.bool false) ∧ w = w' := by
  obtain ⟨h1, h2, h3, h4, h5, h6⟩ := h
  by_cases hp : n < 0
  · exact add_neg hp
  · exact add_big h2 h4 h5 h6 (by omega) (by omega)
theorem Own.drewN (h : Own w0 w g B c) (m : Nat) : Own w0 (w.drewN m) g B c := ⟨h.1.drewN m, h.2.1, h.2.2.1, h.2.2.2⟩
theorem Own.later (h : Own w0 w g B c) (hp : Past w w') : Own w0 w' g B c := ⟨h.1.trans' hp, h.2.1.past hp, h.2.2⟩
theorem Own.made (h : Past w0 w) (b : Int) : Own w0 (w.alloc (.cells #[.int .i64 0, .int .i64 (clamp b)] 42)) w.heap.size (clamp b) 0 :=
  ⟨h.trans' ((Below.refl _ _).alloc (Nat.le_refl _) _), Mt.new w _ rfl, h.size, by omega, (clamp_rng b).1, (clamp_rng b).2⟩
theorem Own.count (h : Own w0 w g B c) : Calls Try.prog 11 #[.pointer (some ⟨g, 0, none⟩)] w fun e w' => e = .returned (.int .i64 c) ∧ w = w' := count_any h.2.1
theorem Own.left (h : Own w0 w g B c) : Calls Try.prog 12 #[.pointer (some ⟨g, 0, none⟩)] w fun e w' => e = .returned (.int .i64 (B - c)) ∧ ∃ m, w' = w.drewN m :=
  left_any h.2.1 h.2.2.2.1 h.2.2.2.2.1 h.2.2.2.2.2
theorem Own.full (h : Own w0 w g B c) : Calls Try.prog 13 #[.pointer (some ⟨g, 0, none⟩)] w fun e w' => e = .returned (.bool (fullB B c)) ∧ ∃ m, w' = w.drewN m :=
  full_any h.2.1 h.2.2.2.1 h.2.2.2.2.1 h.2.2.2.2.2
end

theorem new_ten (w : World) : Calls Try.prog 6 #[.int .i64 10] w fun e w' => ∃ g, e = .returned (.pointer (some ⟨g, 0, none⟩)) ∧ Own w w' g 10 0 :=
  (new_any 10 w).mono fun _ _ ⟨he, hw⟩ => ⟨_, he, hw ▸ Own.made (Below.refl _ w) 10⟩

set_option maxHeartbeats 1000000 in
theorem awake_any (w : World) : Calls Try.prog 7 #[] w fun e w' => e = .returned (.bool true) ∧ Past w w' := by
  go_enter Try.func7, Try.ntmps7
  go_wp2_with fail
  refine (new_ten _).mono ?_
  rintro e w1 ⟨g, rfl, h⟩
  have H := Lib.hid h
  clear h
  go_wp2_with fail
  refine (H.out.add_ok (n := 7) (by omega) (by omega)).mono ?_
  rintro e w2 ⟨rfl, h⟩
  replace H := Lib.hid h
  clear h
  go_wp2_with fail
  refine (H.out.add_no (n := 4) (by omega)).mono ?_
  rintro e w' ⟨rfl, rfl⟩
  go_wp2_with fail
  refine (H.out.add_ok (n := 3) (by omega) (by omega)).mono ?_
  rintro e w3 ⟨rfl, h⟩
  replace H := Lib.hid h
  clear h
  go_wp2_with fail
  refine (H.out.count).mono ?_
  rintro e w' ⟨rfl, rfl⟩
  go_wp2_with fail
  refine (H.out.left).mono ?_
  rintro e w' ⟨rfl, m, rfl⟩
  replace H := Lib.hid (H.out.drewN m)
  generalize w3.drewN m = w4 at H ⊢
  go_wp2_with fail
  refine (H.out.full).mono ?_
  rintro e w' ⟨rfl, m, rfl⟩
  replace H := Lib.hid (H.out.drewN m)
  generalize w4.drewN m = w5 at H ⊢
  go_wp2_with fail
  have hr : Row (w5.alloc (.cells #[.pointer (some ⟨g, 0, none⟩)] 23)) w5.heap.size 23 #[.pointer (some ⟨g, 0, none⟩)] := Row.new w5 _ _
  have hp5 : Past w5 (w5.alloc (.cells #[.pointer (some ⟨g, 0, none⟩)] 23)) := (Below.refl _ _).alloc (Nat.le_refl _) _
  have HR := Lib.hid hr
  replace H := Lib.hid (H.out.later hp5)
  clear hr hp5
  refine (sum_one H.out.2.1 HR.out (by omega) (by omega) (by unfold top; omega)).mono ?_
  rintro e w' ⟨rfl, rfl⟩
  go_wp2_with fail
  refine (add_nil 5 _).mono ?_
  rintro e w' ⟨rfl, rfl⟩
  go_wp2_with fail
  refine (count_nil _).mono ?_
  rintro e w' ⟨rfl, rfl⟩
  go_wp2_with fail
  refine (full_nil _).mono ?_
  rintro e w' ⟨rfl, m2, rfl⟩
  go_wp2_with fail
  go_ret
  exact ⟨rfl, (H.out.1).drewN m2⟩

end Go.Proofs.Ytnfdfnlmckeebaa
