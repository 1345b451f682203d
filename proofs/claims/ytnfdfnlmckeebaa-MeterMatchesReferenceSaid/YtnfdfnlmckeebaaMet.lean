/- Contracts of package meter in the run of one goroutine: New, Add, Count, Left, Full and Sum. -/
import Derived.Test.YtnfdfnlmckeebaaRows
import Derived.Test.YtnfdfnlmckeebaaBase
import Derived.Deep.QuietTactic
import Derived.BigQuiet
import Derived.Laws.LoneSync
import Derived.WalkLawsBesides
namespace Go.Proofs.Ytnfdfnlmckeebaa
open Go.RowKit

def top : Int := 4611686018427387904
theorem top_eq : top = 4611686018427387904 := rfl
/-- The budget of a meter that is made with b. -/
def clamp (b : Int) : Int := if b < 0 then 0 else if top < b then top else b
theorem clamp_rng (b : Int) : 0 ≤ clamp b ∧ clamp b ≤ 4611686018427387904 := by unfold clamp top; split <;> (try split) <;> omega
theorem clamp_neg {b : Int} (h : b < 0) : clamp b = 0 := if_pos h
theorem clamp_big {b : Int} (h : top < b) : clamp b = top := by unfold clamp; rw [if_neg (by unfold top at h; omega), if_pos h]
theorem clamp_mid {b : Int} (h : 0 ≤ b) (h' : b ≤ top) : clamp b = b := by unfold clamp; rw [if_neg (by omega), if_neg (by omega)]

/-- Block g is a meter with the budget B and the count c. -/
def Mt (w : World) (g : Nat) (B c : Int) : Prop := Row w g 42 #[.int .i64 c, .int .i64 B]
section
variable {w w' : World} {g : Nat} {B c : Int}
theorem Mt.c0 (h : Mt w g B c) : w.cell? ⟨g, 0, none⟩ = some (.int .i64 c) := Row.cell h 0
theorem Mt.c1 (h : Mt w g B c) : w.cell? ⟨g, 1, none⟩ = some (.int .i64 B) := Row.cell h 1
theorem Mt.fr (h : Mt w g B c) (i : Nat) : w.frozen? ⟨g, i, none⟩ = false := Row.fr h i
theorem Mt.lt (h : Mt w g B c) : g < w.heap.size := Row.lt h
theorem Mt.drewN (h : Mt w g B c) (m : Nat) : Mt (w.drewN m) g B c := h
theorem Mt.past (h : Mt w g B c) (hb : Past w w') : Mt w' g B c := Row.past h hb
theorem Mt.alloc (h : Mt w g B c) (o : Obj) : Mt (w.alloc o) g B c := Row.alloc h o
theorem Mt.set (h : Mt w g B c) (x : Int) : Mt (w.setCell ⟨g, 0, none⟩ (.int .i64 x)) g B x := Row.set h 0 _
theorem Mt.far (h : Mt w g B c) {a : Addr} (ha : a.block ≠ g) (v : Value) : Mt (w.setCell a v) g B c := by
  unfold Mt Row at h ⊢
  rw [Below.heap_setCell w a v g (fun e => ha e.symm)]
  exact h
theorem Mt.new (w : World) (B : Int) {g : Nat} (hg : g = w.heap.size) : Mt (w.alloc (.cells #[.int .i64 0, .int .i64 B] 42)) g B 0 := by
  subst hg
  exact Row.new w _ _
end

theorem new_any (b : Int) (w : World) : Calls Try.prog 6 #[.int .i64 b] w fun e w' =>
    e = .returned (.pointer (some ⟨w.heap.size, 0, none⟩)) ∧ w' = w.alloc (.cells #[.int .i64 0, .int .i64 (clamp b)] 42) := by
  by_cases h0 : b < 0
  · rw [clamp_neg h0]
    go_enter Try.func6, Try.ntmps6
    go_wp2
    go_ret
    exact ⟨rfl, rfl⟩
  · by_cases h1 : 4611686018427387904 < b
    · rw [clamp_big h1]
      unfold top
      go_enter Try.func6, Try.ntmps6
      go_wp2
      go_ret
      exact ⟨rfl, rfl⟩
    · rw [clamp_mid (by omega) (by unfold top; omega)]
      go_enter Try.func6, Try.ntmps6
      go_wp2
      go_ret
      exact ⟨rfl, rfl⟩

theorem load_any {w : World} {g : Nat} {B c : Int} (h : Mt w g B c) : Calls Try.prog 15 #[.pointer (some ⟨g, 0, none⟩)] w fun e w' => e = .returned (.int .i64 c) ∧ w = w' := by
  have hld := run_call_load (P := Try.prog) Try.func17 (by kernel_rfl) (by kernel_rfl) (by kernel_rfl) .i64 (by kernel_rfl) h.c0
  have c0 := h.c0
  clear h
  go_enter Try.func15, Try.ntmps15
  go_wp2
  go_ret
  exact ⟨rfl, rfl⟩

theorem cas_any {w : World} {g : Nat} {B c : Int} (h : Mt w g B c) (x : Int) : Calls Try.prog 16 #[.pointer (some ⟨g, 0, none⟩), .int .i64 c, .int .i64 x] w fun e w' => e = .returned (.bool true) ∧ w' = w.setCell ⟨g, 0, none⟩ (.int .i64 x) := by
  have hld := run_call_cas_hit (P := Try.prog) Try.func18 (by kernel_rfl) (by kernel_rfl) (by kernel_rfl) .i64 (by kernel_rfl) (y := x) h.c0 (h.fr 0)
  have c0 := h.c0
  clear h
  go_enter Try.func16, Try.ntmps16
  go_wp2
  go_ret
  exact ⟨rfl, rfl⟩

theorem add_nil (n : Int) (w : World) : Calls Try.prog 10 #[.pointer none, .int .i64 n] w fun e w' => e = .returned (.bool true) ∧ w = w' := by
  go_enter Try.func10, Try.ntmps10
  go_wp2
  go_ret
  exact ⟨rfl, rfl⟩
theorem add_neg {w : World} {g : Nat} {n : Int} (hn : n < 0) : Calls Try.prog 10 #[.pointer (some ⟨g, 0, none⟩), .int .i64 n] w fun e w' => e = .returned (.bool false) ∧ w = w' := by
  go_enter Try.func10, Try.ntmps10
  go_wp2
  go_ret
  exact ⟨rfl, rfl⟩
theorem add_big {w : World} {g : Nat} {B c n : Int} (h : Mt w g B c) (h0 : 0 ≤ c) (hB : c ≤ B) (ht : B ≤ top) (hp : 0 ≤ n) (hn : B - c < n) :
    Calls Try.prog 10 #[.pointer (some ⟨g, 0, none⟩), .int .i64 n] w fun e w' => e = .returned (.bool false) ∧ w = w' := by
  have c0 := h.c0
  have c1 := h.c1
  unfold top at ht
  have H := Lib.hid h
  clear h
  go_enter Try.func10, Try.ntmps10
  go_wp2
  refine wp_loop_rounds 1 ?_
  rw [rounds_succ]
  go_wp2_with (go_at_call 15; refine (load_any H.out).mono ?_; rintro e w' ⟨rfl, rfl⟩)
  go_ret
  exact ⟨rfl, rfl⟩
theorem add_ok {w : World} {g : Nat} {B c n : Int} (h : Mt w g B c) (h0 : 0 ≤ c) (hB : c ≤ B) (ht : B ≤ top) (hp : 0 ≤ n) (hn : n ≤ B - c) :
    Calls Try.prog 10 #[.pointer (some ⟨g, 0, none⟩), .int .i64 n] w fun e w' => e = .returned (.bool true) ∧ w' = w.setCell ⟨g, 0, none⟩ (.int .i64 (c + n)) := by
  have c0 := h.c0
  have c1 := h.c1
  unfold top at ht
  have hcn : c + n ≤ 4611686018427387904 := by omega
  have H := Lib.hid h
  clear h
  go_enter Try.func10, Try.ntmps10
  go_wp2
  refine wp_loop_rounds 1 ?_
  rw [rounds_succ]
  go_wp2_with (first
    | (go_at_call 15; refine (load_any H.out).mono ?_; rintro e w' ⟨rfl, rfl⟩)
    | (go_at_call 16; refine (cas_any H.out _).mono ?_; rintro e w' ⟨rfl, rfl⟩))
  go_ret
  exact ⟨rfl, rfl⟩

theorem count_nil (w : World) : Calls Try.prog 11 #[.pointer none] w fun e w' => e = .returned (.int .i64 0) ∧ w = w' := by
  go_enter Try.func11, Try.ntmps11
  go_wp2
  go_ret
  exact ⟨rfl, rfl⟩
theorem count_any {w : World} {g : Nat} {B c : Int} (h : Mt w g B c) : Calls Try.prog 11 #[.pointer (some ⟨g, 0, none⟩)] w fun e w' => e = .returned (.int .i64 c) ∧ w = w' := by
  have c0 := h.c0
  have H := Lib.hid h
  clear h
  go_enter Try.func11, Try.ntmps11
  go_wp2_with (go_at_call 15; refine (load_any H.out).mono ?_; rintro e w' ⟨rfl, rfl⟩)
  go_ret
  exact ⟨rfl, rfl⟩
theorem quiet_eq {P : Program} {f : FuncId} {args : Array Value} {w : World} {n : Nat} {v : Value}
    (h : Calls P f args (w.drewN n) fun e w' => e = .returned v ∧ w.drewN n = w') : Calls P f args (w.drewN n) fun e w'' => e = .returned v ∧ ∃ m, w'' = w.drewN m :=
  h.mono fun _ _ ⟨he, hm⟩ => ⟨he, n, hm.symm⟩
theorem left_any {w : World} {g : Nat} {B c : Int} (h : Mt w g B c) (h0 : 0 ≤ c) (hB : c ≤ B) (ht : B ≤ top) :
    Calls Try.prog 12 #[.pointer (some ⟨g, 0, none⟩)] w fun e w' => e = .returned (.int .i64 (B - c)) ∧ ∃ m, w' = w.drewN m := by
  have c0 := h.c0
  have c1 := h.c1
  unfold top at ht
  have H := Lib.hid h
  clear h
  go_enter Try.func12, Try.ntmps12
  go_wp2
  go_quiet ((go_at_call 15; exact quiet_eq (load_any (H.out.drewN _))))
  go_wp2
  go_ret
  exact ⟨rfl, _, rfl⟩

def fullB (B c : Int) : Bool := decide (B - c = 0)
theorem full_any {w : World} {g : Nat} {B c : Int} (h : Mt w g B c) (h0 : 0 ≤ c) (hB : c ≤ B) (ht : B ≤ top) :
    Calls Try.prog 13 #[.pointer (some ⟨g, 0, none⟩)] w fun e w' => e = .returned (.bool (fullB B c)) ∧ ∃ m, w' = w.drewN m := by
  have hl := left_any h h0 hB ht
  have e1 : (B - c == 0) = fullB B c := by unfold fullB; exact Bool.beq_eq_decide_eq _ _
  generalize fullB B c = r at e1 ⊢
  have H := Lib.hid hl
  clear hl h h0 hB ht
  generalize B - c = d at H e1
  go_enter Try.func13, Try.ntmps13
  go_wp2_with (go_at_call 12; refine H.out.mono ?_; rintro e w' ⟨rfl, m, rfl⟩)
  go_ret
  exact ⟨rfl, _, rfl⟩
theorem full_nil (w : World) : Calls Try.prog 13 #[.pointer none] w fun e w' => e = .returned (.bool false) ∧ ∃ m, w' = w.drewN m := by
  go_enter Try.func13, Try.ntmps13
  go_wp2
  go_ret
  exact ⟨rfl, 0, rfl⟩

/-- The sum of one meter, out of a slice of one cell. -/
theorem sum_one {w : World} {g h : Nat} {B c : Int} {t : TypeId} (hm : Mt w g B c) (hr : Row w h t #[.pointer (some ⟨g, 0, none⟩)]) (h0 : 0 ≤ c) (hB : c ≤ B) (ht : B ≤ top) :
    Calls Try.prog 14 #[.slice (some ⟨h, 0, none⟩) 1 1] w fun e w' => e = .returned (.int .i64 c) ∧ w = w' := by
  unfold top at ht
  have hc := hr.cell 0
  have hcc : c ≤ 4611686018427387904 := by omega
  have H := Lib.hid hm
  clear hm hr
  go_enter Try.func14, Try.ntmps14
  go_wp2
  refine wp_loop_rounds 2 ?_
  rw [rounds_succ]
  go_wp2_with (go_at_call 11; refine (count_any H.out).mono ?_; rintro e w' ⟨rfl, rfl⟩)
  rw [rounds_succ]
  go_wp2
  go_ret
  exact ⟨rfl, rfl⟩

end Go.Proofs.Ytnfdfnlmckeebaa
