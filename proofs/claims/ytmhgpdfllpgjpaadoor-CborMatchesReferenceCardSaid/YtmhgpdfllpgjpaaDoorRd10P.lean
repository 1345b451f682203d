/- The reference's Parse. -/
import Derived.Test.YtmhgpdfllpgjpaaDoorRd10O
namespace Go.Proofs.YtmhgpdfllpgjpaaDoor
open Go.RowKit
set_option linter.unusedVariables false

/-- A string that is too long. -/
theorem rparse10_long (A : Option Addr) (n c : Nat) (w : World) (hn : 1048576 < n) :
    Calls Tryd.prog 10 #[.slice A n c] w (ReadR (.bad 1 1048576) w) := by
  have hni : (1048576 : Int) < (n : Int) := by omega
  go_enter Tryd.func10, Tryd.ntmps10
  go_wp2_with fail
  go_returns
  exact ⟨rfl, past_alloc8 _ _⟩

set_option maxHeartbeats 2000000 in
set_option maxRecDepth 100000 in
theorem rparse10_any (A : Option Addr) (n c : Nat) (xs : List Int) (w : World) (hn : n ≤ 1048576) (hS : Sl w A n c xs) :
    Calls Tryd.prog 10 #[.slice A n c] w (ReadR (pars xs) w) := by
  have hni : (n : Int) ≤ 1048576 := by omega
  obtain ⟨w1, hw1⟩ : ∃ w1, w1 = w.alloc (.cells zero7 36) := ⟨_, rfl⟩
  have H1 : Hid (Past w w1 ∧ Row w1 w.heap.size 36 zero7) := by
    rw [hw1]
    exact ⟨past_alloc8 _ _, Row.new _ _ _⟩
  have HC := read_any (hS.past H1.out.1) hn 8 0 0 w1 (Below.refl _ _) (by omega) (by decide) (Nat.zero_le _)
  have e0 : ((0 : Nat) : Int) = 0 := rfl
  rw [e0] at HC
  have HLn := Lib.hid hS.len
  have HRg := Lib.hid hS.rng
  clear e0 hS
  obtain ⟨g, hg⟩ : ∃ g, w.heap.size = g := ⟨_, rfl⟩
  have HG : Hid (w.heap.size ≤ g) := Lib.hid (by omega)
  rw [hg] at H1
  cases hq : rd xs 8 0 with
  | bad c0 a0 =>
    rw [hq] at HC
    have hc0 := rd_err xs 8 0 c0 a0 hq
    have HQ : Hid (pars xs = .bad c0 a0) := Lib.hid (by unfold pars; rw [hq])
    have hcb : ((c0 : Int) == 0) = false := by simp; omega
    have HCC := Lib.hid HC
    clear hq HC
    go_enter Tryd.func10, Tryd.ntmps10
    go_wp2_with fail
    rw [← hw1]
    clear hw1 hg
    refine HCC.out.mono ?_
    rintro e w3 ⟨rfl, hp⟩
    unfold badV
    have hn3 := heap_alloc_new w3 (.cells zero7 36)
    have hi2 := res_size (err7 c0 a0) rfl
    have ho2 : (err7 c0 a0).all (·.oneCell') = true := by simp [err7, Value.oneCell']
    obtain ⟨w4, hw4⟩ : ∃ w4, w4 = w3.alloc (.cells (err7 c0 a0) 36) := ⟨_, rfl⟩
    have H4 : Hid (Past w w4 ∧ Row w4 g 36 zero7 ∧ Row w4 w3.heap.size 36 (err7 c0 a0)) := by
      have hp4 : Past w1 w4 := by rw [hw4]; exact hp.trans' (past_alloc8 _ _)
      refine Lib.hid ⟨H1.out.1.trans' hp4, H1.out.2.past hp4, ?_⟩
      rw [hw4]
      exact Row.new _ _ _
    have k4 : w4.cell? ⟨w3.heap.size, 5, none⟩ = some (.int .i64 (c0 : Int)) := H4.out.2.2.cell 5
    have hr4 := H4.out.2.2
    have hrg := H4.out.2.1
    have HW4 := Lib.hid hw4
    clear hw4 hp H1
    go_wp2_with (first
      | (refine wpList_store_row rfl 36 _ _ rfl w3.heap.size _ rfl rfl _ _ hn3 hi2 rfl ho2 ?_; rw [World.setRow_alloc_new, ← HW4.out])
      | (refine wpList_load_row rfl 36 _ rfl w3.heap.size rfl _ _ (0, 0) _ hr4 Tryd.underlying36 rfl hi2 ?_)
      | (refine wpList_store_row rfl 36 _ _ rfl g _ rfl rfl _ _ hrg hi2 rfl ho2 ?_))
    refine bodyPost_ret (results_cell_row rfl _ _ g _ (err7 c0 a0) (0, 0) _ rfl (setRow_heap w4 g _ _ _ _ hrg) Tryd.underlying36 rfl hi2) rfl ?_
    rw [HQ.out]
    exact ⟨rfl, below_setRow H4.out.1 HG.out _⟩
  | good t n1 =>
    rw [hq] at HC
    have HQ : Hid (pars xs = if n1 < n then .bad 4 n1 else .good t n1) := Lib.hid (by unfold pars; rw [hq, ← HLn.out])
    have HCC := Lib.hid HC
    clear hq HC
    have part : ∀ r : Bool, decide (n1 < n) = r → Calls Tryd.prog 10 #[.slice A n c] w (ReadR (pars xs) w) := by
      intro r hr
      have hrb : decide ((n1 : Int) < (n : Int)) = r := by
        rw [← hr]
        by_cases h : n1 < n
        · rw [decide_eq_true h, decide_eq_true (by omega)]
        · rw [decide_eq_false h, decide_eq_false (by omega)]
      have HRR := Lib.hid hr
      clear hr
      go_enter Tryd.func10, Tryd.ntmps10
      go_wp2_with fail
      rw [← hw1]
      clear hw1 hg
      refine HCC.out.mono ?_
      rintro e w3 ⟨x, y, z, u, rfl, hlv, hp⟩
      obtain ⟨kt, kn, kA, kln, kc, kK, km, kd, rfl, rfl, rfl, rfl⟩ := (hlv w3 (fun _ _ _ => rfl)).shape
      have hn3 := heap_alloc_new w3 (.cells zero7 36)
      have hi2 := res_size #[.int .i64 kt, .int .u64 kn, .slice kA kln kc, .slice kK km kd, .int .i64 (n1 : Int), .int .i64 0, .int .i64 0] rfl
      have ho2 : (#[Value.int .i64 kt, .int .u64 kn, .slice kA kln kc, .slice kK km kd, .int .i64 (n1 : Int), .int .i64 0, .int .i64 0] : Array Value).all (·.oneCell') = true := by simp [Value.oneCell']
      obtain ⟨w4, hw4⟩ : ∃ w4, w4 = w3.alloc (.cells #[.int .i64 kt, .int .u64 kn, .slice kA kln kc, .slice kK km kd, .int .i64 (n1 : Int), .int .i64 0, .int .i64 0] 36) := ⟨_, rfl⟩
      have H4 : Hid (Past w w4 ∧ Row w4 g 36 zero7 ∧ Row w4 w3.heap.size 36 #[.int .i64 kt, .int .u64 kn, .slice kA kln kc, .slice kK km kd, .int .i64 (n1 : Int), .int .i64 0, .int .i64 0] ∧ Past w3 w4 ∧ g < w1.heap.size ∧ w.heap.size ≤ w1.heap.size ∧ w1.heap.size ≤ w3.heap.size) := by
        have hp34 : Past w3 w4 := by rw [hw4]; exact past_alloc8 _ _
        have hp4 : Past w1 w4 := hp.trans' hp34
        refine Lib.hid ⟨H1.out.1.trans' hp4, H1.out.2.past hp4, ?_, hp34, H1.out.2.lt, H1.out.1.size, hp.size⟩
        rw [hw4]
        exact Row.new _ _ _
      have k3 : w4.cell? ⟨w3.heap.size, 4, none⟩ = some (.int .i64 (n1 : Int)) := H4.out.2.2.1.cell 4
      have k4 : w4.cell? ⟨w3.heap.size, 5, none⟩ = some (.int .i64 0) := H4.out.2.2.1.cell 5
      have hr4 := H4.out.2.2.1
      have hrg := H4.out.2.1
      have HW4 := Lib.hid hw4
      have HLV := Lib.hid hlv
      have hi3 := res_size (err7 4 n1) rfl
      have ho3 : (err7 4 n1).all (·.oneCell') = true := by simp [err7, Value.oneCell']
      clear hw4 hp H1 hlv
      cases r with
      | true =>
        have hrl : (n1 : Int) < (n : Int) := of_decide_eq_true hrb
        clear hrb
        go_wp2_with (first
          | (refine wpList_store_row rfl 36 _ _ rfl w3.heap.size _ rfl rfl _ _ hn3 hi2 rfl ho2 ?_; rw [World.setRow_alloc_new, ← HW4.out])
          | (refine wpList_load_row rfl 36 _ rfl w3.heap.size rfl _ _ (0, 0) _ hr4 Tryd.underlying36 rfl hi2 ?_)
          | (refine wpList_store_row rfl 36 _ _ rfl g _ rfl rfl _ _ hrg hi3 rfl ho3 ?_))
        refine bodyPost_ret (results_cell_row rfl _ _ g _ (err7 4 n1) (0, 0) _ rfl (setRow_heap w4 g _ _ _ _ hrg) Tryd.underlying36 rfl hi3) rfl ?_
        rw [HQ.out, if_pos (of_decide_eq_true HRR.out)]
        exact ⟨rfl, below_setRow H4.out.1 HG.out _⟩
      | false =>
        have hrl : (n : Int) ≤ (n1 : Int) := by have := of_decide_eq_false hrb; omega
        clear hrb
        go_wp2_with (first
          | (refine wpList_store_row rfl 36 _ _ rfl w3.heap.size _ rfl rfl _ _ hn3 hi2 rfl ho2 ?_; rw [World.setRow_alloc_new, ← HW4.out])
          | (refine wpList_load_row rfl 36 _ rfl w3.heap.size rfl _ _ (0, 0) _ hr4 Tryd.underlying36 rfl hi2 ?_)
          | (refine wpList_store_row rfl 36 _ _ rfl g #[.int .i64 kt, .int .u64 kn, .slice kA kln kc, .slice kK km kd, .int .i64 (n1 : Int), .int .i64 0, .int .i64 0] rfl rfl _ _ hrg hi2 rfl ho2 ?_))
        refine bodyPost_ret (results_cell_row rfl _ _ g _ #[.int .i64 kt, .int .u64 kn, .slice kA kln kc, .slice kK km kd, .int .i64 (n1 : Int), .int .i64 0, .int .i64 0] (0, 0) _ rfl (setRow_heap w4 g _ _ _ _ hrg) Tryd.underlying36 rfl hi2) rfl ?_
        rw [HQ.out, if_neg (of_decide_eq_false HRR.out)]
        refine ⟨_, _, _, _, rfl, fun w'' hag => HLV.out w'' fun k h1 h2 => ?_, below_setRow H4.out.1 HG.out _⟩
        have h4 := H4.out.2.2.2
        have hs4 := h4.1.size
        rw [hag k (by omega) (by simp [World.setRow]; omega), setRow_other _ _ _ _ (by omega)]
        exact h4.1.block k h2
    exact part _ rfl

end Go.Proofs.YtmhgpdfllpgjpaaDoor
