/- The contract of the reference's Parse, at strings that are not too long. -/
import Derived.Test.YtdpnfojpeafdhaaDoorRef8V
namespace Go.Proofs.YtdpnfojpeafdhaaDoor
open Go.RowKit
set_option linter.unusedVariables false

/-- What parsing leads to. -/
def parseW (xs : List Int) (n : Nat) : Res :=
  match rd xs 8 0 n with
  | .err c a => .err c a
  | .ok t nx => if nx < n then .err 4 nx else .ok t nx

set_option maxHeartbeats 2000000 in
set_option maxRecDepth 100000 in
theorem rparse_any (A : Option Addr) (n c : Nat) (xs : List Int) (w : World) (hn : n ≤ 1048576) (hS : Sl w A n c xs) :
    Calls Tryd.prog 9 #[.slice A n c] w (ReadP (parseW xs n) w) := by
  have hni : (n : Int) ≤ 1048576 := by omega
  obtain ⟨w1, hw1⟩ : ∃ w1, w1 = w.alloc (.cells zero6 35) := ⟨_, rfl⟩
  have H1 : Hid (Past w w1 ∧ Row w1 w.heap.size 35 zero6) := by
    rw [hw1]
    exact ⟨past_alloc8 _ _, Row.new _ _ _⟩
  have HC := read_any A n c xs hn 8 (Nat.le_refl _) 0 n w1 (hS.past H1.out.1) (Nat.zero_le _) (Nat.le_refl _)
  have e8 : (8 : Int) - ((8 : Nat) : Int) = 0 := by decide
  have e0 : ((0 : Nat) : Int) = 0 := rfl
  rw [e8, e0] at HC
  clear e8 e0 hS
  obtain ⟨g, hg⟩ : ∃ g, w.heap.size = g := ⟨_, rfl⟩
  have HG : Hid (w.heap.size ≤ g) := Lib.hid (by omega)
  rw [hg] at H1
  cases hq : rd xs 8 0 n with
  | err c0 a0 =>
    rw [hq] at HC
    have hc0 := rd_err xs 8 0 n c0 a0 hq
    have HQ : Hid (parseW xs n = .err c0 a0) := Lib.hid (by unfold parseW; rw [hq])
    have hcb : ((c0 : Int) == 0) = false := by simp; omega
    have HCC := Lib.hid HC
    clear hq HC
    go_enter Tryd.func9, Tryd.ntmps9
    go_wp2_with fail
    rw [← hw1]
    clear hw1 hg
    refine HCC.out.mono ?_
    rintro e w3 ⟨rfl, hp⟩
    unfold resE
    have hn3 := heap_alloc_new w3 (.cells zero6 35)
    have hi2 := res_size (err6 c0 a0) rfl
    have ho2 : (err6 c0 a0).all (·.oneCell') = true := by simp [err6, Value.oneCell']
    obtain ⟨w4, hw4⟩ : ∃ w4, w4 = w3.alloc (.cells (err6 c0 a0) 35) := ⟨_, rfl⟩
    have H4 : Hid (Past w w4 ∧ Row w4 g 35 zero6 ∧ Row w4 w3.heap.size 35 (err6 c0 a0)) := by
      have hp4 : Past w1 w4 := by rw [hw4]; exact hp.trans' (past_alloc8 _ _)
      refine Lib.hid ⟨H1.out.1.trans' hp4, H1.out.2.past hp4, ?_⟩
      rw [hw4]
      exact Row.new _ _ _
    have k4 : w4.cell? ⟨w3.heap.size, 4, none⟩ = some (.int .i64 (c0 : Int)) := H4.out.2.2.cell 4
    have hr4 := H4.out.2.2
    have hrg := H4.out.2.1
    have HW4 := Lib.hid hw4
    clear hw4 hp H1
    go_wp2_with (first
      | (refine wpList_store_row rfl 35 _ _ rfl w3.heap.size _ rfl rfl _ _ hn3 hi2 rfl ho2 ?_; rw [World.setRow_alloc_new, ← HW4.out])
      | (refine wpList_load_row rfl 35 _ rfl w3.heap.size rfl _ _ (0, 0) _ hr4 Tryd.underlying35 rfl hi2 ?_)
      | (refine wpList_store_row rfl 35 _ _ rfl g _ rfl rfl _ _ hrg hi2 rfl ho2 ?_))
    refine bodyPost_ret (results_cell_row rfl _ _ g _ (err6 c0 a0) (0, 0) _ rfl (setRow_heap w4 g _ _ _ _ hrg) Tryd.underlying35 rfl hi2) rfl ?_
    rw [HQ.out]
    exact ⟨rfl, below_setRow H4.out.1 HG.out _⟩
  | ok t n1 =>
    rw [hq] at HC
    have hn1 := rd_next xs 8 0 n t n1 hq
    have HQ : Hid (parseW xs n = if n1 < n then .err 4 n1 else .ok t n1) := Lib.hid (by unfold parseW; rw [hq])
    have HCC := Lib.hid HC
    clear hq HC
    have part : ∀ r : Bool, decide (n1 < n) = r → Calls Tryd.prog 9 #[.slice A n c] w (ReadP (parseW xs n) w) := by
      intro r hr
      have hrb : decide ((n1 : Int) < (n : Int)) = r := by
        rw [← hr]
        by_cases h : n1 < n
        · rw [decide_eq_true h, decide_eq_true (by omega)]
        · rw [decide_eq_false h, decide_eq_false (by omega)]
      have HRR := Lib.hid hr
      clear hr
      go_enter Tryd.func9, Tryd.ntmps9
      go_wp2_with fail
      rw [← hw1]
      clear hw1 hg
      refine HCC.out.mono ?_
      rintro e w3 ⟨x, y, z, rfl, hlv, hp⟩
      obtain ⟨kt, kA, kn, kc, kK, km, kd, rfl, rfl, rfl⟩ := (hlv w3 (fun _ _ _ => rfl)).forms
      have hn3 := heap_alloc_new w3 (.cells zero6 35)
      have hi2 := res_size #[.int .u8 kt, .slice kA kn kc, .slice kK km kd, .int .i64 (n1 : Int), .int .i64 0, .int .i64 0] rfl
      have ho2 : (#[Value.int .u8 kt, .slice kA kn kc, .slice kK km kd, .int .i64 (n1 : Int), .int .i64 0, .int .i64 0] : Array Value).all (·.oneCell') = true := by simp [Value.oneCell']
      obtain ⟨w4, hw4⟩ : ∃ w4, w4 = w3.alloc (.cells #[.int .u8 kt, .slice kA kn kc, .slice kK km kd, .int .i64 (n1 : Int), .int .i64 0, .int .i64 0] 35) := ⟨_, rfl⟩
      have H4 : Hid (Past w w4 ∧ Row w4 g 35 zero6 ∧ Row w4 w3.heap.size 35 #[.int .u8 kt, .slice kA kn kc, .slice kK km kd, .int .i64 (n1 : Int), .int .i64 0, .int .i64 0] ∧ Past w3 w4 ∧ g < w1.heap.size ∧ w.heap.size ≤ w1.heap.size ∧ w1.heap.size ≤ w3.heap.size) := by
        have hp34 : Past w3 w4 := by rw [hw4]; exact past_alloc8 _ _
        have hp4 : Past w1 w4 := hp.trans' hp34
        refine Lib.hid ⟨H1.out.1.trans' hp4, H1.out.2.past hp4, ?_, hp34, H1.out.2.lt, H1.out.1.size, hp.size⟩
        rw [hw4]
        exact Row.new _ _ _
      have k3 : w4.cell? ⟨w3.heap.size, 3, none⟩ = some (.int .i64 (n1 : Int)) := H4.out.2.2.1.cell 3
      have k4 : w4.cell? ⟨w3.heap.size, 4, none⟩ = some (.int .i64 0) := H4.out.2.2.1.cell 4
      have hr4 := H4.out.2.2.1
      have hrg := H4.out.2.1
      have HW4 := Lib.hid hw4
      have HLV := Lib.hid hlv
      have hi3 := res_size (err6 4 n1) rfl
      have ho3 : (err6 4 n1).all (·.oneCell') = true := by simp [err6, Value.oneCell']
      clear hw4 hp H1 hlv
      cases r with
      | true =>
        have hrl : (n1 : Int) < (n : Int) := of_decide_eq_true hrb
        clear hrb
        go_wp2_with (first
          | (refine wpList_store_row rfl 35 _ _ rfl w3.heap.size _ rfl rfl _ _ hn3 hi2 rfl ho2 ?_; rw [World.setRow_alloc_new, ← HW4.out])
          | (refine wpList_load_row rfl 35 _ rfl w3.heap.size rfl _ _ (0, 0) _ hr4 Tryd.underlying35 rfl hi2 ?_)
          | (refine wpList_store_row rfl 35 _ _ rfl g _ rfl rfl _ _ hrg hi3 rfl ho3 ?_))
        refine bodyPost_ret (results_cell_row rfl _ _ g _ (err6 4 n1) (0, 0) _ rfl (setRow_heap w4 g _ _ _ _ hrg) Tryd.underlying35 rfl hi3) rfl ?_
        rw [HQ.out, if_pos (of_decide_eq_true HRR.out)]
        exact ⟨rfl, below_setRow H4.out.1 HG.out _⟩
      | false =>
        have hrl : (n : Int) ≤ (n1 : Int) := by have := of_decide_eq_false hrb; omega
        clear hrb
        go_wp2_with (first
          | (refine wpList_store_row rfl 35 _ _ rfl w3.heap.size _ rfl rfl _ _ hn3 hi2 rfl ho2 ?_; rw [World.setRow_alloc_new, ← HW4.out])
          | (refine wpList_load_row rfl 35 _ rfl w3.heap.size rfl _ _ (0, 0) _ hr4 Tryd.underlying35 rfl hi2 ?_)
          | (refine wpList_store_row rfl 35 _ _ rfl g #[.int .u8 kt, .slice kA kn kc, .slice kK km kd, .int .i64 (n1 : Int), .int .i64 0, .int .i64 0] rfl rfl _ _ hrg hi2 rfl ho2 ?_))
        refine bodyPost_ret (results_cell_row rfl _ _ g _ #[.int .u8 kt, .slice kA kn kc, .slice kK km kd, .int .i64 (n1 : Int), .int .i64 0, .int .i64 0] (0, 0) _ rfl (setRow_heap w4 g _ _ _ _ hrg) Tryd.underlying35 rfl hi2) rfl ?_
        rw [HQ.out, if_neg (of_decide_eq_false HRR.out)]
        refine ⟨_, _, _, rfl, fun w'' hag => HLV.out w'' fun k h1 h2 => ?_, below_setRow H4.out.1 HG.out _⟩
        have h4 := H4.out.2.2.2
        have hs4 := h4.1.size
        rw [hag k (by omega) (by simp [World.setRow]; omega), setRow_other _ _ _ _ (by omega)]
        exact h4.1.block k h2
    exact part _ rfl

end Go.Proofs.YtdpnfojpeafdhaaDoor
