/- Contract of spread of package pyxlaw06: some state or other. -/
import Derived.Test.YtdnpmkhincdghaaKZ
namespace Go.Proofs.Ytdnpmkhincdghaa
open Go.RowKit

theorem wrap_ln (n : Int) : ∃ x : Lane, IntKind.u64.wrap n = ln x := by
  refine ⟨BitVec.ofNat 64 (IntKind.u64.wrap n).toNat, ?_⟩
  have h : 0 ≤ IntKind.u64.wrap n ∧ IntKind.u64.wrap n < 18446744073709551616 := by rw [IntKind.wrap_u64]; omega
  unfold ln
  rw [BitVec.toNat_ofNat]
  omega

set_option maxHeartbeats 1000000 in
set_option maxRecDepth 100000 in
theorem spread_any (a b c : Lane) (w : World) :
    Calls Try.prog 9 #[.agg #[.int .u64 (ln a), .int .u64 (ln b), .int .u64 (ln c)]] w fun e w' => ∃ L : Nat → Lane, e = .returned (.agg (arr .u64 25 fun i => ln (L i))) ∧ Past w w' := by
  have hcs : #[Value.int IntKind.u64 (ln a), .int .u64 (ln b), .int .u64 (ln c)] = arr .u64 3 fun i => ln (if i = 0 then a else if i = 1 then b else c) := by rfl
  have H0 : Hid (∃ L : Nat → Lane, Three .u64 25 w (((w.alloc (.cells #[.int .u64 (ln a), .int .u64 (ln b), .int .u64 (ln c)] 23)).alloc (.cells (arr .u64 25 fun _ => 0) 25)).alloc (.cells (arr .u64 25 fun _ => 0) 25)) w.heap.size 23 25 25 (arr .u64 3 fun i => ln (if i = 0 then a else if i = 1 then b else c)) (arr .u64 25 fun _ => 0) fun j => ln (L j)) := by
    rw [hcs]
    exact ⟨fun _ => 0, Three.new .u64 25 w 23 25 25 _ _ fun _ => 0⟩
  clear hcs
  go_enter Try.func9, Try.ntmps9
  go_wp2_with fail
  rw [arr_zero25]
  generalize ((w.alloc (.cells #[.int .u64 (ln a), .int .u64 (ln b), .int .u64 (ln c)] 23)).alloc (.cells (arr .u64 25 fun _ => 0) 25)).alloc (.cells (arr .u64 25 fun _ => 0) 25) = w3 at *
  obtain ⟨g, hg⟩ : ∃ g, w.heap.size = g := ⟨_, rfl⟩
  have hge : w.heap.size ≤ g := by omega
  rw [hg] at H0 ⊢
  clear hg
  go_loopg [4, 5] 25 (fun k s4 s5 wx => ∃ (i : Nat) (x : Lane), i ≤ 25 ∧ k = 25 - i ∧ s4 = .int .u64 (ln x) ∧ s5 = .int .i64 (i : Int) ∧ Hid (∃ L : Nat → Lane, Three .u64 25 w wx g 23 25 25 (arr .u64 3 fun i => ln (if i = 0 then a else if i = 1 then b else c)) (arr .u64 25 fun _ => 0) fun j => ln (L j)))
  case atStart => exact ⟨0, a, Nat.zero_le _, rfl, rfl, rfl, H0⟩
  case round =>
    clear H0
    obtain ⟨i, x, hi, hgk, rfl, rfl, HQ⟩ := hrel
    have HGK := Lib.hid hgk
    clear hgk
    obtain ⟨L, hT⟩ := HQ.out
    by_cases hlt : i < 25
    · obtain ⟨m, hm⟩ : ∃ m, i % 3 = m := ⟨_, rfl⟩
      have hm3 : (m : Int) < 3 := by omega
      have hmi : (i : Int) % 3 = (m : Int) := by omega
      have hc1 : wr.cell? ⟨g, m, none⟩ = some (.int .u64 (ln (if m = 0 then a else if m = 1 then b else c))) := by
        rw [hT.2.1.cell, arr_get .u64 3 _ m (by omega)]
      have hc2 := hT.2.2.2.at i hlt
      have hf2 := hT.2.2.2.fr i
      generalize (if m = 0 then a else if m = 1 then b else c) = sv at hc1
      obtain ⟨x2, hx2⟩ := wrap_ln (IntKind.u64.wrap (IntKind.u64.wrap (ln x * 6364136223846793005) + ln sv) + (i : Int))
      have HQ2 : Hid (∃ L : Nat → Lane, Three .u64 25 w (wr.setCell ⟨g + 1 + 1, i, none⟩ (.int .u64 (ln x2))) g 23 25 25 (arr .u64 3 fun i => ln (if i = 0 then a else if i = 1 then b else c)) (arr .u64 25 fun _ => 0) fun j => ln (L j)) := by
        refine ⟨fun j => if j = i then x2 else L j, ?_⟩
        obtain ⟨h1, h2, h3, h4⟩ := hT.put hge i hlt (ln x2)
        refine ⟨h1, h2, h3, LM.same h4 fun j _ => ?_⟩
        by_cases e : j = i
        · subst e
          rw [upd_at]
          simp
        · rw [upd_ne _ _ e]
          simp [e]
      clear hT HQ hm
      generalize ln (L i) = old at *
      generalize ln x = xv at *
      generalize ln sv = svv at *
      go_wp2_with fail
      go_roundg (25 - (i + 1))
      case rel => exact ⟨i + 1, x2, by omega, rfl, rfl, by go_num, HQ2⟩
      case measure => have := HGK.out; omega
    · obtain rfl : i = 25 := by omega
      have hb : wr.cell? ⟨g, 1, none⟩ = some (.int .u64 (ln b)) := by rw [hT.2.1.cell]; rfl
      have ha : wr.cell? ⟨g, 0, none⟩ = some (.int .u64 (ln a)) := by rw [hT.2.1.cell]; rfl
      have hc : wr.cell? ⟨g, 2, none⟩ = some (.int .u64 (ln c)) := by rw [hT.2.1.cell]; rfl
      have hr2 := hT.2.2.2
      have hr1 := hT.2.2.1
      unfold LM at hr2
      have hi2 : (Try.prog.info? 25).map (·.size) = some (arr .u64 25 fun i => ln (L i)).size := by rw [arr_size]; kernel_rfl
      have hs2 : (arr .u64 25 fun _ => 0).size = (arr .u64 25 fun i => ln (L i)).size := by rw [arr_size, arr_size]
      have ho2 := arr_one .u64 25 fun i => ln (L i)
      have HP := Lib.hid (hT.1)
      clear hT HQ
      generalize hcc : arr .u64 25 (fun i => ln (L i)) = c2 at *
      have HCC := Lib.hid hcc
      clear hcc
      generalize arr .u64 25 (fun _ => 0) = c1 at *
      generalize ln b = bv at *
      by_cases hb0 : bv = 0
      · have hbb : (bv == 0) = true := by simpa using hb0
        clear hb0
        have hlit : #[Value.int IntKind.u64 (ln a), .int .u64 (ln c), .int .u64 0, .int .u64 0, .int .u64 0, .int .u64 0, .int .u64 0, .int .u64 0, .int .u64 0, .int .u64 0, .int .u64 0, .int .u64 0, .int .u64 0, .int .u64 0, .int .u64 0, .int .u64 0, .int .u64 0, .int .u64 0, .int .u64 0, .int .u64 0, .int .u64 0, .int .u64 0, .int .u64 0, .int .u64 0, .int .u64 0] = arr .u64 25 fun i => ln (if i = 0 then a else if i = 1 then c else 0) := by rfl
        generalize hcd : arr .u64 25 (fun i => ln (if i = 0 then a else if i = 1 then c else 0)) = c3 at *
        have hs3 : c1.size = c3.size := by rw [← hcd, hs2, ← HCC.out, arr_size, arr_size]
        have hi3 : (Try.prog.info? 25).map (·.size) = some c3.size := by rw [← hs3, hs2]; exact hi2
        have ho3 := arr_one .u64 25 fun i => ln (if i = 0 then a else if i = 1 then c else 0)
        rw [hcd] at ho3
        have HCD := Lib.hid hcd
        clear hcd
        go_wp2_with (first | (refine wpList_store_row rfl 25 _ _ rfl (g + 1) _ rfl rfl _ _ hr1 hi3 hs3 ho3 ?_))
        refine bodyPost_ret (results_cell_row rfl _ _ (g + 1) _ c3 (0, 0) _ rfl (setRow_heap wr (g + 1) c1 c3 _ _ hr1) Try.underlying25 rfl hi3) rfl ?_
        exact ⟨fun i => if i = 0 then a else if i = 1 then c else 0, by rw [HCD.out], below_setRow HP.out (by omega) _⟩
      · have hbb : (bv == 0) = false := by simpa using hb0
        clear hb0
        go_wp2_with (first | (refine wpList_load_row rfl 25 _ rfl (g + 1 + 1) rfl _ _ (0, 0) _ hr2 Try.underlying25 rfl hi2 ?_) | (refine wpList_store_row rfl 25 _ _ rfl (g + 1) _ rfl rfl _ _ hr1 hi2 hs2 ho2 ?_))
        refine bodyPost_ret (results_cell_row rfl _ _ (g + 1) _ c2 (0, 0) _ rfl (setRow_heap wr (g + 1) c1 c2 _ _ hr1) Try.underlying25 rfl hi2) rfl ?_
        exact ⟨L, by rw [HCC.out], below_setRow HP.out (by omega) _⟩

end Go.Proofs.Ytdnpmkhincdghaa
