/- The fixed results that the laws ask for first: the contract of awake. -/
import Derived.Test.YtdnpmkhincdghaaP6
namespace Go.Proofs.Ytdnpmkhincdghaa
open Go.RowKit

theorem zero_ppm : ln (ppm (fun _ => 0) 0) = 17376452488221285863 := by
  show ln (kperm (fun _ => 0) 0) = _
  rw [kS_zero 0 (by decide)]
  decide +kernel
theorem arr_zero24u : (#[Value.int IntKind.u64 0, .int .u64 0, .int .u64 0, .int .u64 0, .int .u64 0, .int .u64 0, .int .u64 0, .int .u64 0, .int .u64 0, .int .u64 0, .int .u64 0, .int .u64 0, .int .u64 0, .int .u64 0, .int .u64 0, .int .u64 0, .int .u64 0, .int .u64 0, .int .u64 0, .int .u64 0, .int .u64 0, .int .u64 0, .int .u64 0, .int .u64 0] : Array Value) = arr .u64 24 fun _ => 0 := rfl

set_option maxHeartbeats 1000000 in
theorem awake_any (H : Prog6) (w : World) : Calls Try.prog 8 #[] w fun e w' => e = .returned (.bool true) ∧ Past w w' := by
  have HC := Lib.hid H.consts
  have HO := Lib.hid H.offs
  have hz : (arr .u64 25 fun i => ln ((fun _ => 0 : Nat → Lane) i)) = arr .u64 25 fun _ => 0 := rfl
  have hp0 := H.perm fun _ => 0
  unfold fl at hp0
  rw [hz] at hp0
  have HP := Lib.hid hp0
  clear hz hp0
  have hb := H.bytes (ppm fun _ => 0)
  unfold fl at hb
  have HB := Lib.hid hb
  clear hb
  have HZ := Lib.hid zero_ppm
  have hc0 : (arr .u64 24 rcF)[0]? = some (.int .u64 1) := by rw [arr_get .u64 24 rcF 0 (by decide), show rcF 0 = 1 by decide +kernel]
  have hc1 : (arr .u64 24 rcF)[1]? = some (.int .u64 32898) := by rw [arr_get .u64 24 rcF 1 (by decide), show rcF 1 = 32898 by decide +kernel]
  have ho1 : (arr .i64 25 poff)[1]? = some (.int .i64 1) := by rw [arr_get .i64 25 poff 1 (by decide), show poff 1 = 1 by decide +kernel]
  have hs0 : (arr .u64 25 fun i => ln (ppm (fun _ => 0) i))[0]? = some (.int .u64 17376452488221285863) := by rw [arr_get .u64 25 _ 0 (by decide), zero_ppm]
  have hb0 : (arr .u8 200 (kbyte (ppm fun _ => 0)))[0]? = some (.int .u8 231) := by
    rw [arr_get .u8 200 _ 0 (by decide)]
    show some (Value.int .u8 (ln (ppm (fun _ => 0) 0) / 256 ^ 0 % 256)) = _
    rw [zero_ppm, show (17376452488221285863 : Int) / 256 ^ 0 % 256 = 231 by decide]
  have hi24 : (Try.prog.info? 38).map (·.size) = some (arr .u64 24 rcF).size := by rw [arr_size]; kernel_rfl
  have hs24 : (arr .u64 24 fun _ => 0).size = (arr .u64 24 rcF).size := by rw [arr_size, arr_size]
  have hn24 := arr_one .u64 24 rcF
  have hi25 : (Try.prog.info? 44).map (·.size) = some (arr .i64 25 poff).size := by rw [arr_size]; kernel_rfl
  have hs25 : (arr .i64 25 fun _ => 0).size = (arr .i64 25 poff).size := by rw [arr_size, arr_size]
  have hn25 := arr_one .i64 25 poff
  have hiS : (Try.prog.info? 27).map (·.size) = some (arr .u64 25 fun i => ln (ppm (fun _ => 0) i)).size := by rw [arr_size]; kernel_rfl
  have hsS : (arr .u64 25 fun _ => 0).size = (arr .u64 25 fun i => ln (ppm (fun _ => 0) i)).size := by rw [arr_size, arr_size]
  have hnS := arr_one .u64 25 fun i => ln (ppm (fun _ => 0) i)
  generalize arr .u64 24 rcF = crc at *
  generalize arr .i64 25 poff = cof at *
  generalize arr .u8 200 (kbyte (ppm fun _ => 0)) = cby at *
  generalize (arr .u64 25 fun i => ln (ppm (fun _ => 0) i)) = cst at *
  go_enter Try.func8, Try.ntmps8
  go_wp2_with fail
  refine (HC.out _).mono ?_
  rintro e w1 ⟨rfl, hp⟩
  have H1 := Lib.hid hp
  clear hp
  have hn1 := heap_alloc_new w1 (.cells (arr .u64 24 fun _ => 0) 38)
  go_wp2_with (refine wpList_store_row rfl 38 _ _ rfl w1.heap.size _ rfl rfl _ _ hn1 hi24 hs24 hn24 ?_)
  rw [World.setRow_alloc_new]
  have H2 : Hid (Past w (w1.alloc (.cells crc 38)) ∧ Row (w1.alloc (.cells crc 38)) w1.heap.size 38 crc) := ⟨H1.out.trans' (past_alloc6 _ _), Row.new _ _ _⟩
  clear H1 hn1
  generalize w1.alloc (.cells crc 38) = w2 at *
  generalize w1.heap.size = c at *
  refine (HO.out _).mono ?_
  rintro e w3 ⟨rfl, hp⟩
  have H3 : Hid (Past w w3 ∧ Row w3 c 38 crc) := ⟨H2.out.1.trans' hp, H2.out.2.past hp⟩
  clear H2 hp
  have hn1 := heap_alloc_new w3 (.cells (arr .i64 25 fun _ => 0) 44)
  go_wp2_with (refine wpList_store_row rfl 44 _ _ rfl w3.heap.size _ rfl rfl _ _ hn1 hi25 hs25 hn25 ?_)
  rw [World.setRow_alloc_new]
  have H4 : Hid (Past w (w3.alloc (.cells cof 44)) ∧ Row (w3.alloc (.cells cof 44)) c 38 crc ∧ Row (w3.alloc (.cells cof 44)) w3.heap.size 44 cof) := ⟨H3.out.1.trans' (past_alloc6 _ _), H3.out.2.alloc _, Row.new _ _ _⟩
  clear H3 hn1
  generalize w3.alloc (.cells cof 44) = w4 at *
  generalize w3.heap.size = o at *
  rw [arr_zero25]
  refine (HP.out _).mono ?_
  rintro e w5 ⟨rfl, hp⟩
  have H5 : Hid (Past w w5 ∧ Row w5 c 38 crc ∧ Row w5 o 44 cof) := ⟨H4.out.1.trans' hp, H4.out.2.1.past hp, H4.out.2.2.past hp⟩
  clear H4 hp
  have hn1 := heap_alloc_new w5 (.cells (arr .u64 25 fun _ => 0) 27)
  obtain ⟨w6, hw6⟩ : ∃ w6, w6 = w5.alloc (.cells cst 27) := ⟨_, rfl⟩
  have H6 : Hid (Past w w6 ∧ Row w6 c 38 crc ∧ Row w6 o 44 cof ∧ Row w6 w5.heap.size 27 cst) := by
    rw [hw6]
    exact ⟨H5.out.1.trans' (past_alloc6 _ _), H5.out.2.1.alloc _, H5.out.2.2.alloc _, Row.new _ _ _⟩
  have k0 : w6.cell? ⟨c, 0, none⟩ = some (.int .u64 1) := by rw [H6.out.2.1.cell, hc0]
  have k1 : w6.cell? ⟨c, 1, none⟩ = some (.int .u64 32898) := by rw [H6.out.2.1.cell, hc1]
  have k2 : w6.cell? ⟨o, 1, none⟩ = some (.int .i64 1) := by rw [H6.out.2.2.1.cell, ho1]
  have k3 : w6.cell? ⟨w5.heap.size, 0, none⟩ = some (.int .u64 17376452488221285863) := by rw [H6.out.2.2.2.cell, hs0]
  have hrt : Row w6 w5.heap.size 27 cst := H6.out.2.2.2
  have HP6 := Lib.hid H6.out.1
  have HW6 := Lib.hid hw6
  clear H5 H6 hw6
  go_wp2_with (first | (refine wpList_store_row rfl 27 _ _ rfl w5.heap.size _ rfl rfl _ _ hn1 hiS hsS hnS ?_; rw [World.setRow_alloc_new, ← HW6.out]) | (refine wpList_load_row_want rfl 27 _ rfl w5.heap.size rfl _ _ (0, 0) _ hrt Try.underlying27 rfl hiS ?_))
  refine (HB.out _).mono ?_
  rintro e w7 ⟨rfl, hp⟩
  have H7 := Lib.hid (HP6.out.trans' hp)
  clear hp HP6 hrt HW6 hn1
  obtain ⟨i8, hi8, _, hz8, _⟩ := info_parts (show (Try.prog.info? 5).map (fun i => (i.zero, i.size, i.bytes)) = some (some (.int .u8 0), 1, 1) by kernel_rfl)
  have hix := run_index_cells w7 (t := 47) Try.underlying47 Try.underlying5 hi8 hz8 0 (by decide) (by decide) hb0
  go_wp2_with fail
  go_ret
  exact ⟨rfl, H7.out⟩

end Go.Proofs.Ytdnpmkhincdghaa
