/- The fixed results that the laws ask for first: the contract of awake. -/
import Derived.Test.YtamgbkadiobklaaP7
namespace Go.Proofs.Ytamgbkadiobklaa
open Go.RowKit

theorem hsh_at (xs : List Int) (R : Nat) (s : Int) (n i : Nat) (h : i < n) : (hsh xs R s n)[i]? = some (.int .u8 (rout (rstate xs R s) R i)) := arr_get .u8 n _ i h

set_option maxHeartbeats 2000000 in
theorem awake_any (H : Prog7) (w : World) : Calls Try.prog 9 #[] w fun e w' => e = .returned (.bool true) ∧ Past w w' := by
  have ha := fun w => H.sha256 none 0 0 _ _ _ w (sls_nil w) (by omega) (by rw [cat_zero]; simp)
  have hb := fun w => H.sha512 none 0 0 _ _ _ w (sls_nil w) (by omega) (by rw [cat_zero]; simp)
  have hc := fun w => H.shake128 4 none 0 0 _ _ _ w (sls_nil w) (by omega) (by rw [cat_zero]; simp) (by omega)
  have hd := fun w => H.shake256 4 none 0 0 _ _ _ w (sls_nil w) (by omega) (by rw [cat_zero]; simp) (by omega)
  have e4 : (4 : Int).toNat = 4 := rfl
  simp only [cat_zero, e4, bl4, out_c0, out_c1, out_c2, out_c3] at ha hb hc
  simp only [cat_zero, e4, bl4, out_d0, out_d1, out_d2, out_d3] at hd
  have HA := Lib.hid ha
  have HB := Lib.hid hb
  have HC := Lib.hid hc
  have HD := Lib.hid hd
  have HN := Lib.hid H.nextNil
  have HK := Lib.hid H.blocksNil
  clear ha hb hc hd e4
  have a0 := hsh_at [] 136 6 32 0 (by omega)
  have a1 := hsh_at [] 136 6 32 1 (by omega)
  have a2 := hsh_at [] 136 6 32 2 (by omega)
  have a3 := hsh_at [] 136 6 32 31 (by omega)
  have b0 := hsh_at [] 72 6 64 0 (by omega)
  have b1 := hsh_at [] 72 6 64 63 (by omega)
  rw [out_a0] at a0
  rw [out_a1] at a1
  rw [out_a2] at a2
  rw [out_a31] at a3
  rw [out_b0] at b0
  rw [out_b63] at b1
  have hi1 : (Try.prog.info? 27).map (·.size) = some (hsh [] 136 6 32).size := by unfold hsh; rw [arr_size]; kernel_rfl
  have hs1 : (arr .u8 32 fun _ => 0).size = (hsh [] 136 6 32).size := by unfold hsh; rw [arr_size, arr_size]
  have ho1 : (hsh [] 136 6 32).all (·.oneCell') = true := arr_one .u8 32 _
  have hi2 : (Try.prog.info? 29).map (·.size) = some (hsh [] 72 6 64).size := by unfold hsh; rw [arr_size]; kernel_rfl
  have hs2 : (arr .u8 64 fun _ => 0).size = (hsh [] 72 6 64).size := by unfold hsh; rw [arr_size, arr_size]
  have ho2 : (hsh [] 72 6 64).all (·.oneCell') = true := arr_one .u8 64 _
  generalize hsh [] 136 6 32 = ca at *
  generalize hsh [] 72 6 64 = cb at *
  go_enter Try.func9, Try.ntmps9
  go_wp2_with fail
  refine (HA.out _).mono ?_
  rintro e w1 ⟨rfl, hp⟩
  have H1 := Lib.hid hp
  clear hp
  have hz := zero32
  have hn1 := heap_alloc_new w1 (.cells (arr .u8 32 fun _ => 0) 27)
  go_wp2_with (refine wpList_store_row rfl 27 _ _ rfl w1.heap.size _ rfl rfl _ _ hn1 hi1 hs1 ho1 ?_)
  rw [World.setRow_alloc_new]
  have H2 : Hid (Past w (w1.alloc (.cells ca 27)) ∧ Row (w1.alloc (.cells ca 27)) w1.heap.size 27 ca) := ⟨H1.out.trans' (past_alloc6 _ _), Row.new _ _ _⟩
  clear H1 hn1 hz hi1 hs1 ho1
  generalize w1.alloc (.cells ca 27) = w2 at *
  generalize w1.heap.size = p at *
  refine (HB.out _).mono ?_
  rintro e w3 ⟨rfl, hp⟩
  have H3 : Hid (Past w w3 ∧ Row w3 p 27 ca) := ⟨H2.out.1.trans' hp, H2.out.2.past hp⟩
  clear H2 hp
  have hz := zero64
  have hn1 := heap_alloc_new w3 (.cells (arr .u8 64 fun _ => 0) 29)
  obtain ⟨w4, hw4⟩ : ∃ w4, w4 = w3.alloc (.cells cb 29) := ⟨_, rfl⟩
  have H4 : Hid (Past w w4 ∧ Row w4 p 27 ca ∧ Row w4 w3.heap.size 29 cb) := by
    rw [hw4]
    exact ⟨H3.out.1.trans' (past_alloc6 _ _), H3.out.2.alloc _, Row.new _ _ _⟩
  have HW4 := Lib.hid hw4
  have k0 := H4.out.2.1.cell 0
  have k1 := H4.out.2.1.cell 1
  have k2 := H4.out.2.1.cell 2
  have k3 := H4.out.2.1.cell 31
  have l0 := H4.out.2.2.cell 0
  have l1 := H4.out.2.2.cell 63
  rw [a0] at k0
  rw [a1] at k1
  rw [a2] at k2
  rw [a3] at k3
  rw [b0] at l0
  rw [b1] at l1
  clear hw4 a0 a1 a2 a3 b0 b1 H3
  go_wp2_with (refine wpList_store_row rfl 29 _ _ rfl w3.heap.size _ rfl rfl _ _ hn1 hi2 hs2 ho2 ?_; rw [World.setRow_alloc_new, ← HW4.out])
  have HP4 := Lib.hid H4.out.1
  clear H4 HW4 hn1 hz hi2 hs2 ho2 k0 k1 k2 k3 l0 l1
  refine (HC.out _).mono ?_
  rintro e w5 ⟨A, d, rfl, hs, hp⟩
  have HP5 := Lib.hid (HP4.out.trans' hp)
  have HS5 := Lib.hid (hs.past (past_alloc6 w5 (.cells #[.int .u8 127, .int .u8 156, .int .u8 43, .int .u8 164] 5)))
  clear hs hp HP4
  go_wp2_with fail
  refine (rsame_self _ _ _ _ _ _ _ HS5.out (Sl.lit4 w5 127 156 43 164 (by omega) (by omega) (by omega) (by omega))).mono ?_
  rintro e w' ⟨rfl, m, rfl⟩
  have HP6 := Lib.hid ((HP5.out.trans' (past_alloc6 w5 (.cells #[.int .u8 127, .int .u8 156, .int .u8 43, .int .u8 164] 5))).drewN m)
  clear HP5 HS5
  generalize (w5.alloc (.cells #[.int .u8 127, .int .u8 156, .int .u8 43, .int .u8 164] 5)).drewN m = w6 at *
  go_wp2_with fail
  refine (HD.out _).mono ?_
  rintro e w7 ⟨A2, d2, rfl, hs, hp⟩
  have HP7 := Lib.hid (HP6.out.trans' hp)
  have HS7 := Lib.hid (hs.past (past_alloc6 w7 (.cells #[.int .u8 70, .int .u8 185, .int .u8 221, .int .u8 43] 5)))
  clear hs hp HP6
  go_wp2_with fail
  refine (rsame_self _ _ _ _ _ _ _ HS7.out (Sl.lit4 w7 70 185 221 43 (by omega) (by omega) (by omega) (by omega))).mono ?_
  rintro e w' ⟨rfl, m, rfl⟩
  have HP8 := Lib.hid ((HP7.out.trans' (past_alloc6 w7 (.cells #[.int .u8 70, .int .u8 185, .int .u8 221, .int .u8 43] 5))).drewN m)
  clear HP7 HS7
  generalize (w7.alloc (.cells #[.int .u8 70, .int .u8 185, .int .u8 221, .int .u8 43] 5)).drewN m = w8 at *
  go_wp2_with fail
  refine (HN.out _ _).mono ?_
  rintro e w9 ⟨rfl, hp⟩
  have HP9 := Lib.hid (HP8.out.trans' hp)
  clear hp HP8
  go_wp2_with fail
  refine (HK.out _).mono ?_
  rintro e w10 ⟨rfl, hp⟩
  have HP10 := Lib.hid (HP9.out.trans' hp)
  clear hp HP9
  go_wp2_with fail
  go_ret
  exact ⟨rfl, HP10.out⟩

end Go.Proofs.Ytamgbkadiobklaa
