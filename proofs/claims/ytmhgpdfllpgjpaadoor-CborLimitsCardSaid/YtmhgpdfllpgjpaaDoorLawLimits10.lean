/- For every two numbers the law CborLimits of package pyxlaw10 returns true, where the library's variables hold what the program's text lays. -/
import Derived.Test.YtmhgpdfllpgjpaaDoorLim10
import Derived.Test.YtmhgpdfllpgjpaaDoorGivM
import Derived.Test.YtmhgpdfllpgjpaaDoorC10P
namespace Go.Proofs.YtmhgpdfllpgjpaaDoor.cborLimits
open Go.RowKit Go.ChangeShapes Go.WideShapes Go.ChangeAt
set_option linter.unusedVariables false

set_option maxHeartbeats 16000000 in
set_option maxRecDepth 100000 in
theorem walk' (N D : Int) (w : World) (h0 : 0 ≤ N) (h1 : N < 256) (h2 : 0 ≤ D) (h3 : D < 256) (hG : Glob10 w) :
    Calls Tryd.prog 7 #[.int .u8 N, .int .u8 D] w fun e w' => e = .returned (.bool true) ∧ Past w w' := by
  have HA := Lib.hid (fun w hG => awake10 w hG)
  have HG := Lib.hid hG
  have HTo := Lib.hid (fun w hG => ltold_flt 2 8 w hG (by omega))
  have HCd := Lib.hid (fun w hG => lcode_code 12 w hG)
  simp only [valFlt] at HTo
  simp only [valCode] at HCd
  obtain ⟨k, hk⟩ : ∃ k : Nat, D % 20 = (k : Int) := ⟨(D % 20).toNat, by omega⟩
  have hk20 : k < 20 := by omega
  obtain ⟨r, hr⟩ : ∃ r : Nat, N % 8 = (r : Int) := ⟨(N % 8).toNat, by omega⟩
  have hr8 : r < 8 := by omega
  have hri : (r : Int) < 8 := by omega
  have HTC := Lib.hid (tab_cell r hr8)
  have hK := tab_le r hr8
  obtain ⟨K, hKe⟩ : ∃ K, tab.getD r 0 = K := ⟨_, rfl⟩
  rw [hKe] at hK HTC
  have HKP := Lib.hid (nst_parse k hk20)
  have HKN : Hid (cnt (nst k) = k + 1 ∧ dep (nst k) = k + 1) := Lib.hid (nst_nums ⟨k, hk20⟩)
  have HK20 := Lib.hid hk20
  have HKD := Lib.hid hk
  clear hG hKe hk20
  go_enter Tryd.func7, Tryd.ntmps7
  go_wp2_with fail
  refine (HA.out _ HG.out).mono ?_
  rintro e w1 ⟨rfl, hp⟩
  have HP := Lib.hid hp
  clear hp HA
  have hc1 : (w1.alloc (.cells #[Value.int .i64 23, .int .i64 24, .int .i64 255, .int .i64 256, .int .i64 65535, .int .i64 65536, .int .i64 1048571, .int .i64 1048572] 3)).cell? ⟨w1.heap.size, r, none⟩ = some (.int .i64 (K : Int)) := by
    rw [(Row.new w1 _ _).cell r]
    exact HTC.out
  have hmk := make8 K (by omega)
  have hK2 : (K : Int) ≤ 1048572 := by omega
  have hwp : ∀ cI : Array Value, Past w1 (((w1.alloc (.cells cI 3)).alloc (.cells (madeCells #[.int .u8 0] K) 5)).alloc (.cells #[.int .i64 2, .int .u64 0, .slice (some ⟨w1.heap.size + 1, 0, none⟩) K K, .slice none 0 0] 27)) ∧
      Sl (((w1.alloc (.cells cI 3)).alloc (.cells (madeCells #[.int .u8 0] K) 5)).alloc (.cells #[.int .i64 2, .int .u64 0, .slice (some ⟨w1.heap.size + 1, 0, none⟩) K K, .slice none 0 0] 27)) (some ⟨w1.heap.size + 1, 0, none⟩) K K (zs K) ∧
      Row (((w1.alloc (.cells cI 3)).alloc (.cells (madeCells #[.int .u8 0] K) 5)).alloc (.cells #[.int .i64 2, .int .u64 0, .slice (some ⟨w1.heap.size + 1, 0, none⟩) K K, .slice none 0 0] 27)) (w1.heap.size + 1 + 1) 27 #[.int .i64 2, .int .u64 0, .slice (some ⟨w1.heap.size + 1, 0, none⟩) K K, .slice none 0 0] := fun cI => by
    refine ⟨((past_alloc8 _ _).trans' (past_alloc8 _ _)).trans' (past_alloc8 _ _), ?_, ?_⟩
    · have := (made_sl K (by omega) (w1.alloc (.cells cI 3))).past (past_alloc8 _ (.cells #[.int .i64 2, .int .u64 0, .slice (some ⟨w1.heap.size + 1, 0, none⟩) K K, .slice none 0 0] 27))
      simpa using this
    · have := Row.new ((w1.alloc (.cells cI 3)).alloc (.cells (madeCells #[.int .u8 0] K) 5)) 27 #[.int .i64 2, .int .u64 0, .slice (some ⟨w1.heap.size + 1, 0, none⟩) K K, .slice none 0 0]
      simpa using this
  have HWP := Lib.hid hwp
  clear hwp
  go_upto_region 5 with (fail)
  have hq := HWP.out #[Value.int .i64 23, .int .i64 24, .int .i64 255, .int .i64 256, .int .i64 65535, .int .i64 65536, .int .i64 1048571, .int .i64 1048572]
  clear HWP hc1 HTC
  generalize ((w1.alloc (.cells #[Value.int .i64 23, .int .i64 24, .int .i64 255, .int .i64 256, .int .i64 65535, .int .i64 65536, .int .i64 1048571, .int .i64 1048572] 3)).alloc (.cells (madeCells #[.int .u8 0] K) 5)).alloc (.cells #[.int .i64 2, .int .u64 0, .slice (some ⟨w1.heap.size + 1, 0, none⟩) K K, .slice none 0 0] 27) = w2 at *
  have H2 : Hid (Past w w2 ∧ Sl w2 (some ⟨w1.heap.size + 1, 0, none⟩) K K (zs K) ∧ Row w2 (w1.heap.size + 1 + 1) 27 #[.int .i64 2, .int .u64 0, .slice (some ⟨w1.heap.size + 1, 0, none⟩) K K, .slice none 0 0]) := Lib.hid ⟨HP.out.trans' hq.1, hq.2⟩
  clear hq HP
  generalize w1.heap.size = h at *
  have hinb : InM w2 (.agg #[.int .i64 2, .int .u64 0, .slice (some ⟨h + 1, 0, none⟩) K K, .slice none 0 0]) (bz K) := leaf4 2 0 (by omega) (by omega) H2.out.2.1
  have HE := Lib.hid (encode_any (t := bz K) (HG.out.bru.past H2.out.1) hinb (by rw [bz_cnt]; omega))
  clear hinb
  have x0 : w2.cell? ⟨h + 1 + 1, 0, none⟩ = some (.int .i64 2) := H2.out.2.2.cell 0
  have x1 : w2.cell? ⟨h + 1 + 1, 1, none⟩ = some (.int .u64 0) := H2.out.2.2.cell 1
  have x2 : w2.cell? ⟨h + 1 + 1, 2, none⟩ = some (.slice (some ⟨h + 1, 0, none⟩) K K) := H2.out.2.2.cell 2
  have x3 : w2.cell? ⟨h + 1 + 1, 3, none⟩ = some (.slice none 0 0) := H2.out.2.2.cell 3
  rcases hK with hK | hK
  · have HPR := Lib.hid (bz_parse K hK)
    have HOK := Lib.hid (bz_ok K hK)
    have HKK := Lib.hid hK
    have hKn : ¬ (1048571 : Int) < (K : Int) := by omega
    go_wp2_with fail
    refine HE.out.mono ?_
    rintro e w3 ⟨he, _⟩
    obtain ⟨A, c, rfl, hS, hp⟩ := he HOK.out
    have H3 := Lib.hid (H2.out.1.trans' hp)
    have HX := parse_any A _ c _ w3 hS
    rw [HPR.out] at HX
    have HHd := Lib.hid (fun w1 => rhead_any 2 K (by omega) (by omega) w1)
    have hHL := headB_len 2 K
    have hlen := bz_len K
    obtain ⟨q, hq⟩ : ∃ q, 1 + hsz K = q := ⟨_, rfl⟩
    have hq5 : q ≤ 5 := by have := hsz_4 K (by omega); omega
    rw [hq] at hHL hlen
    have HHL := Lib.hid hHL
    rw [hlen] at HX ⊢
    have HXX := Lib.hid HX
    have hqi : (q : Int) ≤ 5 := by omega
    clear hS hp HX HE H2 he HPR HOK x0 x1 x2 x3 hHL hlen hq hq5
    go_wp2_with fail
    refine HXX.out.mono ?_
    rintro e w4 ⟨x, y, z, u, rfl, hin, hp⟩
    have hform : ∃ A2 c2 K2 m2 d2, x = .int .i64 2 ∧ y = .int .u64 0 ∧ z = .slice A2 K c2 ∧ u = .slice K2 m2 d2 := by
      unfold bz at hin
      cases hin with
      | mk v0 v1 v2 v3 ht hu hb hl hm hd h0 hc hk =>
        have := hb.len
        rw [zs_len] at this
        subst this
        exact ⟨_, _, _, _, _, rfl, rfl, rfl, rfl⟩
    obtain ⟨A2, c2, K2, m2, d2, rfl, rfl, rfl, rfl⟩ := hform
    obtain ⟨w5, hw5⟩ : ∃ w5, w5 = w4.alloc (.cells #[.int .i64 2, .int .u64 0, .slice A2 K c2, .slice K2 m2 d2] 27) := ⟨_, rfl⟩
    have hp5 : Past w4 w5 := by rw [hw5]; exact past_alloc8 _ _
    have hby := bx_new hin hw5
    obtain ⟨b, hb⟩ : ∃ b, w4.heap.size = b := ⟨_, rfl⟩
    rw [hb] at hby
    have H5 : Hid (Past w w5 ∧ Bx w5 b 2 0 A2 K c2 K2 m2 d2 (bz K)) := Lib.hid ⟨(H3.out.trans' hp).trans' hp5, hby⟩
    have HW5 := Lib.hid hw5
    have HB := Lib.hid hb
    clear hp hp5 hby hw5 hb HXX H3 hin
    go_upto_region 10 with (fail)
    rw [← HW5.out]
    try rw [HB.out]
    clear HW5 HB
    go_wp2_with fail
    refine (HHd.out w5).mono ?_
    rintro e w6 ⟨A6, c6, rfl, _, hp⟩
    rw [HHL.out]
    have H6 : Hid (Past w w6 ∧ Bx w6 b 2 0 A2 K c2 K2 m2 d2 (bz K)) := Lib.hid ⟨H5.out.1.trans' hp, H5.out.2.later hp⟩
    have x2 : w6.cell? ⟨b, 2, none⟩ = some (.slice A2 K c2) := H6.out.2.row.cell 2
    clear hp H5 HHL HHd
    go_upto_region 12 with (fail)
    have HQ := Lib.hid H6.out.1
    clear H6 x2 HKK hqi
    generalize w6 = wq at *
    have H0 : Hid (Nw w wq wq.heap.size 0 none 0 0) := Lib.hid ⟨World.ownsRow_nil _ _ _ _, HQ.out, rfl, HQ.out.size, Nat.le_refl _⟩
    have hk20 := HK20.out
    have hki : (k : Int) < 20 := by omega
    go_upto_region 14 with (fail)
    rw [hk]
    clear hk
    go_wp2_with fail
    obtain ⟨B, hB⟩ : ∃ B, wq.heap.size = B := ⟨_, rfl⟩
    rw [hB] at H0
    clear hB
    go_loopg [12, 13] k (fun q s12 s13 wx => ∃ (j L c : Nat) (A : Option Addr), j ≤ k ∧ q = k - j ∧ s13 = .int .i64 (j : Int) ∧ s12 = .slice A L c ∧ Hid (Nw w wx B j A L c))
    case atStart => exact ⟨0, 0, 0, none, Nat.zero_le _, rfl, rfl, rfl, H0⟩
    case round =>
      clear H0
      obtain ⟨j, L, c, A, hj, hgk, rfl, rfl, HK⟩ := hrel
      have HGK := Lib.hid hgk
      clear hgk
      obtain rfl := HK.out.len
      by_cases hlt : L < k
      · have hli : (L : Int) < (k : Int) := by omega
        have HLT := Lib.hid hlt
        clear hlt hj
        go_wp2_with (at_builtin; refine wpList_append_sl rfl _ _ 22 5 rfl Tryd.underlying22 info8 B _ L (nb L) rfl (HK.out.own.alloc _) (some ⟨wr.heap.size, 0, none⟩) 1 1 [129] rfl (sl_one10 wr 5 _ (by omega)) (by omega) (by have := HK.out.lt; simp only [World.size_alloc]; omega) ?_; intro v5 w5 hown hgrow; obtain ⟨A5, c5, hv⟩ := own_slice hown; subst hv; have H5 := Lib.hid (HK.out.step hown hgrow); clear hown hgrow)
        go_roundg (k - (L + 1))
        case rel => exact ⟨L + 1, L + 1, c5, A5, by have := HLT.out; omega, rfl, by go_num, rfl, H5⟩
        case measure => have := HGK.out; have := HLT.out; omega
      · obtain rfl : L = k := by omega
        have hli : ¬ (L : Int) < (L : Int) := by omega
        have hL20 : L < 1000 := by omega
        clear hlt hj hli
        go_wp2_with (at_builtin; refine wpList_append_sl rfl _ _ 22 5 rfl Tryd.underlying22 info8 B _ L (nb L) rfl (HK.out.own.alloc _) (some ⟨wr.heap.size, 0, none⟩) 1 1 [0] rfl (sl_one10 wr 5 _ (by omega)) (by omega) (by have := HK.out.lt; simp only [World.size_alloc]; omega) ?_; intro v5 w5 hown hgrow; obtain ⟨A5, c5, hv⟩ := own_slice hown; subst hv; have H5 : Hid (Past w w5 ∧ Sl w5 A5 (L + 1) c5 (nb L ++ [0])) := Lib.hid ⟨past_push (HK.out.past.trans' (past_alloc8 wr _)) HK.out.ge (HK.out.own.alloc _) hgrow, Sl.of_own hown (fun x hx => (List.mem_append.1 hx).elim (nb_rng L x) (fun hx => by rw [List.mem_singleton.1 hx]; omega))⟩; clear hown hgrow)
        have HX := parse_any A5 (L + 1) c5 _ w5 H5.out.2
        rw [HKP.out] at HX
        clear HK HKP
        by_cases h8 : 8 ≤ L
        · have h8i : (8 : Int) ≤ (L : Int) := by omega
          rw [if_pos h8] at HX
          clear h8
          refine HX.mono ?_
          clear HX
          rintro e w6 ⟨x, y, z, u, rfl, hin, hp⟩
          obtain ⟨kd, nm, A1, n1, c1, K1, m, d, rfl, rfl, rfl, rfl⟩ := hin.shape
          have H7 := Lib.hid ((H5.out.1.trans' hp).trans' (past_alloc8 w6 (.cells #[.int .i64 kd, .int .u64 nm, .slice A1 n1 c1, .slice K1 m d] 27)))
          clear hin hp H5
          simp only [valFlt]
          go_upto_region 19 with (fail)
          generalize w6.alloc (.cells #[.int .i64 kd, .int .u64 nm, .slice A1 n1 c1, .slice K1 m d] 27) = w7 at *
          go_wp2_with fail
          refine (HTo.out _ (HG.out.err.past H7.out)).mono ?_
          rintro e w8 ⟨rfl, hp⟩
          have H8 := Lib.hid (H7.out.trans' hp)
          clear hp H7
          go_wp2_with fail
          go_ret
          exact ⟨rfl, H8.out⟩
        · have h8i : ¬ (8 : Int) ≤ (L : Int) := by omega
          rw [if_neg h8] at HX
          clear h8
          refine HX.mono ?_
          clear HX
          rintro e w6 ⟨x, y, z, u, rfl, hin, hp⟩
          obtain ⟨kd, nm, A1, n1, c1, K1, m, d, rfl, rfl, rfl, rfl⟩ := hin.shape
          obtain ⟨w7, hw7⟩ : ∃ w7, w7 = w6.alloc (.cells #[.int .i64 kd, .int .u64 nm, .slice A1 n1 c1, .slice K1 m d] 27) := ⟨_, rfl⟩
          have hp7 : Past w6 w7 := by rw [hw7]; exact past_alloc8 _ _
          have hby := bx_new hin hw7
          obtain ⟨b, hb⟩ : ∃ b, w6.heap.size = b := ⟨_, rfl⟩
          rw [hb] at hby
          have H7 : Hid (Past w w7 ∧ Bx w7 b kd nm A1 n1 c1 K1 m d (nst L)) := Lib.hid ⟨(H5.out.1.trans' hp).trans' hp7, hby⟩
          have HW7 := Lib.hid hw7
          have HB := Lib.hid hb
          clear hp hp7 hby hw7 hb H5 hin
          go_upto_region 19 with (fail)
          rw [← HW7.out]
          try rw [HB.out]
          clear HW7 HB
          have x0 : w7.cell? ⟨b, 0, none⟩ = some (.int .i64 kd) := H7.out.2.row.cell 0
          have x1 : w7.cell? ⟨b, 1, none⟩ = some (.int .u64 nm) := H7.out.2.row.cell 1
          have x2 : w7.cell? ⟨b, 2, none⟩ = some (.slice A1 n1 c1) := H7.out.2.row.cell 2
          have x3 : w7.cell? ⟨b, 3, none⟩ = some (.slice K1 m d) := H7.out.2.row.cell 3
          go_wp2_with fail
          refine (back_any H7.out.2.inm _ (Below.refl _ _) (by have := HKN.out.1; have := HK20.out; omega)).mono ?_
          rintro e w8 ⟨xa, ya, za, ua, rfl, hp, hl⟩
          have H8 : Hid (Past w w8 ∧ InM w8 (.agg #[xa, ya, za, ua]) (nst L)) := Lib.hid ⟨H7.out.1.trans' hp, hl w8 (fun _ _ => rfl)⟩
          clear hp hl H7 x0 x1 x2 x3
          go_wp2_with fail
          refine (rdepth_any H8.out.2 _ (Below.refl _ _) (by have := HKN.out.1; have := HK20.out; omega)).mono ?_
          rintro e w9 ⟨rfl, hp⟩
          have H9 := Lib.hid (H8.out.1.trans' hp)
          rw [HKN.out.2]
          clear hp H8
          go_wp2_with fail
          go_ret
          exact ⟨rfl, H9.out⟩
  · subst hK
    go_wp2_with fail
    refine HE.out.mono ?_
    rintro e w3 ⟨_, he⟩
    obtain ⟨A, c, rfl, hp⟩ := he bz_no
    have H3 := Lib.hid (H2.out.1.trans' hp)
    clear hp H2 he HE x0 x1 x2 x3 hmk
    simp only [valCode]
    go_wp2_with fail
    refine (HCd.out _ (HG.out.err.past H3.out)).mono ?_
    rintro e w4 ⟨rfl, hp⟩
    have HQ := Lib.hid (H3.out.trans' hp)
    clear hp H3
    go_upto_region 12 with (fail)
    generalize w4 = wq at *
    have H0 : Hid (Nw w wq wq.heap.size 0 none 0 0) := Lib.hid ⟨World.ownsRow_nil _ _ _ _, HQ.out, rfl, HQ.out.size, Nat.le_refl _⟩
    have hk20 := HK20.out
    have hki : (k : Int) < 20 := by omega
    go_upto_region 14 with (fail)
    rw [hk]
    clear hk
    go_wp2_with fail
    obtain ⟨B, hB⟩ : ∃ B, wq.heap.size = B := ⟨_, rfl⟩
    rw [hB] at H0
    clear hB
    go_loopg [12, 13] k (fun q s12 s13 wx => ∃ (j L c : Nat) (A : Option Addr), j ≤ k ∧ q = k - j ∧ s13 = .int .i64 (j : Int) ∧ s12 = .slice A L c ∧ Hid (Nw w wx B j A L c))
    case atStart => exact ⟨0, 0, 0, none, Nat.zero_le _, rfl, rfl, rfl, H0⟩
    case round =>
      clear H0
      obtain ⟨j, L, c, A, hj, hgk, rfl, rfl, HK⟩ := hrel
      have HGK := Lib.hid hgk
      clear hgk
      obtain rfl := HK.out.len
      by_cases hlt : L < k
      · have hli : (L : Int) < (k : Int) := by omega
        have HLT := Lib.hid hlt
        clear hlt hj
        go_wp2_with (at_builtin; refine wpList_append_sl rfl _ _ 22 5 rfl Tryd.underlying22 info8 B _ L (nb L) rfl (HK.out.own.alloc _) (some ⟨wr.heap.size, 0, none⟩) 1 1 [129] rfl (sl_one10 wr 5 _ (by omega)) (by omega) (by have := HK.out.lt; simp only [World.size_alloc]; omega) ?_; intro v5 w5 hown hgrow; obtain ⟨A5, c5, hv⟩ := own_slice hown; subst hv; have H5 := Lib.hid (HK.out.step hown hgrow); clear hown hgrow)
        go_roundg (k - (L + 1))
        case rel => exact ⟨L + 1, L + 1, c5, A5, by have := HLT.out; omega, rfl, by go_num, rfl, H5⟩
        case measure => have := HGK.out; have := HLT.out; omega
      · obtain rfl : L = k := by omega
        have hli : ¬ (L : Int) < (L : Int) := by omega
        have hL20 : L < 1000 := by omega
        clear hlt hj hli
        go_wp2_with (at_builtin; refine wpList_append_sl rfl _ _ 22 5 rfl Tryd.underlying22 info8 B _ L (nb L) rfl (HK.out.own.alloc _) (some ⟨wr.heap.size, 0, none⟩) 1 1 [0] rfl (sl_one10 wr 5 _ (by omega)) (by omega) (by have := HK.out.lt; simp only [World.size_alloc]; omega) ?_; intro v5 w5 hown hgrow; obtain ⟨A5, c5, hv⟩ := own_slice hown; subst hv; have H5 : Hid (Past w w5 ∧ Sl w5 A5 (L + 1) c5 (nb L ++ [0])) := Lib.hid ⟨past_push (HK.out.past.trans' (past_alloc8 wr _)) HK.out.ge (HK.out.own.alloc _) hgrow, Sl.of_own hown (fun x hx => (List.mem_append.1 hx).elim (nb_rng L x) (fun hx => by rw [List.mem_singleton.1 hx]; omega))⟩; clear hown hgrow)
        have HX := parse_any A5 (L + 1) c5 _ w5 H5.out.2
        rw [HKP.out] at HX
        clear HK HKP
        by_cases h8 : 8 ≤ L
        · have h8i : (8 : Int) ≤ (L : Int) := by omega
          rw [if_pos h8] at HX
          clear h8
          refine HX.mono ?_
          clear HX
          rintro e w6 ⟨x, y, z, u, rfl, hin, hp⟩
          obtain ⟨kd, nm, A1, n1, c1, K1, m, d, rfl, rfl, rfl, rfl⟩ := hin.shape
          have H7 := Lib.hid ((H5.out.1.trans' hp).trans' (past_alloc8 w6 (.cells #[.int .i64 kd, .int .u64 nm, .slice A1 n1 c1, .slice K1 m d] 27)))
          clear hin hp H5
          simp only [valFlt]
          go_upto_region 19 with (fail)
          generalize w6.alloc (.cells #[.int .i64 kd, .int .u64 nm, .slice A1 n1 c1, .slice K1 m d] 27) = w7 at *
          go_wp2_with fail
          refine (HTo.out _ (HG.out.err.past H7.out)).mono ?_
          rintro e w8 ⟨rfl, hp⟩
          have H8 := Lib.hid (H7.out.trans' hp)
          clear hp H7
          go_wp2_with fail
          go_ret
          exact ⟨rfl, H8.out⟩
        · have h8i : ¬ (8 : Int) ≤ (L : Int) := by omega
          rw [if_neg h8] at HX
          clear h8
          refine HX.mono ?_
          clear HX
          rintro e w6 ⟨x, y, z, u, rfl, hin, hp⟩
          obtain ⟨kd, nm, A1, n1, c1, K1, m, d, rfl, rfl, rfl, rfl⟩ := hin.shape
          obtain ⟨w7, hw7⟩ : ∃ w7, w7 = w6.alloc (.cells #[.int .i64 kd, .int .u64 nm, .slice A1 n1 c1, .slice K1 m d] 27) := ⟨_, rfl⟩
          have hp7 : Past w6 w7 := by rw [hw7]; exact past_alloc8 _ _
          have hby := bx_new hin hw7
          obtain ⟨b, hb⟩ : ∃ b, w6.heap.size = b := ⟨_, rfl⟩
          rw [hb] at hby
          have H7 : Hid (Past w w7 ∧ Bx w7 b kd nm A1 n1 c1 K1 m d (nst L)) := Lib.hid ⟨(H5.out.1.trans' hp).trans' hp7, hby⟩
          have HW7 := Lib.hid hw7
          have HB := Lib.hid hb
          clear hp hp7 hby hw7 hb H5 hin
          go_upto_region 19 with (fail)
          rw [← HW7.out]
          try rw [HB.out]
          clear HW7 HB
          have x0 : w7.cell? ⟨b, 0, none⟩ = some (.int .i64 kd) := H7.out.2.row.cell 0
          have x1 : w7.cell? ⟨b, 1, none⟩ = some (.int .u64 nm) := H7.out.2.row.cell 1
          have x2 : w7.cell? ⟨b, 2, none⟩ = some (.slice A1 n1 c1) := H7.out.2.row.cell 2
          have x3 : w7.cell? ⟨b, 3, none⟩ = some (.slice K1 m d) := H7.out.2.row.cell 3
          go_wp2_with fail
          refine (back_any H7.out.2.inm _ (Below.refl _ _) (by have := HKN.out.1; have := HK20.out; omega)).mono ?_
          rintro e w8 ⟨xa, ya, za, ua, rfl, hp, hl⟩
          have H8 : Hid (Past w w8 ∧ InM w8 (.agg #[xa, ya, za, ua]) (nst L)) := Lib.hid ⟨H7.out.1.trans' hp, hl w8 (fun _ _ => rfl)⟩
          clear hp hl H7 x0 x1 x2 x3
          go_wp2_with fail
          refine (rdepth_any H8.out.2 _ (Below.refl _ _) (by have := HKN.out.1; have := HK20.out; omega)).mono ?_
          rintro e w9 ⟨rfl, hp⟩
          have H9 := Lib.hid (H8.out.1.trans' hp)
          rw [HKN.out.2]
          clear hp H8
          go_wp2_with fail
          go_ret
          exact ⟨rfl, H9.out⟩

theorem walk (N D : Int) (w : World) (h1 : (Lit.int .u8 N).wf = true) (h2 : (Lit.int .u8 D).wf = true) (hG : Glob10 w) :
    Calls Tryd.prog 7 #[.int .u8 N, .int .u8 D] w fun e w' => e = .returned (.bool true) ∧ Past w w' := by
  have hb := bounds_u8 h2
  have hb2 := bounds_u8 h1
  exact walk' N D w (by omega) (by omega) (by omega) (by omega) hG

def args0 : Array Value := #[.int .u8 0, .int .u8 0]
theorem laid_met (os : Os) : laidMetH Tryd.prog Rows.cborLimitsRow.laid ((laidWorld os).forCall (fun _ _ => 0) ⟨#[], args0, []⟩).memory :=
  laid_world os args0
theorem witness_row (os : Os) {H : Type} (enc : TypeId × Value → H) :
    (OpenSpec.ofChange Rows.cborLimitsSpec).preRow enc Tryd.prog Tryd.f7 Rows.cborLimitsRow.domain false Rows.cborLimitsRow.laid ((laidWorld os).forCall (fun _ _ => 0) ⟨#[], args0, []⟩).memory args0 := by
  have hw : (DataW.whole enc Tryd.prog ((laidWorld os).forCall (fun _ _ => 0) ⟨#[], args0, []⟩).memory Tryd.f7.params.toList (OpenSpec.ofChange Rows.cborLimitsSpec).vars false args0.toList 8).map (fun x => (x.1, x.2.1)) =
      some ([.lit (.int .u8 0), .lit (.int .u8 0)], []) := by kernel_rfl
  obtain ⟨⟨x1, x2, x3⟩, hx, hx1⟩ := Option.map_eq_some_iff.1 hw
  simp only [Prod.mk.injEq] at hx1
  obtain ⟨rfl, rfl⟩ := hx1
  exact OpenSpec.preRow_of_cond 8 hx (by kernel_rfl) (fun k hk => by cases hk) (by kernel_rfl) (laid_met os)

set_option maxRecDepth 100000 in
set_option maxHeartbeats 2000000 in
theorem lifted (os : Os) (started : os.Started) (H : Type) (enc : TypeId × Value → H) (F : Stop.Interp) :
    ReturnsInHanded {} Tryd.checked os 7 .any ((OpenSpec.ofChange Rows.cborLimitsSpec).preRow enc Tryd.prog Tryd.f7 Rows.cborLimitsRow.domain false Rows.cborLimitsRow.laid) (((OpenSpec.ofChange Rows.cborLimitsSpec).at F).post enc Tryd.prog Tryd.f7 false true false false) := by
  refine returnsInHanded_of_row (C := Tryd.checked) (s := OpenSpec.ofChange Rows.cborLimitsSpec) own started (by kernel_rfl) Tryd.func7
    (witness_row_atRef (enc := enc) (C := Tryd.checked) false (laidWorld os) args0 rfl (by kernel_rfl) (by kernel_rfl) (by kernel_rfl) (witness_row os enc)) ?_
  intro W base args ds gs before hval0 hW _ hcnd _ hL hsh _
  have hval : ∀ (j : Nat) t v, Tryd.f7.params[j]? = some t → args[j]? = some v → Value.okWide Tryd.prog W .any base t v := hval0
  have hW' := hW
  obtain ⟨p, q, hA0, hV, rfl, hfz, hnd⟩ := hW
  have hA : DataW.TrodAll enc Tryd.prog W 0 (fun _ => true) true Tryd.f7.params.toList args.toList ds p := hA0
  rw [Tryd.params7] at hA hval
  obtain ⟨v0, vs0, d0, ds0, p0, q0, hargs, rfl, rfl, h0, r0⟩ := trodAll_cons hA
  obtain ⟨v1, vs1, d1, ds1, p1, q1, rfl, rfl, rfl, h1, r1⟩ := trodAll_cons r0
  obtain ⟨rfl, rfl, rfl⟩ := trodAll_nil r1
  obtain rfl : args = #[v0, v1] := by cases args; simp_all
  obtain ⟨rfl, rfl⟩ := trodVars_none hV
  obtain ⟨a0, rfl, rfl, rfl, w0⟩ := open_int Tryd.underlying5 (hval 0 5 v0 rfl rfl) h0
  obtain ⟨a1, rfl, rfl, rfl, w1⟩ := open_int Tryd.underlying5 (hval 1 5 v1 rfl rfl) h1
  have hG := glob_of_row hL
  clear hA0 hval0
  refine (walk a0 a1 W w0 w1 hG).mono fun e W' ⟨he, bel⟩ => ?_
  subst he
  exact ⟨_, rfl, _, _, _, [], _, [], hW', trodAll_mk1 (shut_bool Tryd.underlying4 _), (trodAll_cons_mk (shut_int Tryd.underlying5 w0) (trodAll_cons_mk (shut_int Tryd.underlying5 w1) trodAll_mk0)), rfl, bel.frame _, fun h => by cases h⟩

theorem row_holds : Rows.CborLimitsSaid :=
  OpenClaim.holds_of_cond 7 Tryd.f7 rfl rfl rfl rfl rfl rfl rfl ⟨rfl, rfl, rfl, rfl, rfl⟩ rfl rfl rfl rfl rfl (by kernel_rfl) Tryd.func7 (by kernel_rfl)
    (of_decide_eq_true (by kernel_rfl)) (by unfold Func.isWrapper; first | (rw [if_pos (by decide +kernel)]; kernel_rfl) | (rw [if_neg (by decide +kernel)]; exact ⟨rfl, rfl⟩))
    (fun os started H enc _ F0 => by rw [OpenClaim.pre_eq_preRow]; exact lifted os started H enc F0)

theorem card : Rows.CborLimitsCardSaid :=
  Claim7.holds_tied_plain_at .later [] [.data, .data, .handle] true Rows.cborLimitsCard.stood.harness true
    row_holds (fun _ h => by cases h) (by kernel_rfl) (fun _ h => by cases h) cborLimits_row_tie rfl ⟨rfl, rfl⟩ (by kernel_rfl) rfl
    (fun f fn hf hfn => by
      obtain rfl : f = 7 := Option.some.inj ((show Tryd.prog.funcNamed "pyx/pyxlaw10.CborLimits" = some 7 by kernel_rfl).symm.trans hf) |>.symm
      obtain rfl : fn = Tryd.f7 := (Option.some.inj (Tryd.func7.symm.trans hfn)).symm
      exact ⟨by kernel_rfl, fun j t ht => by
        rw [Tryd.params7] at ht
        obtain rfl : t = 5 := by
          rcases j with _ | _ | j
          · simpa using ht.symm
          · simpa using ht.symm
          · simp at ht
        exact (show Tryd.prog.wantsStandIn 5 = false by kernel_rfl)⟩)
    (by kernel_rfl)


end Go.Proofs.YtmhgpdfllpgjpaaDoor.cborLimits
