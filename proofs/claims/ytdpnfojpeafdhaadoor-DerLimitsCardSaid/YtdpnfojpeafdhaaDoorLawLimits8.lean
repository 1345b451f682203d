/- For every two numbers the law DerLimits of package pyxlaw08 returns true, where the variable errors.errorType holds what the program's text lays. -/
import Derived.Test.YtdpnfojpeafdhaaDoorFrame8
import Derived.Test.YtdpnfojpeafdhaaDoorD8O
import Derived.Test.YtdpnfojpeafdhaaDoorTxt8
import Derived.Laws.MakeOwn
namespace Go.Proofs.YtdpnfojpeafdhaaDoor.derLimits
open Go.RowKit Go.ChangeShapes Go.WideShapes Go.ChangeAt
set_option linter.unusedVariables false

def tab (M : Nat) : List Nat := [127, 128, 255, 256, 65535, 65536, 1048571, 1048572, M]
theorem tab_cell (M : Nat) : ∀ r, r < 9 → (#[Value.int .i64 127, .int .i64 128, .int .i64 255, .int .i64 256, .int .i64 65535, .int .i64 65536, .int .i64 1048571, .int .i64 1048572, .int .i64 (M : Int)] : Array Value)[r]? = some (.int .i64 (((tab M).getD r 0 : Nat) : Int))
  | 0, _ => rfl
  | 1, _ => rfl
  | 2, _ => rfl
  | 3, _ => rfl
  | 4, _ => rfl
  | 5, _ => rfl
  | 6, _ => rfl
  | 7, _ => rfl
  | 8, _ => rfl
  | r + 9, h => by omega
theorem tab_le (M : Nat) (hM : M < 3000) : ∀ r, r < 9 → (tab M).getD r 0 ≤ 1048571 ∨ (tab M).getD r 0 = 1048572
  | 0, _ => .inl (by simp [tab])
  | 1, _ => .inl (by simp [tab])
  | 2, _ => .inl (by simp [tab])
  | 3, _ => .inl (by simp [tab])
  | 4, _ => .inl (by simp [tab])
  | 5, _ => .inl (by simp [tab])
  | 6, _ => .inl (by simp [tab])
  | 7, _ => .inr rfl
  | 8, _ => .inl (by show M ≤ 1048571; omega)
  | r + 9, h => by omega

/-- A node with K zeros. -/
def zs (K : Nat) : List Int := List.replicate K 0
def lf (K : Nat) : T := .node 4 (zs K) []
theorem zs_len (K : Nat) : (zs K).length = K := List.length_replicate
theorem zs_rng (K : Nat) : ∀ x ∈ zs K, 0 ≤ x ∧ x < 256 := fun x hx => by
  rw [List.eq_of_mem_replicate hx]
  omega
theorem lf_txt (K : Nat) : txt (lf K) = headB 4 (zs K) := rfl
theorem lf_len (K : Nat) : (txt (lf K)).length = 1 + (lenB K).length + K := by
  rw [lf_txt]
  unfold headB
  rw [List.length_append, List.length_cons, zs_len]
  omega
theorem lenB_max : (lenB 1048572).length = 4 := by
  unfold lenB
  rw [if_neg (by decide), List.length_cons, numB_pos (by decide), List.length_append, numB_pos (by decide), List.length_append, numB_pos (by decide), List.length_append, show 1048572 / 256 / 256 / 256 = 0 from rfl, numB_zero]
  rfl
theorem lenB_4 (K : Nat) (h : K ≤ 1048572) : (lenB K).length ≤ 4 := by
  unfold lenB
  split
  · simp
  · have := numB_le 3 K (by omega)
    rw [List.length_cons]
    omega
theorem lf_ok (K : Nat) (h : K ≤ 1048571) : okT (lf K) = true := by
  have hl := lf_len K
  have h4 := lenB_4 K (by omega)
  unfold okT
  exact decide_eq_true ⟨by show depL [] 1 ≤ 8; simp [depL], shp_leaf 4 _ (by decide) (by decide), by omega⟩
theorem lf_no : okT (lf 1048572) = false := by
  have hl := lf_len 1048572
  rw [lenB_max] at hl
  unfold okT
  refine decide_eq_false fun h => ?_
  omega
theorem lf_fits (K : Nat) (h : K ≤ 1048572) : fits (lf K) := ⟨by show depL [] 1 ≤ _; simp [depL], by show cntL [] 1 ≤ _; simp [cntL], by rw [lf_len]; have := lenB_4 K h; omega⟩
theorem txt_rng (K : Nat) (h : K ≤ 1048572) : ∀ x ∈ txt (lf K), 0 ≤ x ∧ x < 256 := by
  intro x hx
  rw [lf_txt] at hx
  unfold headB at hx
  rcases List.mem_append.1 hx with hx | hx
  · rcases List.mem_cons.1 hx with rfl | hx
    · omega
    · unfold lenB at hx
      split at hx
      · obtain rfl : x = _ := List.mem_singleton.1 hx
        omega
      · rcases List.mem_cons.1 hx with rfl | hx
        · rw [zs_len] at *
          have := numB_le 3 K (by omega)
          omega
        · exact numB_rng _ x hx
  · exact zs_rng K x hx
theorem getD_of {xs : List Int} (h : ∀ x ∈ xs, 0 ≤ x ∧ x < 256) (i : Nat) : 0 ≤ xs.getD i 0 ∧ xs.getD i 0 < 256 := by
  rw [List.getD_eq_getElem?_getD]
  by_cases hi : i < xs.length
  · rw [List.getElem?_eq_getElem hi]
    exact h _ (List.getElem_mem hi)
  · rw [List.getElem?_eq_none (by omega)]
    simp
theorem lf_parse (K : Nat) (h : K ≤ 1048571) : parseL (txt (lf K)) (txt (lf K)).length = .ok (lf K) (txt (lf K)).length := by
  have hl := lf_len K
  have h4 := lenB_4 K (by omega)
  unfold parseL
  rw [if_neg (by omega)]
  exact rd_leaf (getD_of (txt_rng K (by omega))) 4 (zs K) rfl (by rw [zs_len]; omega) (by decide) (by decide)

theorem make8 (N : Nat) (hN : N ≤ 2000000) (w : World) : (Instr.makeSlice 22 (.int .i64 (N : Int)) (.int .i64 (N : Int))).run Tryd.prog w = .ok (.slice (some ⟨w.heap.size, 0, none⟩) N N) (w.alloc (.cells (madeCells #[.int .u8 0] N) 5)) := by
  obtain ⟨i0, hi, hz0, hz1, hz2⟩ := info_parts info8
  have h := run_make (P := Tryd.prog) w 22 5 i0 (.int .u8 0) Tryd.underlying22 hi hz0 .i64 .i64 (N : Int) (N : Int) (by omega) (Int.le_refl _) (by rw [hz2]; omega) (by omega)
  rw [hz1, Nat.mul_one, Int.toNat_natCast] at h
  exact h
theorem made_sl (N : Nat) (hN : N ≤ 2000000) (w : World) : Sl (w.alloc (.cells (madeCells #[.int .u8 0] N) 5)) (some ⟨w.heap.size, 0, none⟩) N N (zs N) := by
  refine Sl.lit8 w (zs N) _ N ?_ (size_madeCells _ _) (by unfold maxLen; omega) (zs_rng N)
  refine List.ext_getElem? fun i => ?_
  by_cases hi : i < N
  · simp [madeCells, zs, hi, Nat.mod_one]
  · simp [madeCells, zs, hi]

set_option maxHeartbeats 4000000 in
set_option maxRecDepth 100000 in
theorem walk' (H : Prog8) (N C : Int) (w : World) (h0 : 0 ≤ N) (h1 : N ≤ 4294967295) (h2 : 0 ≤ C) (h3 : C < 256) (hG : Glob w) :
    Calls Tryd.prog 5 #[.int .u32 N, .int .u8 C] w fun e w' => e = .returned (.bool true) ∧ Past w w' := by
  have HA := Lib.hid (fun w hG => awake8 H w hG)
  have HG := Lib.hid hG
  have HPa := Lib.hid H.parse
  have HEn := Lib.hid H.encode
  have HVa := Lib.hid H.valid
  have HTo := Lib.hid (fun w hG => ltold_flt 1 1048576 w hG (by omega))
  have HCd := Lib.hid (fun w hG => lcode_code 12 w hG)
  simp only [valFlt] at HTo
  simp only [valCode] at HCd
  obtain ⟨M, hM⟩ : ∃ M : Nat, N % 3000 = (M : Int) := ⟨(N % 3000).toNat, by omega⟩
  obtain ⟨r, hr⟩ : ∃ r : Nat, C % 9 = (r : Int) := ⟨(C % 9).toNat, by omega⟩
  have hr9 : r < 9 := by omega
  have hri : (r : Int) < 9 := by omega
  have HTC := Lib.hid (tab_cell M r hr9)
  have hK := tab_le M (by omega) r hr9
  obtain ⟨K, hKe⟩ : ∃ K, (tab M).getD r 0 = K := ⟨_, rfl⟩
  rw [hKe] at hK HTC
  clear hG H hKe
  go_enter Tryd.func5, Tryd.ntmps5
  go_wp2_with fail
  refine (HA.out _ HG.out).mono ?_
  rintro e w1 ⟨rfl, hp⟩
  have HP := Lib.hid hp
  clear hp HA
  have hc1 : (w1.alloc (.cells #[Value.int .i64 127, .int .i64 128, .int .i64 255, .int .i64 256, .int .i64 65535, .int .i64 65536, .int .i64 1048571, .int .i64 1048572, .int .i64 (M : Int)] 3)).cell? ⟨w1.heap.size, r, none⟩ = some (.int .i64 (K : Int)) := by
    rw [(Row.new w1 _ _).cell r]
    exact HTC.out
  have hmk := make8 K (by omega)
  have hmz : ∀ w, (Instr.makeSlice 22 (.int .i64 1048577) (.int .i64 1048577)).run Tryd.prog w = .ok (.slice (some ⟨w.heap.size, 0, none⟩) 1048577 1048577) (w.alloc (.cells (madeCells #[.int .u8 0] 1048577) 5)) := fun w => make8 1048577 (by omega) w
  have HRT : Hid (∀ w A, Sl w A K K (zs K) → Calls Tryd.prog 20 #[.agg #[.int .u8 4, .slice A K K, .slice none 0 0]] w fun e w' => ∃ A' c, e = .returned (.slice A' (txt (lf K)).length c) ∧ Past w w') := Lib.hid fun w A h => by
    have hl := lf_len K
    have h4 := lenB_4 K (by omega)
    refine (rtext_any (leaf_in 4 (by omega) h) w (Below.refl _ _) (by show cntL [] 1 ≤ _; simp [cntL]) (by show (txt (lf K)).length ≤ _; omega)).mono ?_
    rintro e w' ⟨A', c, rfl, _, hp⟩
    exact ⟨A', c, rfl, hp⟩
  have hK2 : (K : Int) ≤ 1048572 := by omega
  have hwp : ∀ cI : Array Value, Past w1 (((w1.alloc (.cells cI 3)).alloc (.cells (madeCells #[.int .u8 0] K) 5)).alloc (.cells #[.int .u8 4, .slice (some ⟨w1.heap.size + 1, 0, none⟩) K K, .slice none 0 0] 26)) ∧
      Sl (((w1.alloc (.cells cI 3)).alloc (.cells (madeCells #[.int .u8 0] K) 5)).alloc (.cells #[.int .u8 4, .slice (some ⟨w1.heap.size + 1, 0, none⟩) K K, .slice none 0 0] 26)) (some ⟨w1.heap.size + 1, 0, none⟩) K K (zs K) ∧
      Row (((w1.alloc (.cells cI 3)).alloc (.cells (madeCells #[.int .u8 0] K) 5)).alloc (.cells #[.int .u8 4, .slice (some ⟨w1.heap.size + 1, 0, none⟩) K K, .slice none 0 0] 26)) (w1.heap.size + 1 + 1) 26 #[.int .u8 4, .slice (some ⟨w1.heap.size + 1, 0, none⟩) K K, .slice none 0 0] := fun cI => by
    refine ⟨((past_alloc8 _ _).trans' (past_alloc8 _ _)).trans' (past_alloc8 _ _), ?_, ?_⟩
    · have := (made_sl K (by omega) (w1.alloc (.cells cI 3))).past (past_alloc8 _ (.cells #[.int .u8 4, .slice (some ⟨w1.heap.size + 1, 0, none⟩) K K, .slice none 0 0] 26))
      simpa using this
    · have := Row.new ((w1.alloc (.cells cI 3)).alloc (.cells (madeCells #[.int .u8 0] K) 5)) 26 #[.int .u8 4, .slice (some ⟨w1.heap.size + 1, 0, none⟩) K K, .slice none 0 0]
      simpa using this
  have HWP := Lib.hid hwp
  clear hwp
  go_wp2_with fail
  have hq := HWP.out #[Value.int .i64 127, .int .i64 128, .int .i64 255, .int .i64 256, .int .i64 65535, .int .i64 65536, .int .i64 1048571, .int .i64 1048572, .int .i64 (M : Int)]
  clear HWP hc1 HTC
  first
    | rw [hM]
    | skip
  generalize ((w1.alloc (.cells #[Value.int .i64 127, .int .i64 128, .int .i64 255, .int .i64 256, .int .i64 65535, .int .i64 65536, .int .i64 1048571, .int .i64 1048572, .int .i64 (M : Int)] 3)).alloc (.cells (madeCells #[.int .u8 0] K) 5)).alloc (.cells #[.int .u8 4, .slice (some ⟨w1.heap.size + 1, 0, none⟩) K K, .slice none 0 0] 26) = w2 at *
  have H2 : Hid (Past w w2 ∧ Sl w2 (some ⟨w1.heap.size + 1, 0, none⟩) K K (zs K) ∧ Row w2 (w1.heap.size + 1 + 1) 26 #[.int .u8 4, .slice (some ⟨w1.heap.size + 1, 0, none⟩) K K, .slice none 0 0]) := Lib.hid ⟨HP.out.trans' hq.1, hq.2⟩
  clear hq HP
  generalize w1.heap.size = h at *
  have HE := Lib.hid (HEn.out _ (lf K) w2 (leaf_in 4 (by omega) H2.out.2.1) (lf_fits K (by omega)))
  rcases hK with hK | hK
  · have HPR := Lib.hid (lf_parse K hK)
    have HOK := Lib.hid (lf_ok K hK)
    have hKn : ¬ (1048571 : Int) < (K : Int) := by omega
    have hll := lf_len K
    have h4 := lenB_4 K (by omega)
    have hL : (txt (lf K)).length ≤ 1048576 := by omega
    clear hll h4
    refine HE.out.mono ?_
    rintro e w3 he
    obtain ⟨A, c, rfl, hS, hp⟩ := he.1 HOK.out
    have H3 : Hid (Past w w3 ∧ Sl w3 (some ⟨h + 1, 0, none⟩) K K (zs K) ∧ Row w3 (h + 1 + 1) 26 #[.int .u8 4, .slice (some ⟨h + 1, 0, none⟩) K K, .slice none 0 0]) := Lib.hid ⟨H2.out.1.trans' hp, H2.out.2.1.past hp, H2.out.2.2.past hp⟩
    have HX := HPa.out A _ c _ w3 hS (by omega)
    rw [HPR.out] at HX
    have HXX := Lib.hid HX
    clear hS hp HX HE H2 he HPR HOK hmz
    generalize (txt (lf K)).length = L at *
    have hLi : (L : Int) ≤ 1048576 := by omega
    go_wp2_with fail
    refine HXX.out.mono ?_
    rintro e w4 ⟨x, y, z, rfl, hin, hp⟩
    have hform : ∃ A2 c2 K2 m2 d2, x = .int .u8 4 ∧ y = .slice A2 K c2 ∧ z = .slice K2 m2 d2 := by
      unfold lf at hin
      cases hin with
      | mk v0 v1 v2 ht hb hl hm hd h0 hc hk =>
        have := hb.len
        rw [zs_len] at this
        subst this
        exact ⟨_, _, _, _, _, rfl, rfl, rfl⟩
    obtain ⟨A2, c2, K2, m2, d2, rfl, rfl, rfl⟩ := hform
    have hpn := hp.trans' (past_alloc8 w4 (.cells #[.int .u8 4, .slice A2 K c2, .slice K2 m2 d2] 26))
    have H4 : Hid (Past w (w4.alloc (.cells #[.int .u8 4, .slice A2 K c2, .slice K2 m2 d2] 26)) ∧ Sl (w4.alloc (.cells #[.int .u8 4, .slice A2 K c2, .slice K2 m2 d2] 26)) (some ⟨h + 1, 0, none⟩) K K (zs K) ∧ Row (w4.alloc (.cells #[.int .u8 4, .slice A2 K c2, .slice K2 m2 d2] 26)) (h + 1 + 1) 26 #[.int .u8 4, .slice (some ⟨h + 1, 0, none⟩) K K, .slice none 0 0] ∧
        Row (w4.alloc (.cells #[.int .u8 4, .slice A2 K c2, .slice K2 m2 d2] 26)) w4.heap.size 26 #[.int .u8 4, .slice A2 K c2, .slice K2 m2 d2]) :=
      Lib.hid ⟨H3.out.1.trans' hpn, H3.out.2.1.past hpn, H3.out.2.2.past hpn, Row.new _ _ _⟩
    clear hin hp hpn H3 HXX
    have g1 : (w4.alloc (.cells #[.int .u8 4, .slice A2 K c2, .slice K2 m2 d2] 26)).cell? ⟨h + 1 + 1, 1, none⟩ = some (.slice (some ⟨h + 1, 0, none⟩) K K) := H4.out.2.2.1.cell 1
    go_wp2_with fail
    clear g1
    generalize w4.alloc (.cells #[.int .u8 4, .slice A2 K c2, .slice K2 m2 d2] 26) = w5 at *
    generalize w4.heap.size = u at *
    refine (HRT.out _ _ H4.out.2.1).mono ?_
    rintro e w6 ⟨A', c', rfl, hp⟩
    have H6 : Hid (Past w w6 ∧ Row w6 u 26 #[.int .u8 4, .slice A2 K c2, .slice K2 m2 d2]) := Lib.hid ⟨H4.out.1.trans' hp, H4.out.2.2.2.past hp⟩
    have e0 : w6.cell? ⟨u, 0, none⟩ = some (.int .u8 4) := H6.out.2.cell 0
    have e1 : w6.cell? ⟨u, 1, none⟩ = some (.slice A2 K c2) := H6.out.2.cell 1
    clear hp H4
    go_wp2_with fail
    go_ret
    exact ⟨rfl, H6.out.1⟩
  · subst hK
    refine HE.out.mono ?_
    rintro e w3 he
    obtain ⟨A, c, rfl, hp⟩ := he.2 lf_no
    have H3 : Hid (Past w w3 ∧ Sl w3 (some ⟨h + 1, 0, none⟩) 1048572 1048572 (zs 1048572) ∧ Row w3 (h + 1 + 1) 26 #[.int .u8 4, .slice (some ⟨h + 1, 0, none⟩) 1048572 1048572, .slice none 0 0]) := Lib.hid ⟨H2.out.1.trans' hp, H2.out.2.1.past hp, H2.out.2.2.past hp⟩
    clear hp H2 he HE HRT hmk
    simp only [valCode]
    have hps : parseL (zs 1048577) 1048577 = .err 1 1048576 := by unfold parseL; rw [if_pos (by decide)]
    have HX := Lib.hid (HPa.out (some ⟨w3.heap.size, 0, none⟩) 1048577 1048577 (zs 1048577) _ (made_sl 1048577 (by omega) w3) (by omega))
    rw [hps] at HX
    have H4 : Hid (Past w (w3.alloc (.cells (madeCells #[.int .u8 0] 1048577) 5)) ∧ Sl (w3.alloc (.cells (madeCells #[.int .u8 0] 1048577) 5)) (some ⟨h + 1, 0, none⟩) 1048572 1048572 (zs 1048572) ∧ Row (w3.alloc (.cells (madeCells #[.int .u8 0] 1048577) 5)) (h + 1 + 1) 26 #[.int .u8 4, .slice (some ⟨h + 1, 0, none⟩) 1048572 1048572, .slice none 0 0]) := by
      have hpl := past_alloc8 w3 (.cells (madeCells #[.int .u8 0] 1048577) 5)
      exact Lib.hid ⟨H3.out.1.trans' hpl, H3.out.2.1.past hpl, H3.out.2.2.past hpl⟩
    clear hps H3
    go_wp2_with fail
    generalize w3.alloc (.cells (madeCells #[.int .u8 0] 1048577) 5) = w4 at *
    refine HX.out.mono ?_
    rintro e w5 ⟨x, y, z, rfl, hin, hp⟩
    obtain ⟨tg3, A3, n3, c3, K3, m3, d3, rfl, rfl, rfl⟩ := hin.forms
    have hpn := hp.trans' (past_alloc8 w5 (.cells #[.int .u8 tg3, .slice A3 n3 c3, .slice K3 m3 d3] 26))
    have H5 : Hid (Past w (w5.alloc (.cells #[.int .u8 tg3, .slice A3 n3 c3, .slice K3 m3 d3] 26)) ∧ Sl (w5.alloc (.cells #[.int .u8 tg3, .slice A3 n3 c3, .slice K3 m3 d3] 26)) (some ⟨h + 1, 0, none⟩) 1048572 1048572 (zs 1048572) ∧ Row (w5.alloc (.cells #[.int .u8 tg3, .slice A3 n3 c3, .slice K3 m3 d3] 26)) (h + 1 + 1) 26 #[.int .u8 4, .slice (some ⟨h + 1, 0, none⟩) 1048572 1048572, .slice none 0 0]) :=
      Lib.hid ⟨H4.out.1.trans' hpn, H4.out.2.1.past hpn, H4.out.2.2.past hpn⟩
    clear hin hp hpn H4 HX
    simp only [valFlt]
    go_wp2_with fail
    generalize w5.alloc (.cells #[.int .u8 tg3, .slice A3 n3 c3, .slice K3 m3 d3] 26) = w6 at *
    refine (HCd.out _ (HG.out.past H5.out.1)).mono ?_
    rintro e w7 ⟨rfl, hp⟩
    have H7 : Hid (Past w w7 ∧ Sl w7 (some ⟨h + 1, 0, none⟩) 1048572 1048572 (zs 1048572) ∧ Row w7 (h + 1 + 1) 26 #[.int .u8 4, .slice (some ⟨h + 1, 0, none⟩) 1048572 1048572, .slice none 0 0]) := Lib.hid ⟨H5.out.1.trans' hp, H5.out.2.1.past hp, H5.out.2.2.past hp⟩
    have g0 : w7.cell? ⟨h + 1 + 1, 0, none⟩ = some (.int .u8 4) := H7.out.2.2.cell 0
    have g1 : w7.cell? ⟨h + 1 + 1, 1, none⟩ = some (.slice (some ⟨h + 1, 0, none⟩) 1048572 1048572) := H7.out.2.2.cell 1
    have g2 : w7.cell? ⟨h + 1 + 1, 2, none⟩ = some (.slice none 0 0) := H7.out.2.2.cell 2
    clear hp H5
    go_wp2_with fail
    refine (HVa.out _ (lf 1048572) _ (leaf_in 4 (by omega) H7.out.2.1) (lf_fits 1048572 (by omega))).mono ?_
    rintro e w8 ⟨rfl, hp⟩
    rw [lf_no]
    have H8 := Lib.hid (H7.out.1.trans' hp)
    clear hp H7 g0 g1 g2
    go_wp2_with fail
    refine (HTo.out _ (HG.out.past H8.out)).mono ?_
    rintro e w9 ⟨rfl, hp⟩
    have H9 := Lib.hid (H8.out.trans' hp)
    clear hp H8
    go_wp2_with fail
    go_ret
    exact ⟨rfl, H9.out⟩

theorem walk (H : Prog8) (N C : Int) (w : World) (h1 : (Lit.int .u32 N).wf = true) (h2 : (Lit.int .u8 C).wf = true) (hG : Glob w) :
    Calls Tryd.prog 5 #[.int .u32 N, .int .u8 C] w fun e w' => e = .returned (.bool true) ∧ Past w w' := by
  have hb := bounds_u8 h2
  have hb2 := bounds_u32 h1
  exact walk' H N C w (by omega) (by omega) (by omega) (by omega) hG

def args0 : Array Value := #[.int .u32 0, .int .u8 0]
theorem laid_met (os : Os) : laidMetH Tryd.prog Rows.derLimitsRow.laid ((laidWorld os).forCall (fun _ _ => 0) ⟨#[], args0, []⟩).memory :=
  laidMetH_of_parts (LaidIn.of_run [] 8 (by kernel_rfl) (by kernel_rfl) (by kernel_rfl) (by kernel_rfl)).met (by kernel_rfl)
theorem witness_row (os : Os) {H : Type} (enc : TypeId × Value → H) :
    (OpenSpec.ofChange Rows.derLimitsSpec).preRow enc Tryd.prog Tryd.f5 Rows.derLimitsRow.domain false Rows.derLimitsRow.laid ((laidWorld os).forCall (fun _ _ => 0) ⟨#[], args0, []⟩).memory args0 := by
  have hw : (DataW.whole enc Tryd.prog ((laidWorld os).forCall (fun _ _ => 0) ⟨#[], args0, []⟩).memory Tryd.f5.params.toList (OpenSpec.ofChange Rows.derLimitsSpec).vars false args0.toList 8).map (fun x => (x.1, x.2.1)) =
      some ([.lit (.int .u32 0), .lit (.int .u8 0)], []) := by kernel_rfl
  obtain ⟨⟨x1, x2, x3⟩, hx, hx1⟩ := Option.map_eq_some_iff.1 hw
  simp only [Prod.mk.injEq] at hx1
  obtain ⟨rfl, rfl⟩ := hx1
  exact OpenSpec.preRow_of_cond 8 hx (by kernel_rfl) (fun k hk => by cases hk) (by kernel_rfl) (laid_met os)

set_option maxRecDepth 100000 in
set_option maxHeartbeats 2000000 in
theorem lifted (H8 : Prog8) (os : Os) (started : os.Started) (H : Type) (enc : TypeId × Value → H) (F : Stop.Interp) :
    ReturnsInHanded {} Tryd.checked os 5 .any ((OpenSpec.ofChange Rows.derLimitsSpec).preRow enc Tryd.prog Tryd.f5 Rows.derLimitsRow.domain false Rows.derLimitsRow.laid) (((OpenSpec.ofChange Rows.derLimitsSpec).at F).post enc Tryd.prog Tryd.f5 false true false false) := by
  refine returnsInHanded_of_row (C := Tryd.checked) (s := OpenSpec.ofChange Rows.derLimitsSpec) own started (by kernel_rfl) Tryd.func5
    (witness_row_atRef (enc := enc) (C := Tryd.checked) false (laidWorld os) args0 rfl (by kernel_rfl) (by kernel_rfl) (by kernel_rfl) (witness_row os enc)) ?_
  intro W base args ds gs before hval0 hW _ _ _ hL hsh _
  have hval : ∀ (j : Nat) t v, Tryd.f5.params[j]? = some t → args[j]? = some v → Value.okWide Tryd.prog W .any base t v := hval0
  have hW' := hW
  obtain ⟨p, q, hA0, hV, rfl, hfz, hnd⟩ := hW
  have hA : DataW.TrodAll enc Tryd.prog W 0 (fun _ => true) true Tryd.f5.params.toList args.toList ds p := hA0
  rw [Tryd.params5] at hA hval
  obtain ⟨v0, vs0, d0, ds0, p0, q0, hargs, rfl, rfl, h0, r0⟩ := trodAll_cons hA
  obtain ⟨v1, vs1, d1, ds1, p1, q1, rfl, rfl, rfl, h1, r1⟩ := trodAll_cons r0
  obtain ⟨rfl, rfl, rfl⟩ := trodAll_nil r1
  obtain rfl : args = #[v0, v1] := by cases args; simp_all
  obtain ⟨rfl, rfl⟩ := trodVars_none hV
  obtain ⟨a0, rfl, rfl, rfl, w0⟩ := open_int Tryd.underlying47 (hval 0 47 v0 rfl rfl) h0
  obtain ⟨a1, rfl, rfl, rfl, w1⟩ := open_int Tryd.underlying5 (hval 1 5 v1 rfl rfl) h1
  have hG := glob_of_row hL
  clear hA0 hval0
  refine (walk H8 a0 a1 W w0 w1 hG).mono fun e W' ⟨he, bel⟩ => ?_
  subst he
  exact ⟨_, rfl, _, _, _, [], _, [], hW', trodAll_mk1 (shut_bool Tryd.underlying4 _), (trodAll_cons_mk (shut_int Tryd.underlying47 w0) (trodAll_cons_mk (shut_int Tryd.underlying5 w1) trodAll_mk0)), rfl, bel.frame _, fun h => by cases h⟩

theorem row_holds (H8 : Prog8) : Rows.DerLimitsSaid :=
  OpenClaim.holds_of_cond 5 Tryd.f5 rfl rfl rfl rfl rfl rfl rfl ⟨rfl, rfl, rfl, rfl, rfl⟩ rfl rfl rfl rfl rfl (by kernel_rfl) Tryd.func5 (by kernel_rfl)
    (of_decide_eq_true (by kernel_rfl)) (by unfold Func.isWrapper; first | (rw [if_pos (by decide +kernel)]; kernel_rfl) | (rw [if_neg (by decide +kernel)]; exact ⟨rfl, rfl⟩))
    (fun os started H enc _ F0 => by rw [OpenClaim.pre_eq_preRow]; exact lifted H8 os started H enc F0)

theorem card (H8 : Prog8) : Rows.DerLimitsCardSaid :=
  Claim7.holds_tied_plain_at .later [] [.handle] true Rows.derLimitsCard.stood.harness true
    (row_holds H8) (fun _ h => by cases h) (by kernel_rfl) (fun _ h => by cases h) derLimits_row_tie rfl ⟨rfl, rfl⟩ (by kernel_rfl) rfl
    (fun f fn hf hfn => by
      obtain rfl : f = 5 := Option.some.inj ((show Tryd.prog.funcNamed "pyx/pyxlaw08.DerLimits" = some 5 by kernel_rfl).symm.trans hf) |>.symm
      obtain rfl : fn = Tryd.f5 := (Option.some.inj (Tryd.func5.symm.trans hfn)).symm
      exact ⟨by kernel_rfl, fun j t ht => by
        rw [Tryd.params5] at ht
        have h3 : t = 47 ∨ t = 5 := by
          rcases j with _ | _ | j
          · exact .inl (by simpa using ht.symm)
          · exact .inr (by simpa using ht.symm)
          · simp at ht
        rcases h3 with rfl | rfl
        · exact (show Tryd.prog.wantsStandIn 47 = false by kernel_rfl)
        · exact (show Tryd.prog.wantsStandIn 5 = false by kernel_rfl)⟩)
    (by kernel_rfl)

theorem proved : Rows.DerLimitsCardSaid := card prog8

end Go.Proofs.YtdpnfojpeafdhaaDoor.derLimits
