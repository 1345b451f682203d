/- Parse of package pyxref12: the label and the last line. -/
import Derived.Test.YtnnonidiogoffaaGreatDoorRf12E
namespace Go.Proofs.YtnnonidiogoffaaGreatDoor
open Go.RowKit
set_option linter.unusedVariables false

theorem two_parts {ls : List (List Int)} (h : ¬ ls.length < 2) : ∃ f mid l, ls = f :: (mid ++ [l]) := by
  cases ls with
  | nil => simp at h
  | cons f r =>
    have hr : r ≠ [] := by rintro rfl; simp at h
    exact ⟨f, r.dropLast, r.getLast hr, by rw [List.dropLast_concat_getLast]⟩
theorem lab_cut (f : List Int) (h : 16 ≤ f.length) : (f.take (f.length - 5)).drop 11 = labOf f := by
  unfold labOf
  rw [List.drop_take, show f.length - 5 - 11 = f.length - 16 by omega]

set_option maxHeartbeats 4000000 in
set_option maxRecDepth 100000 in
theorem rparse_lab (A : Option Addr) (n c : Nat) (xs : List Int) (w : World) (hS : Sl w A n c xs) (hn : n ≤ 100000) (h10 : xs.getLast? = some 10) (h2 : ¬ (lnsL xs).length < 2) (h17 : ¬ ((lnsL xs).getD 0 []).length < 17) (hb : ((lnsL xs).getD 0 []).take 11 = [45, 45, 45, 45, 45, 66, 69, 71, 73, 78, 32]) (hs : ((lnsL xs).getD 0 []).drop (((lnsL xs).getD 0 []).length - 5) = [45, 45, 45, 45, 45]) (hlb : labB (labOf ((lnsL xs).getD 0 [])) = false) : Calls Tryz.prog 10 #[.slice A n c] w (RParP (parP xs) w) := by
  have HR := Lib.hid (rp_lab h10 hlb)
  have HN := Lib.hid (Row.new w 29 #[.string ⟨#[]⟩, .slice none 0 0, .int .i64 0])
  have HS := Lib.hid hS
  have hlen := hS.len
  obtain ⟨k, rfl⟩ : ∃ k, n = k + 1 := ⟨n - 1, by
    have : n ≠ 0 := by rintro rfl; rw [List.length_eq_zero_iff.1 hlen] at h10; cases h10
    omega⟩
  obtain ⟨ls, hls⟩ : ∃ ls, lnsL xs = ls := ⟨_, rfl⟩
  obtain ⟨b0, o, rfl, hc⟩ := hS.bytes (by omega)
  have hx : xs.getD k 0 = 10 := by
    rw [List.getLast?_eq_getElem?, hlen, Nat.add_sub_cancel, List.getElem?_eq_getElem (by omega)] at h10
    rw [List.getD_eq_getElem?_getD, List.getElem?_eq_getElem (by omega)]
    exact Option.some.inj h10
  have hcell : (w.alloc (.cells #[.string ⟨#[]⟩, .slice none 0 0, .int .i64 0] 29)).cell? ⟨b0, o + k, none⟩ = some (.int .u8 10) := by
    rw [Below.cell (past_allocR w _) (cell_lt (hc k (by omega)))]
    rw [← hx]
    exact hc k (by omega)
  have hco := conv_sl (P := Tryz.prog) (src := 22) (dst := 9) (e := 5) Tryz.underlying22 Tryz.underlying5 Tryz.underlying9 (hS.past (past_allocR w (.cells #[.string ⟨#[]⟩, .slice none 0 0, .int .i64 0] 29)))
  have HXI : Hid (ints (txt xs) = xs) := Lib.hid (ints_txt hS.rng)
  have HSP := Lib.hid (fun w => rsplit_any (txt xs) w (by rw [tsz]; omega))
  rw [HXI.out, hls] at HSP
  have HRG : Hid (∀ p ∈ ls, ∀ x ∈ p, 0 ≤ x ∧ x < 256) := Lib.hid (fun p hp x hx => hS.rng x (lns_mem p (by rw [hls]; exact hp) x hx))
  have HLL : Hid (∀ p ∈ ls, p.length ≤ k + 1) := Lib.hid (by
    intro p hp
    obtain ⟨l1, l2, e⟩ := List.append_of_mem hp
    have h1 := (lns_last h10).1
    rw [hls, e] at h1
    have h2 := congrArg List.length h1
    rw [txtL_app, txtL_cons, hlen, List.length_append, List.length_append, List.length_cons] at h2
    omega)
  have hL0 : 0 < ls.length := List.length_pos_iff.2 (by rw [← hls]; exact (lns_last h10).2)
  have HL0 := Lib.hid hL0
  have HLK : Hid (ls.length ≤ k + 1) := Lib.hid (by
    have h1 := (lns_last h10).1
    rw [hls] at h1
    have h2 := congrArg List.length h1
    rw [txtL_len12, hlen] at h2
    omega)
  have hni : ¬ (1048576 : Int) < (k : Int) + 1 := by omega
  have hn0 : ((k : Int) + 1 == 0) = false := by simp; omega
  have hn1 : ¬ (k : Int) + 1 = 0 := by omega
  obtain ⟨T, hT⟩ : ∃ T, txt xs = T := ⟨_, rfl⟩
  rw [hT] at hco HSP
  have HK : Hid (k + 1 ≤ 100000) := Lib.hid hn
  clear hS hlen hx hc hL0 hn hT
  rw [hls] at h2 h17 hb hs hlb
  obtain ⟨f, hf⟩ : ∃ f, ls.getD 0 [] = f := ⟨_, rfl⟩
  have hfm : f ∈ ls := by
    rw [← hf, List.getD_eq_getElem?_getD, List.getElem?_eq_getElem HL0.out]
    exact List.getElem_mem _
  have HFR : Hid (∀ x ∈ f, 0 ≤ x ∧ x < 256) := Lib.hid (HRG.out f hfm)
  have hfl : f.length ≤ 100000 := by have := HLL.out f hfm; have := HK.out; omega
  obtain ⟨F, hF⟩ : ∃ F, txt f = F := ⟨_, rfl⟩
  have hFz : F.size = f.length := by rw [← hF, tsz]
  obtain ⟨f', mid, l, hparts⟩ := two_parts h2
  have hf' : f = f' := by rw [← hf, hparts]; rfl
  subst hf'
  obtain ⟨N, hN⟩ : ∃ N, ls.length = N := ⟨_, rfl⟩
  obtain ⟨m, hm⟩ : ∃ m, mid.length = m := ⟨_, rfl⟩
  have hNm : N = m + 2 := by rw [← hN, hparts, ← hm]; simp
  obtain ⟨m1, hm1⟩ : ∃ m1, m + 1 = m1 := ⟨_, rfl⟩
  have hNk : N ≤ k + 1 := by rw [← hN]; exact HLK.out
  have HM := Lib.hid hm
  have HNM := Lib.hid hNm
  have HM1 := Lib.hid hm1
  have hwN1 : IntKind.i64.wrap ((N : Int) - 1) = (m1 : Int) := by rw [IntKind.wrap_i64]; have := HK.out; omega
  have hm1N : (m1 : Int) < (N : Int) := by omega
  have hm10 : (0 : Int) ≤ (m1 : Int) := by omega
  have HLS : Hid (ls.getD m1 [] = l) := Lib.hid (by rw [hparts, ← hm1, ← hm]; simp [List.getD])
  have HMD : Hid (∀ j, j < m → ls.getD (j + 1) [] = mid.getD j []) := Lib.hid (fun j hj => by rw [hparts, List.getD_cons_succ]; simp [List.getD, List.getElem?_append_left (show j < mid.length by omega)])
  have HMI : Hid (midOf ls = mid) := Lib.hid (by rw [hparts]; simp [midOf])
  have hN2 : ¬ (N : Int) < 2 := by omega
  have hN0 : (0 : Int) < (N : Int) := by omega
  rw [hf] at h17 hb hs hlb
  have hq17 : ¬ (F.size : Int) < 17 := by omega
  have hs1 := fun w : World => run_slice_string_h (P := Tryz.prog) w 9 F Tryz.underlying9 .i64 11 (by decide) (by omega)
  have hx1 : F.extract 0 (11 : Int).toNat = txt (f.take 11) := by rw [← hF, txt_ext HFR.out]; rfl
  rw [hx1] at hs1
  obtain ⟨T1, hT1⟩ : ∃ T1, txt (f.take 11) = T1 := ⟨_, rfl⟩
  rw [hT1] at hs1
  have hP1 : T1 = txt [45, 45, 45, 45, 45, 66, 69, 71, 73, 78, 32] := by rw [← hT1, hb]
  have he1 : (T1.toList == [45, 45, 45, 45, 45, 66, 69, 71, 73, 78, 32]) = true := by
    rw [hP1, toL_beg]; rfl
  obtain ⟨q5, hq5⟩ : ∃ q5, f.length - 5 = q5 := ⟨_, rfl⟩
  have hs2 := fun w : World => run_slice_string_l (P := Tryz.prog) w 9 F Tryz.underlying9 .i64 (q5 : Int) (by omega) (by omega)
  have hx2 : F.extract (q5 : Int).toNat F.size = txt (f.drop (f.length - 5)) := by
    rw [← hF, txt_ext HFR.out, tsz, List.take_length, Int.toNat_natCast, hq5]
  rw [hx2] at hs2
  have hw5 : IntKind.i64.wrap ((F.size : Int) - 5) = (q5 : Int) := by rw [IntKind.wrap_i64]; omega
  obtain ⟨T2, hT2⟩ : ∃ T2, txt (f.drop (f.length - 5)) = T2 := ⟨_, rfl⟩
  rw [hT2] at hs2
  have hP2 : T2 = txt [45, 45, 45, 45, 45] := by rw [← hT2, hs]
  have he2 : (T2.toList == [45, 45, 45, 45, 45]) = true := by
    rw [hP2, toL_hy]; rfl
  have hs3 := fun w : World => strsl F 11 q5 11 (q5 : Int) (by decide) (by omega) (by omega) rfl (by omega) w
  have hx3 : F.extract 11 q5 = txt (labOf f) := by rw [← hF, txt_ext HFR.out, ← hq5, lab_cut f (by omega)]
  rw [hx3] at hs3
  have HLR : Hid (∀ x ∈ labOf f, 0 ≤ x ∧ x < 256) := Lib.hid (fun x hx => HFR.out x (List.mem_of_mem_drop (List.mem_of_mem_take hx)))
  have HLAB := Lib.hid (fun w => rlabel_any (txt (labOf f)) w (by rw [tsz]; unfold labOf; rw [List.length_take, List.length_drop]; omega))
  rw [ints_txt HLR.out] at HLAB
  rw [hlb] at HLAB
  obtain ⟨LT, hLT⟩ : ∃ LT, txt (labOf f) = LT := ⟨_, rfl⟩
  rw [hLT] at hs3 HLAB
  clear hLT hlb hwN1 hm1N hm10
  clear h17 hfl hFz h2 hfm hb hx1 hT1 hP1 hx2 hT2 hs hq5 hP2 hx3 hNm hm hm1 hNk
  go_enter Tryz.func10, Tryz.ntmps10
  go_wp2_with fail
  refine (HSP.out _).mono ?_
  rw [hN]
  rintro e w3 ⟨P, cc, rfl, hown, hp⟩
  obtain ⟨b, rfl, hcc, hra⟩ := Ra.of _ rfl HS.out HL0.out (by rw [hN]; exact hown) hp
  have H3 := Lib.hid hra
  obtain ⟨g, hg⟩ : ∃ g, w.heap.size = g := ⟨_, rfl⟩
  rw [hg] at H3 ⊢
  clear hown hp hra hcell hco HN hcc hg hni hn0 hn1
  have hc0 := H3.out.line 0 HL0.out
  rw [hf, hF] at hc0
  clear hparts hN
  go_wp2_with fail
  refine (HLAB.out _).mono ?_
  rintro e w4 ⟨rfl, rfl⟩
  go_wp2_with (refine wpList_store_row rfl 29 _ _ rfl _ _ rfl rfl _ _ H3.out.res (resR _ rfl) rfl (by simp [Value.oneCell']) ?_)
  refine bodyPost_ret (results_cell_row rfl _ _ _ _ _ _ _ rfl (setRow_heap _ _ _ _ _ _ H3.out.res) Tryz.underlying29 rfl (resR _ rfl)) rfl ?_
  rw [HR.out]
  exact ⟨rfl, past_rowR H3.out.past (by rw [H3.out.ge]; exact Nat.le_refl _) _⟩

set_option maxHeartbeats 4000000 in
set_option maxRecDepth 100000 in
theorem rparse_last (A : Option Addr) (n c : Nat) (xs : List Int) (w : World) (hS : Sl w A n c xs) (hn : n ≤ 100000) (h10 : xs.getLast? = some 10) (h2 : ¬ (lnsL xs).length < 2) (h17 : ¬ ((lnsL xs).getD 0 []).length < 17) (hb : ((lnsL xs).getD 0 []).take 11 = [45, 45, 45, 45, 45, 66, 69, 71, 73, 78, 32]) (hs : ((lnsL xs).getD 0 []).drop (((lnsL xs).getD 0 []).length - 5) = [45, 45, 45, 45, 45]) (hlb : labB (labOf ((lnsL xs).getD 0 [])) = true) (hle : ¬ (lnsL xs).getLastD [] = endL (labOf ((lnsL xs).getD 0 []))) : Calls Tryz.prog 10 #[.slice A n c] w (RParP (parP xs) w) := by
  have HR := Lib.hid (rp_last h10 hle)
  have HN := Lib.hid (Row.new w 29 #[.string ⟨#[]⟩, .slice none 0 0, .int .i64 0])
  have HS := Lib.hid hS
  have hlen := hS.len
  obtain ⟨k, rfl⟩ : ∃ k, n = k + 1 := ⟨n - 1, by
    have : n ≠ 0 := by rintro rfl; rw [List.length_eq_zero_iff.1 hlen] at h10; cases h10
    omega⟩
  obtain ⟨ls, hls⟩ : ∃ ls, lnsL xs = ls := ⟨_, rfl⟩
  obtain ⟨b0, o, rfl, hc⟩ := hS.bytes (by omega)
  have hx : xs.getD k 0 = 10 := by
    rw [List.getLast?_eq_getElem?, hlen, Nat.add_sub_cancel, List.getElem?_eq_getElem (by omega)] at h10
    rw [List.getD_eq_getElem?_getD, List.getElem?_eq_getElem (by omega)]
    exact Option.some.inj h10
  have hcell : (w.alloc (.cells #[.string ⟨#[]⟩, .slice none 0 0, .int .i64 0] 29)).cell? ⟨b0, o + k, none⟩ = some (.int .u8 10) := by
    rw [Below.cell (past_allocR w _) (cell_lt (hc k (by omega)))]
    rw [← hx]
    exact hc k (by omega)
  have hco := conv_sl (P := Tryz.prog) (src := 22) (dst := 9) (e := 5) Tryz.underlying22 Tryz.underlying5 Tryz.underlying9 (hS.past (past_allocR w (.cells #[.string ⟨#[]⟩, .slice none 0 0, .int .i64 0] 29)))
  have HXI : Hid (ints (txt xs) = xs) := Lib.hid (ints_txt hS.rng)
  have HSP := Lib.hid (fun w => rsplit_any (txt xs) w (by rw [tsz]; omega))
  rw [HXI.out, hls] at HSP
  have HRG : Hid (∀ p ∈ ls, ∀ x ∈ p, 0 ≤ x ∧ x < 256) := Lib.hid (fun p hp x hx => hS.rng x (lns_mem p (by rw [hls]; exact hp) x hx))
  have HLL : Hid (∀ p ∈ ls, p.length ≤ k + 1) := Lib.hid (by
    intro p hp
    obtain ⟨l1, l2, e⟩ := List.append_of_mem hp
    have h1 := (lns_last h10).1
    rw [hls, e] at h1
    have h2 := congrArg List.length h1
    rw [txtL_app, txtL_cons, hlen, List.length_append, List.length_append, List.length_cons] at h2
    omega)
  have hL0 : 0 < ls.length := List.length_pos_iff.2 (by rw [← hls]; exact (lns_last h10).2)
  have HL0 := Lib.hid hL0
  have HLK : Hid (ls.length ≤ k + 1) := Lib.hid (by
    have h1 := (lns_last h10).1
    rw [hls] at h1
    have h2 := congrArg List.length h1
    rw [txtL_len12, hlen] at h2
    omega)
  have hni : ¬ (1048576 : Int) < (k : Int) + 1 := by omega
  have hn0 : ((k : Int) + 1 == 0) = false := by simp; omega
  have hn1 : ¬ (k : Int) + 1 = 0 := by omega
  obtain ⟨T, hT⟩ : ∃ T, txt xs = T := ⟨_, rfl⟩
  rw [hT] at hco HSP
  have HK : Hid (k + 1 ≤ 100000) := Lib.hid hn
  clear hS hlen hx hc hL0 hn hT
  rw [hls] at h2 h17 hb hs hlb hle
  obtain ⟨f, hf⟩ : ∃ f, ls.getD 0 [] = f := ⟨_, rfl⟩
  have hfm : f ∈ ls := by
    rw [← hf, List.getD_eq_getElem?_getD, List.getElem?_eq_getElem HL0.out]
    exact List.getElem_mem _
  have HFR : Hid (∀ x ∈ f, 0 ≤ x ∧ x < 256) := Lib.hid (HRG.out f hfm)
  have hfl : f.length ≤ 100000 := by have := HLL.out f hfm; have := HK.out; omega
  obtain ⟨F, hF⟩ : ∃ F, txt f = F := ⟨_, rfl⟩
  have hFz : F.size = f.length := by rw [← hF, tsz]
  obtain ⟨f', mid, l, hparts⟩ := two_parts h2
  have hf' : f = f' := by rw [← hf, hparts]; rfl
  subst hf'
  obtain ⟨N, hN⟩ : ∃ N, ls.length = N := ⟨_, rfl⟩
  obtain ⟨m, hm⟩ : ∃ m, mid.length = m := ⟨_, rfl⟩
  have hNm : N = m + 2 := by rw [← hN, hparts, ← hm]; simp
  obtain ⟨m1, hm1⟩ : ∃ m1, m + 1 = m1 := ⟨_, rfl⟩
  have hNk : N ≤ k + 1 := by rw [← hN]; exact HLK.out
  have HM := Lib.hid hm
  have HNM := Lib.hid hNm
  have HM1 := Lib.hid hm1
  have hwN1 : IntKind.i64.wrap ((N : Int) - 1) = (m1 : Int) := by rw [IntKind.wrap_i64]; have := HK.out; omega
  have hm1N : (m1 : Int) < (N : Int) := by omega
  have hm10 : (0 : Int) ≤ (m1 : Int) := by omega
  have HLS : Hid (ls.getD m1 [] = l) := Lib.hid (by rw [hparts, ← hm1, ← hm]; simp [List.getD])
  have HMD : Hid (∀ j, j < m → ls.getD (j + 1) [] = mid.getD j []) := Lib.hid (fun j hj => by rw [hparts, List.getD_cons_succ]; simp [List.getD, List.getElem?_append_left (show j < mid.length by omega)])
  have HMI : Hid (midOf ls = mid) := Lib.hid (by rw [hparts]; simp [midOf])
  have hN2 : ¬ (N : Int) < 2 := by omega
  have hN0 : (0 : Int) < (N : Int) := by omega
  have hlast : ls.getLastD [] = l := by rw [hparts]; exact lastD_app _ _ _
  rw [hf] at h17 hb hs hlb hle
  rw [hlast] at hle
  have hq17 : ¬ (F.size : Int) < 17 := by omega
  have hs1 := fun w : World => run_slice_string_h (P := Tryz.prog) w 9 F Tryz.underlying9 .i64 11 (by decide) (by omega)
  have hx1 : F.extract 0 (11 : Int).toNat = txt (f.take 11) := by rw [← hF, txt_ext HFR.out]; rfl
  rw [hx1] at hs1
  obtain ⟨T1, hT1⟩ : ∃ T1, txt (f.take 11) = T1 := ⟨_, rfl⟩
  rw [hT1] at hs1
  have hP1 : T1 = txt [45, 45, 45, 45, 45, 66, 69, 71, 73, 78, 32] := by rw [← hT1, hb]
  have he1 : (T1.toList == [45, 45, 45, 45, 45, 66, 69, 71, 73, 78, 32]) = true := by
    rw [hP1, toL_beg]; rfl
  obtain ⟨q5, hq5⟩ : ∃ q5, f.length - 5 = q5 := ⟨_, rfl⟩
  have hs2 := fun w : World => run_slice_string_l (P := Tryz.prog) w 9 F Tryz.underlying9 .i64 (q5 : Int) (by omega) (by omega)
  have hx2 : F.extract (q5 : Int).toNat F.size = txt (f.drop (f.length - 5)) := by
    rw [← hF, txt_ext HFR.out, tsz, List.take_length, Int.toNat_natCast, hq5]
  rw [hx2] at hs2
  have hw5 : IntKind.i64.wrap ((F.size : Int) - 5) = (q5 : Int) := by rw [IntKind.wrap_i64]; omega
  obtain ⟨T2, hT2⟩ : ∃ T2, txt (f.drop (f.length - 5)) = T2 := ⟨_, rfl⟩
  rw [hT2] at hs2
  have hP2 : T2 = txt [45, 45, 45, 45, 45] := by rw [← hT2, hs]
  have he2 : (T2.toList == [45, 45, 45, 45, 45]) = true := by
    rw [hP2, toL_hy]; rfl
  have hs3 := fun w : World => strsl F 11 q5 11 (q5 : Int) (by decide) (by omega) (by omega) rfl (by omega) w
  have hx3 : F.extract 11 q5 = txt (labOf f) := by rw [← hF, txt_ext HFR.out, ← hq5, lab_cut f (by omega)]
  rw [hx3] at hs3
  have HLR : Hid (∀ x ∈ labOf f, 0 ≤ x ∧ x < 256) := Lib.hid (fun x hx => HFR.out x (List.mem_of_mem_drop (List.mem_of_mem_take hx)))
  have HLAB := Lib.hid (fun w => rlabel_any (txt (labOf f)) w (by rw [tsz]; unfold labOf; rw [List.length_take, List.length_drop]; omega))
  rw [ints_txt HLR.out] at HLAB
  obtain ⟨lab, hlab⟩ : ∃ lab, labOf f = lab := ⟨_, rfl⟩
  rw [hlab] at HLR HLAB hs3 hlb hle
  obtain ⟨LT, hLT⟩ : ∃ LT, txt lab = LT := ⟨_, rfl⟩
  have hLi : ints LT = lab := by rw [← hLT, ints_txt HLR.out]
  have hLz : LT.size ≤ 100000 := by rw [← hLT, tsz, ← hlab]; unfold labOf; rw [List.length_take, List.length_drop]; omega
  rw [hLT] at hs3 HLAB
  rw [hlb] at HLAB
  have ha1 := fun w : World => str_cat (P := Tryz.prog) ⟨#[45, 45, 45, 45, 45, 69, 78, 68, 32]⟩ LT ([45, 45, 45, 45, 45, 69, 78, 68, 32] ++ lab) (by rw [hLi]; rfl) (by show 9 + LT.size ≤ _; omega) w
  have hz1 : (txt ([45, 45, 45, 45, 45, 69, 78, 68, 32] ++ lab)).size ≤ 100009 := by rw [tsz]; simp only [List.length_append, List.length_cons, List.length_nil]; rw [← tsz lab, hLT]; omega
  have hi1 : ints (txt ([45, 45, 45, 45, 45, 69, 78, 68, 32] ++ lab)) = [45, 45, 45, 45, 45, 69, 78, 68, 32] ++ lab := ints_txt (end_rng HLR.out).1
  obtain ⟨B1, hB1⟩ : ∃ B1, txt ([45, 45, 45, 45, 45, 69, 78, 68, 32] ++ lab) = B1 := ⟨_, rfl⟩
  rw [hB1] at ha1 hz1 hi1
  have ha2 := fun w : World => str_cat (P := Tryz.prog) B1 ⟨#[45, 45, 45, 45, 45]⟩ (endL lab) (by rw [hi1, end_lab]; rfl) (by show B1.size + 5 ≤ _; omega) w
  obtain ⟨B2, hB2⟩ : ∃ B2, txt (endL lab) = B2 := ⟨_, rfl⟩
  rw [hB2] at ha2
  obtain ⟨LL, hLL⟩ : ∃ LL, txt l = LL := ⟨_, rfl⟩
  have hne : (LL.toList == B2.toList) = false := by
    rw [← hLL, ← hB2]
    exact toL_ne' (HRG.out l (by rw [hparts]; simp)) (end_rng HLR.out).2 hle
  clear hlast hle hlb hLi hLz hz1 hi1 hB1 hB2 hLT
  clear h17 hfl hFz h2 hfm hb hx1 hT1 hP1 hx2 hT2 hs hq5 hP2 hx3 hNm hm hm1 hNk
  go_enter Tryz.func10, Tryz.ntmps10
  go_wp2_with fail
  refine (HSP.out _).mono ?_
  rw [hN]
  rintro e w3 ⟨P, cc, rfl, hown, hp⟩
  obtain ⟨b, rfl, hcc, hra⟩ := Ra.of _ rfl HS.out HL0.out (by rw [hN]; exact hown) hp
  have H3 := Lib.hid hra
  obtain ⟨g, hg⟩ : ∃ g, w.heap.size = g := ⟨_, rfl⟩
  rw [hg] at H3 ⊢
  clear hown hp hra hcell hco HN hcc hg hni hn0 hn1
  have hc0 := H3.out.line 0 HL0.out
  rw [hf, hF] at hc0
  have hc1 := H3.out.line m1 (by rw [hN]; omega)
  rw [HLS.out, hLL] at hc1
  clear hparts hN hLL
  go_wp2_with fail
  refine (HLAB.out _).mono ?_
  rintro e w4 ⟨rfl, rfl⟩
  go_wp2_with (refine wpList_store_row rfl 29 _ _ rfl _ _ rfl rfl _ _ H3.out.res (resR _ rfl) rfl (by simp [Value.oneCell']) ?_)
  refine bodyPost_ret (results_cell_row rfl _ _ _ _ _ _ _ rfl (setRow_heap _ _ _ _ _ _ H3.out.res) Tryz.underlying29 rfl (resR _ rfl)) rfl ?_
  rw [HR.out]
  exact ⟨rfl, past_rowR H3.out.past (by rw [H3.out.ge]; exact Nat.le_refl _) _⟩

end Go.Proofs.YtnnonidiogoffaaGreatDoor
