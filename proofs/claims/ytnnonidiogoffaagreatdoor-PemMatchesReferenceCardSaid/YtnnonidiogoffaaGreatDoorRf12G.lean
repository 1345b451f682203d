/- Parse of package pyxref12: its loops over the lines, and what follows; Parse whole. -/
import Derived.Test.YtnnonidiogoffaaGreatDoorRf12F
import Derived.Deep.RegionLaw
import Derived.Deep.CutRange
import Derived.Test.YtnnonidiogoffaaGreatDoorSkip10
namespace Go.Proofs.YtnnonidiogoffaaGreatDoor
open Go.RowKit
set_option linter.unusedVariables false

theorem mid_long12 {lab : List Int} {mid : List (List Int)} {p : List Int} (hp : p ∈ mid) (h : 64 < p.length) : midP lab mid = .err 5 := by
  unfold midP
  rw [if_pos (List.any_eq_true.2 ⟨p, hp, by simpa using h⟩)]
theorem mid_nolong {mid : List (List Int)} (h : ∀ p ∈ mid, p.length ≤ 64) : ¬ mid.any (fun p => decide (64 < p.length)) = true := by
  simp only [List.any_eq_true, decide_eq_true_eq, not_exists, not_and]
  intro p hp
  have := h p hp
  omega
theorem mid_nil12 {lab : List Int} : midP lab [] = .err 6 := rfl
theorem mid_short12 {lab : List Int} {mid : List (List Int)} {j : Nat} (h : ∀ p ∈ mid, p.length ≤ 64) (hj : j + 1 < mid.length) (hs : (mid.getD j []).length < 64) : midP lab mid = .err 6 := by
  have hm : mid.getD j [] ∈ mid.dropLast := by
    have e : mid.getD j [] = mid.dropLast[j]'(by rw [List.length_dropLast]; omega) := by
      rw [List.getElem_dropLast, List.getD_eq_getElem?_getD, List.getElem?_eq_getElem (by omega), Option.getD_some]
    rw [e]
    exact List.getElem_mem _
  unfold midP
  rw [if_neg (mid_nolong h), if_pos (.inr (List.any_eq_true.2 ⟨_, hm, by simpa using hs⟩))]
theorem mid_go12 {lab : List Int} {mid : List (List Int)} (h : ∀ p ∈ mid, p.length ≤ 64) (h0 : mid ≠ []) (hs : ∀ p ∈ mid.dropLast, 64 ≤ p.length) :
    midP lab mid = match rdec 1 (txt mid.flatten) with
      | none => .err 5
      | some ys => if mid.getLastD [] = [] then .err 5 else .ok lab ys := by
  have hn : ¬ (mid = [] ∨ mid.dropLast.any (fun p => decide (p.length < 64)) = true) := by
    rintro (h1 | h1)
    · exact h0 h1
    · simp only [List.any_eq_true, decide_eq_true_eq] at h1
      obtain ⟨p, hp, h1⟩ := h1
      have := hs p hp
      omega
  unfold midP
  rw [if_neg (mid_nolong h), if_neg hn]
  rfl
theorem flat_le {mid : List (List Int)} {f l : List Int} (j : Nat) : (mid.take j).flatten.length ≤ (f :: (mid ++ [l])).flatten.length := by
  have e : mid.flatten = (mid.take j).flatten ++ (mid.drop j).flatten := by rw [← List.flatten_append, List.take_append_drop]
  rw [List.flatten_cons, List.flatten_append, e]
  simp only [List.length_append]
  omega
theorem flat_succ {mid : List (List Int)} {j : Nat} (h : j < mid.length) : (mid.take (j + 1)).flatten = (mid.take j).flatten ++ mid.getD j [] := by
  rw [List.take_succ_eq_append_getElem h, List.flatten_append]
  simp [List.getD, List.getElem?_eq_getElem h]
theorem all_succ {mid : List (List Int)} {j : Nat} {Q : List Int → Prop} (h : j < mid.length) (h1 : ∀ p ∈ mid.take j, Q p) (h2 : Q (mid.getD j [])) : ∀ p ∈ mid.take (j + 1), Q p := by
  rw [List.take_succ_eq_append_getElem h]
  intro p hp
  rcases List.mem_append.1 hp with hp | hp
  · exact h1 p hp
  · rw [List.mem_singleton] at hp
    subst hp
    rwa [List.getD_eq_getElem?_getD, List.getElem?_eq_getElem h] at h2
theorem setRow_grownR (W : World) (g : Nat) (cs : Array Value) : W.grownBy (W.setRow g cs) (some g) :=
  ⟨rfl, rfl, rfl, by simp, fun i hi hne => setRow_other W g i cs (fun e => hne (by rw [e]))⟩
theorem Sl.setRowR {W : World} {A : Option Addr} {n c g : Nat} {xs : List Int} (h : Sl W A n c xs) (hr : Row W g 29 #[.string ⟨#[]⟩, .slice none 0 0, .int .i64 0]) (cs : Array Value) : Sl (W.setRow g cs) A n c xs :=
  h.only (setRow_grownR W g cs) (fun p x hp he => by
    obtain ⟨b, o, s⟩ := p
    obtain rfl : s = none := by simpa using World.cell?_spot he
    subst hp
    rw [hr.cell o] at he
    rcases o with _ | _ | _ | o
    · simp at he
    · simp at he
    · simp at he
    · simp at he)
theorem rdec_len {s : ByteArray} {ys : List Int} (h : rdec 1 s = some ys) : ys.length ≤ s.size := by
  unfold rdec at h
  split at h
  · cases h
  · injection h with h
    rw [← h, routs_len]
    have := slen_le 1 (ints s)
    rw [ints_len] at this
    unfold nout
    omega
/-- The last word: the armour of what was decoded is the string exactly if it is accepted. -/
theorem last_word {xs lab ys : List Int} {mid : List (List Int)} (h10 : xs.getLast? = some 10) (hr : ∀ x ∈ xs, 0 ≤ x ∧ x < 256) (hl : labB lab = true) (hy : ∀ x ∈ ys, 0 ≤ x ∧ x < 256) (hp : parP xs = if mid.getLastD [] = [] then .err 5 else .ok lab ys) :
    (rtextL lab ys = xs ∧ parP xs = .ok lab ys) ∨ (rtextL lab ys ≠ xs ∧ parP xs = .err 5) := by
  by_cases hm : mid.getLastD [] = []
  · rw [if_pos hm] at hp
    refine .inr ⟨fun e => ?_, hp⟩
    unfold rtextL at e
    split at e
    · rename_i hh
      rw [← e, par_arm hl hh.2 hy] at hp
      cases hp
    · rw [← e] at h10
      cases h10
  · rw [if_neg hm] at hp
    obtain ⟨_, h2, _, h4⟩ := par_ok hp hr
    exact .inl ⟨by unfold rtextL; rw [if_pos ⟨hl, h2⟩, ← h4], hp⟩
theorem rtext_rng {lab ys : List Int} (hl : ∀ x ∈ lab, 0 ≤ x ∧ x < 256) : ∀ x ∈ rtextL lab ys, 0 ≤ x ∧ x < 256 := by
  intro x hx
  unfold rtextL at hx
  split at hx
  · obtain ⟨p, hp, hx⟩ := List.mem_flatMap.1 hx
    have hb : ∀ x ∈ begL lab, 0 ≤ x ∧ x < 256 := by
      intro x hx
      unfold begL hyL at hx
      simp only [List.mem_append, List.mem_cons, List.not_mem_nil, or_false] at hx
      rcases hx with hx | hx | hx
      · omega
      · exact hl x hx
      · omega
    rcases List.mem_append.1 hx with hx | hx
    · rcases List.mem_cons.1 hp with rfl | hp
      · exact hb x hx
      · rcases List.mem_append.1 hp with hp | hp
        · exact renc_rng _ _ _ x (chk_mem hp x hx)
        · rw [List.mem_singleton] at hp
          subst hp
          exact (end_rng hl).2 x hx
    · simp at hx
      omega
  · cases hx

set_option maxHeartbeats 16000000 in
set_option maxRecDepth 100000 in
theorem rparse_in (A : Option Addr) (n c : Nat) (xs : List Int) (w : World) (hS : Sl w A n c xs) (hn : n ≤ 100000) (h10 : xs.getLast? = some 10) (h2 : ¬ (lnsL xs).length < 2) (h17 : ¬ ((lnsL xs).getD 0 []).length < 17) (hb : ((lnsL xs).getD 0 []).take 11 = [45, 45, 45, 45, 45, 66, 69, 71, 73, 78, 32]) (hs : ((lnsL xs).getD 0 []).drop (((lnsL xs).getD 0 []).length - 5) = [45, 45, 45, 45, 45]) (hlb : labB (labOf ((lnsL xs).getD 0 [])) = true) (hle : (lnsL xs).getLastD [] = endL (labOf ((lnsL xs).getD 0 []))) : Calls Tryz.prog 10 #[.slice A n c] w (RParP (parP xs) w) := by
  have HPM := Lib.hid (rp_mid h10 ⟨by omega, hb, hs⟩ hlb hle)
  have HXR := Lib.hid hS.rng
  have H10 := Lib.hid h10
  have HN := Lib.hid (Row.new w 29 #[.string ⟨#[]⟩, .slice none 0 0, .int .i64 0])
  have HS := Lib.hid hS
  have hlen := hS.len
  obtain ⟨k, rfl⟩ : ∃ k, n = k + 1 := ⟨n - 1, by
    have : n ≠ 0 := by rintro rfl; rw [List.length_eq_zero_iff.1 hlen] at h10; cases h10
    omega⟩
  obtain ⟨ls, hls⟩ : ∃ ls, lnsL xs = ls := ⟨_, rfl⟩
  obtain ⟨b0, o, rfl, hc⟩ := hS.bytes (by omega)
  have hx : xs.getD k 0 = 10 := by
    rw [List.getLast?_eq_getElem?, hlen, Nat.add_sub_cancel, List.getElem?_eq_getElem (by omega)] at h10
    rw [List.getD_eq_getElem?_getD, List.getElem?_eq_getElem (by omega)]
    exact Option.some.inj h10
  have hcell : (w.alloc (.cells #[.string ⟨#[]⟩, .slice none 0 0, .int .i64 0] 29)).cell? ⟨b0, o + k, none⟩ = some (.int .u8 10) := by
    rw [Below.cell (past_allocR w _) (cell_lt (hc k (by omega)))]
    rw [← hx]
    exact hc k (by omega)
  have hco := conv_sl (P := Tryz.prog) (src := 22) (dst := 9) (e := 5) Tryz.underlying22 Tryz.underlying5 Tryz.underlying9 (hS.past (past_allocR w (.cells #[.string ⟨#[]⟩, .slice none 0 0, .int .i64 0] 29)))
  have HXI : Hid (ints (txt xs) = xs) := Lib.hid (ints_txt hS.rng)
  have HSP := Lib.hid (fun w => rsplit_any (txt xs) w (by rw [tsz]; omega))
  rw [HXI.out, hls] at HSP
  have HRG : Hid (∀ p ∈ ls, ∀ x ∈ p, 0 ≤ x ∧ x < 256) := Lib.hid (fun p hp x hx => hS.rng x (lns_mem p (by rw [hls]; exact hp) x hx))
  have HLL : Hid (∀ p ∈ ls, p.length ≤ k + 1) := Lib.hid (by
    intro p hp
    obtain ⟨l1, l2, e⟩ := List.append_of_mem hp
    have h1 := (lns_last h10).1
    rw [hls, e] at h1
    have h2 := congrArg List.length h1
    rw [txtL_app, txtL_cons, hlen, List.length_append, List.length_append, List.length_cons] at h2
    omega)
  have hL0 : 0 < ls.length := List.length_pos_iff.2 (by rw [← hls]; exact (lns_last h10).2)
  have HL0 := Lib.hid hL0
  have HLK : Hid (ls.length ≤ k + 1) := Lib.hid (by
    have h1 := (lns_last h10).1
    rw [hls] at h1
    have h2 := congrArg List.length h1
    rw [txtL_len12, hlen] at h2
    omega)
  have hni : ¬ (1048576 : Int) < (k : Int) + 1 := by omega
  have hn0 : ((k : Int) + 1 == 0) = false := by simp; omega
  have hn1 : ¬ (k : Int) + 1 = 0 := by omega
  obtain ⟨T, hT⟩ : ∃ T, txt xs = T := ⟨_, rfl⟩
  rw [hT] at hco HSP
  have hT' := hT
  have HK : Hid (k + 1 ≤ 100000) := Lib.hid hn
  clear hS hlen hx hc hL0 hn hT
  rw [hls] at h2 h17 hb hs hlb hle HPM
  obtain ⟨f, hf⟩ : ∃ f, ls.getD 0 [] = f := ⟨_, rfl⟩
  have hfm : f ∈ ls := by
    rw [← hf, List.getD_eq_getElem?_getD, List.getElem?_eq_getElem HL0.out]
    exact List.getElem_mem _
  have HFR : Hid (∀ x ∈ f, 0 ≤ x ∧ x < 256) := Lib.hid (HRG.out f hfm)
  have hfl : f.length ≤ 100000 := by have := HLL.out f hfm; have := HK.out; omega
  obtain ⟨F, hF⟩ : ∃ F, txt f = F := ⟨_, rfl⟩
  have hFz : F.size = f.length := by rw [← hF, tsz]
  obtain ⟨f', mid, l, hparts⟩ := two_parts h2
  have hf' : f = f' := by rw [← hf, hparts]; rfl
  subst hf'
  obtain ⟨N, hN⟩ : ∃ N, ls.length = N := ⟨_, rfl⟩
  obtain ⟨m, hm⟩ : ∃ m, mid.length = m := ⟨_, rfl⟩
  have hNm : N = m + 2 := by rw [← hN, hparts, ← hm]; simp
  obtain ⟨m1, hm1⟩ : ∃ m1, m + 1 = m1 := ⟨_, rfl⟩
  have hNk : N ≤ k + 1 := by rw [← hN]; exact HLK.out
  have HM := Lib.hid hm
  have HNM := Lib.hid hNm
  have HM1 := Lib.hid hm1
  have hwN1 : IntKind.i64.wrap ((N : Int) - 1) = (m1 : Int) := by rw [IntKind.wrap_i64]; have := HK.out; omega
  have hm1N : (m1 : Int) < (N : Int) := by omega
  have hm10 : (0 : Int) ≤ (m1 : Int) := by omega
  have HLS : Hid (ls.getD m1 [] = l) := Lib.hid (by rw [hparts, ← hm1, ← hm]; simp [List.getD])
  have HMD : Hid (∀ j, j < m → ls.getD (j + 1) [] = mid.getD j []) := Lib.hid (fun j hj => by rw [hparts, List.getD_cons_succ]; simp [List.getD, List.getElem?_append_left (show j < mid.length by omega)])
  have HMI : Hid (midOf ls = mid) := Lib.hid (by rw [hparts]; simp [midOf])
  have hN2 : ¬ (N : Int) < 2 := by omega
  have hN0 : (0 : Int) < (N : Int) := by omega
  have hlast : ls.getLastD [] = l := by rw [hparts]; exact lastD_app _ _ _
  rw [hf] at h17 hb hs hlb hle HPM
  rw [hlast] at hle
  rw [HMI.out] at HPM
  have hwN2 : IntKind.i64.wrap ((N : Int) - 2) = (m : Int) := by rw [IntKind.wrap_i64]; have := HK.out; omega
  have HFL : Hid (∀ j, (mid.take j).flatten.length ≤ 100000) := Lib.hid (fun j => by
    have h1 := congrArg List.length (lns_last h10).1
    rw [hls, txtL_len12, HS.out.len] at h1
    have h3 := flat_le (mid := mid) (f := f) (l := l) j
    rw [← hparts] at h3
    have := HK.out
    omega)
  have HMR : Hid (∀ p ∈ mid, ∀ x ∈ p, 0 ≤ x ∧ x < 256) := Lib.hid (fun p hp => HRG.out p (by rw [hparts]; simp [hp]))
  have HTR : Hid (∀ j, ∀ x ∈ (mid.take j).flatten, 0 ≤ x ∧ x < 256) := Lib.hid (fun j x hx => by
    obtain ⟨p, hp, hx⟩ := List.mem_flatten.1 hx
    exact HMR.out p (List.mem_of_mem_take hp) x hx)
  have hq17 : ¬ (F.size : Int) < 17 := by omega
  have hs1 := fun w : World => run_slice_string_h (P := Tryz.prog) w 9 F Tryz.underlying9 .i64 11 (by decide) (by omega)
  have hx1 : F.extract 0 (11 : Int).toNat = txt (f.take 11) := by rw [← hF, txt_ext HFR.out]; rfl
  rw [hx1] at hs1
  obtain ⟨T1, hT1⟩ : ∃ T1, txt (f.take 11) = T1 := ⟨_, rfl⟩
  rw [hT1] at hs1
  have hP1 : T1 = txt [45, 45, 45, 45, 45, 66, 69, 71, 73, 78, 32] := by rw [← hT1, hb]
  have he1 : (T1.toList == [45, 45, 45, 45, 45, 66, 69, 71, 73, 78, 32]) = true := by
    rw [hP1, toL_beg]; rfl
  obtain ⟨q5, hq5⟩ : ∃ q5, f.length - 5 = q5 := ⟨_, rfl⟩
  have hs2 := fun w : World => run_slice_string_l (P := Tryz.prog) w 9 F Tryz.underlying9 .i64 (q5 : Int) (by omega) (by omega)
  have hx2 : F.extract (q5 : Int).toNat F.size = txt (f.drop (f.length - 5)) := by
    rw [← hF, txt_ext HFR.out, tsz, List.take_length, Int.toNat_natCast, hq5]
  rw [hx2] at hs2
  have hw5 : IntKind.i64.wrap ((F.size : Int) - 5) = (q5 : Int) := by rw [IntKind.wrap_i64]; omega
  obtain ⟨T2, hT2⟩ : ∃ T2, txt (f.drop (f.length - 5)) = T2 := ⟨_, rfl⟩
  rw [hT2] at hs2
  have hP2 : T2 = txt [45, 45, 45, 45, 45] := by rw [← hT2, hs]
  have he2 : (T2.toList == [45, 45, 45, 45, 45]) = true := by
    rw [hP2, toL_hy]; rfl
  have hs3 := fun w : World => strsl F 11 q5 11 (q5 : Int) (by decide) (by omega) (by omega) rfl (by omega) w
  have hx3 : F.extract 11 q5 = txt (labOf f) := by rw [← hF, txt_ext HFR.out, ← hq5, lab_cut f (by omega)]
  rw [hx3] at hs3
  have HLR : Hid (∀ x ∈ labOf f, 0 ≤ x ∧ x < 256) := Lib.hid (fun x hx => HFR.out x (List.mem_of_mem_drop (List.mem_of_mem_take hx)))
  have HLAB := Lib.hid (fun w => rlabel_any (txt (labOf f)) w (by rw [tsz]; unfold labOf; rw [List.length_take, List.length_drop]; omega))
  rw [ints_txt HLR.out] at HLAB
  obtain ⟨lab, hlab⟩ : ∃ lab, labOf f = lab := ⟨_, rfl⟩
  rw [hlab] at HLR HLAB hs3 hlb hle HPM
  obtain ⟨LT, hLT⟩ : ∃ LT, txt lab = LT := ⟨_, rfl⟩
  have hLi : ints LT = lab := by rw [← hLT, ints_txt HLR.out]
  have hLz : LT.size ≤ 100000 := by rw [← hLT, tsz, ← hlab]; unfold labOf; rw [List.length_take, List.length_drop]; omega
  rw [hLT] at hs3 HLAB
  rw [hlb] at HLAB
  have ha1 := fun w : World => str_cat (P := Tryz.prog) ⟨#[45, 45, 45, 45, 45, 69, 78, 68, 32]⟩ LT ([45, 45, 45, 45, 45, 69, 78, 68, 32] ++ lab) (by rw [hLi]; rfl) (by show 9 + LT.size ≤ _; omega) w
  have hz1 : (txt ([45, 45, 45, 45, 45, 69, 78, 68, 32] ++ lab)).size ≤ 100009 := by rw [tsz]; simp only [List.length_append, List.length_cons, List.length_nil]; rw [← tsz lab, hLT]; omega
  have hi1 : ints (txt ([45, 45, 45, 45, 45, 69, 78, 68, 32] ++ lab)) = [45, 45, 45, 45, 45, 69, 78, 68, 32] ++ lab := ints_txt (end_rng HLR.out).1
  obtain ⟨B1, hB1⟩ : ∃ B1, txt ([45, 45, 45, 45, 45, 69, 78, 68, 32] ++ lab) = B1 := ⟨_, rfl⟩
  rw [hB1] at ha1 hz1 hi1
  have ha2 := fun w : World => str_cat (P := Tryz.prog) B1 ⟨#[45, 45, 45, 45, 45]⟩ (endL lab) (by rw [hi1, end_lab]; rfl) (by show B1.size + 5 ≤ _; omega) w
  obtain ⟨B2, hB2⟩ : ∃ B2, txt (endL lab) = B2 := ⟨_, rfl⟩
  rw [hB2] at ha2
  obtain ⟨LL, hLL⟩ : ∃ LL, txt l = LL := ⟨_, rfl⟩
  have hne : (LL.toList == B2.toList) = true := by
    rw [← hLL, ← hB2, hle]; simp
  have HLI := Lib.hid hLi
  have HLTX := Lib.hid hLT
  have HLZ := Lib.hid hLz
  have HLB := Lib.hid hlb
  have HTX : Hid (txt xs = T) := Lib.hid hT'
  have hmi : (m : Int) ≤ 100000 := by have := HK.out; omega
  clear hlast hle hlb hLi hLz hz1 hi1 hB1 hB2 hLT
  clear h17 hfl hFz h2 hfm hb hx1 hT1 hP1 hx2 hT2 hs hq5 hP2 hx3 hNm hm hm1 hNk hT'
  go_enter Tryz.func10, Tryz.ntmps10
  go_wp2_with fail
  refine (HSP.out _).mono ?_
  rw [hN]
  rintro e w3 ⟨P, cc, rfl, hown, hp⟩
  obtain ⟨b, rfl, hcc, hra⟩ := Ra.of _ rfl HS.out HL0.out (by rw [hN]; exact hown) hp
  have H3 := Lib.hid hra
  obtain ⟨g, hg⟩ : ∃ g, w.heap.size = g := ⟨_, rfl⟩
  rw [hg] at H3 ⊢
  clear hown hp hra hcell hco HN hcc hg hni hn0 hn1
  have hc0 := H3.out.line 0 HL0.out
  rw [hf, hF] at hc0
  have hc1 := H3.out.line m1 (by rw [hN]; omega)
  rw [HLS.out, hLL] at hc1
  have HLN : Hid (∀ j, j < m → ∃ p, mid.getD j [] = p ∧ p ∈ mid ∧ w3.cell? ⟨b, j + 1, none⟩ = some (.string (txt p))) := Lib.hid (fun j hj => by
    refine ⟨_, rfl, ?_, ?_⟩
    · rw [List.getD_eq_getElem?_getD, List.getElem?_eq_getElem (by rw [HM.out]; exact hj)]
      exact List.getElem_mem _
    · rw [← HMD.out j hj]
      exact H3.out.line (j + 1) (by rw [hN, HNM.out]; omega))
  clear hparts hN hLL
  go_wp2_with fail
  refine (HLAB.out _).mono ?_
  rintro e w4 ⟨rfl, hw4⟩
  rw [hw4]
  clear hw4
  clear hc0 hs1 hs2 hs3 he1 he2
  go_wp2_with fail
  go_loopg [7, 8] m (fun q s7 s8 wx => ∃ (j i : Nat), j ≤ m ∧ q = m - j ∧ i = j + 1 ∧ s7 = .string (txt (mid.take j).flatten) ∧ s8 = .int .i64 (i : Int) ∧ Hid (∀ p ∈ mid.take j, p.length ≤ 64) ∧ Hid (wx = w3))
  case atStart => exact ⟨0, 1, Nat.zero_le _, rfl, rfl, rfl, rfl, Lib.hid (fun p hp => by cases hp), Lib.hid rfl⟩
  case round =>
    obtain ⟨j, i, hj, hgk, hij, rfl, rfl, HQ, HW⟩ := hrel
    rw [HW.out]
    clear HW
    have HJ := Lib.hid hj
    have HGK := Lib.hid hgk
    have HIJ := Lib.hid hij
    have hi0 : (0 : Int) ≤ (i : Int) := by omega
    have hib : (i : Int) ≤ 100001 := by omega
    by_cases hlt : j < m
    · have hin : (i : Int) < (m1 : Int) := by have := HM1.out; omega
      have hiN : (i : Int) < (N : Int) := by have := HNM.out; omega
      have HLT := Lib.hid hlt
      obtain ⟨p, hp1, hp2, hp3⟩ := HLN.out j hlt
      rw [← hij] at hp3
      have HP1 := Lib.hid hp1
      have hpl : p.length ≤ 100000 := by
        have h1 := flat_succ (mid := mid) (j := j) (by rw [HM.out]; exact hlt)
        have h2 := HFL.out (j + 1)
        rw [h1, hp1, List.length_append] at h2
        omega
      obtain ⟨TP, hTP⟩ : ∃ TP, txt p = TP := ⟨_, rfl⟩
      have hTz : TP.size = p.length := by rw [← hTP, tsz]
      have hTi : ints TP = p := by rw [← hTP, ints_txt (HMR.out p hp2)]
      rw [hTP] at hp3
      by_cases h64 : 64 < p.length
      · have h64i : (64 : Int) < (TP.size : Int) := by omega
        have HR : Hid (parP xs = .err 5) := Lib.hid (HPM.out.trans (mid_long12 hp2 h64))
        clear hj hgk hij hlt hp1 hp2 hpl hTP hTz hTi h64 hib
        go_wp2_with (refine wpList_store_row rfl 29 _ _ rfl _ _ rfl rfl _ _ H3.out.res (resR _ rfl) rfl (by simp [Value.oneCell']) ?_)
        refine bodyPost_ret (results_cell_row rfl _ _ _ _ _ _ _ rfl (setRow_heap _ _ _ _ _ _ H3.out.res) Tryz.underlying29 rfl (resR _ rfl)) (by rfl) ?_
        rw [HR.out]
        exact ⟨rfl, past_rowR H3.out.past (by rw [H3.out.ge]; exact Nat.le_refl _) _⟩
      · have h64i : ¬ (64 : Int) < (TP.size : Int) := by omega
        obtain ⟨S, hS⟩ : ∃ S, txt (mid.take j).flatten = S := ⟨_, rfl⟩
        have hSi : ints S = (mid.take j).flatten := by rw [← hS, ints_txt (HTR.out j)]
        have hSz : S.size ≤ 100000 := by rw [← hS, tsz]; exact HFL.out j
        have hadd := fun w : World => str_cat (P := Tryz.prog) S TP (mid.take (j + 1)).flatten (by rw [hSi, hTi, flat_succ (by rw [HM.out]; exact hlt), hp1]) (by omega) w
        have HQ2 : Hid (∀ p ∈ mid.take (j + 1), p.length ≤ 64) := Lib.hid (all_succ (by rw [HM.out]; exact hlt) HQ.out (by rw [hp1]; omega))
        rw [hS]
        obtain ⟨S2, hS2⟩ : ∃ S2, txt (mid.take (j + 1)).flatten = S2 := ⟨_, rfl⟩
        have HS2 := Lib.hid hS2
        rw [hS2] at hadd
        obtain ⟨i2, hi2⟩ : ∃ i2, i + 1 = i2 := ⟨_, rfl⟩
        have hwi : IntKind.i64.wrap ((i : Int) + 1) = (i2 : Int) := by rw [IntKind.wrap_i64]; omega
        have HI2 := Lib.hid hi2
        clear hj hgk hij hlt hp1 hp2 hpl hTP hTz hTi h64 hS hSi hSz hS2 hi2 hib
        go_wp2_with fail
        go_roundg (m - (j + 1))
        case rel => exact ⟨j + 1, i2, by have := HLT.out; omega, rfl, by have := HI2.out; have := HIJ.out; omega, by rw [HS2.out], by first | go_num | (congr 1; have := HI2.out; omega), HQ2, Lib.hid rfl⟩
        case measure => have := HGK.out; have := HLT.out; omega
    · obtain rfl : j = m := by omega
      have hin : ¬ (i : Int) < (m1 : Int) := by have := HM1.out; omega
      have HMQ : Hid (∀ p ∈ mid, p.length ≤ 64) := Lib.hid (by
        have := HQ.out
        rwa [List.take_of_length_le (by rw [HM.out]; exact Nat.le_refl _)] at this)
      rw [List.take_of_length_le (by rw [HM.out]; exact Nat.le_refl _)]
      obtain ⟨D, hD⟩ : ∃ D, txt mid.flatten = D := ⟨_, rfl⟩
      have HD := Lib.hid hD
      rw [hD]
      clear hj hgk hij hlt hib hD
      go_wp2_with fail
      go_loopg [9] j (fun q s9 wx => ∃ (r i : Nat), r ≤ j - 1 ∧ q = j - r ∧ i = r + 1 ∧ s9 = .int .i64 (i : Int) ∧ Hid (∀ p ∈ mid.take r, 64 ≤ p.length) ∧ Hid (wx = w3))
      case atStart => exact ⟨0, 1, Nat.zero_le _, rfl, rfl, rfl, Lib.hid (fun p hp => by cases hp), Lib.hid rfl⟩
      case round =>
        obtain ⟨r, i3, hr, hgk, hir, rfl, HQ3, HW⟩ := hrel
        rw [HW.out]
        clear HW
        have HGK3 := Lib.hid hgk
        have HIR := Lib.hid hir
        have hi30 : (0 : Int) ≤ (i3 : Int) := by omega
        by_cases hlt3 : r + 1 < j
        · have hin3 : (i3 : Int) < (j : Int) := by omega
          have hiN3 : (i3 : Int) < (N : Int) := by have := HNM.out; omega
          have HLT3 := Lib.hid hlt3
          obtain ⟨p, hp1, hp2, hp3⟩ := HLN.out r (by omega)
          rw [← hir] at hp3
          obtain ⟨TP, hTP⟩ : ∃ TP, txt p = TP := ⟨_, rfl⟩
          have hTz : TP.size = p.length := by rw [← hTP, tsz]
          rw [hTP] at hp3
          by_cases h64 : p.length < 64
          · have h64i : (TP.size : Int) < 64 := by omega
            have HR : Hid (parP xs = .err 6) := Lib.hid (HPM.out.trans (mid_short12 HMQ.out (j := r) (by rw [HM.out]; exact hlt3) (by rw [hp1]; exact h64)))
            clear hr hgk hir hlt3 hp1 hp2 hTP hTz h64
            go_wp2_with (refine wpList_store_row rfl 29 _ _ rfl _ _ rfl rfl _ _ H3.out.res (resR _ rfl) rfl (by simp [Value.oneCell']) ?_)
            refine bodyPost_ret (results_cell_row rfl _ _ _ _ _ _ _ rfl (setRow_heap _ _ _ _ _ _ H3.out.res) Tryz.underlying29 rfl (resR _ rfl)) (by rfl) ?_
            rw [HR.out]
            exact ⟨rfl, past_rowR H3.out.past (by rw [H3.out.ge]; exact Nat.le_refl _) _⟩
          · have h64i : ¬ (TP.size : Int) < 64 := by omega
            have HQ4 : Hid (∀ p ∈ mid.take (r + 1), 64 ≤ p.length) := Lib.hid (all_succ (by rw [HM.out]; omega) HQ3.out (by rw [hp1]; omega))
            obtain ⟨i4, hi4⟩ : ∃ i4, i3 + 1 = i4 := ⟨_, rfl⟩
            have hwi : IntKind.i64.wrap ((i3 : Int) + 1) = (i4 : Int) := by rw [IntKind.wrap_i64]; omega
            have HI4 := Lib.hid hi4
            clear hr hgk hir hlt3 hp1 hp2 hTP hTz h64 hi4
            go_wp2_with fail
            go_roundg (j - (r + 1))
            case rel => exact ⟨r + 1, i4, by have := HLT3.out; omega, rfl, by have := HI4.out; have := HIR.out; omega, by first | go_num | (congr 1; have := HI4.out; omega), HQ4, Lib.hid rfl⟩
            case measure => have := HGK3.out; have := HLT3.out; omega
        · have hin3 : ¬ (i3 : Int) < (j : Int) := by omega
          by_cases hj0 : j = 0
          · have HR : Hid (parP xs = .err 6) := Lib.hid (by
              rw [HPM.out, List.length_eq_zero_iff.1 (HM.out.trans hj0)]
              rfl)
            have hNe : ((N : Int) == 2) = true := by have := HNM.out; simp; omega
            clear hr hgk hir hlt3 hj0
            go_wp2_with (refine wpList_store_row rfl 29 _ _ rfl _ _ rfl rfl _ _ H3.out.res (resR _ rfl) rfl (by simp [Value.oneCell']) ?_)
            refine bodyPost_ret (results_cell_row rfl _ _ _ _ _ _ _ rfl (setRow_heap _ _ _ _ _ _ H3.out.res) Tryz.underlying29 rfl (resR _ rfl)) (by rfl) ?_
            rw [HR.out]
            exact ⟨rfl, past_rowR H3.out.past (by rw [H3.out.ge]; exact Nat.le_refl _) _⟩
          · have hNe : ((N : Int) == 2) = false := by have := HNM.out; simp; omega
            have HRJ : Hid (r + 1 = j) := Lib.hid (by omega)
            have HPM2 : Hid (parP xs = match rdec 1 (txt mid.flatten) with
                | none => .err 5
                | some ys => if mid.getLastD [] = [] then .err 5 else .ok lab ys) := Lib.hid (HPM.out.trans (mid_go12 HMQ.out (by rintro rfl; exact hj0 HM.out.symm) (by
                  intro p hp
                  rw [List.dropLast_eq_take] at hp
                  exact HQ3.out p (by rw [HM.out, show j - 1 = r by omega] at hp; exact hp))))
            have hDz : D.size ≤ 100000 := by
              rw [← HD.out, tsz]
              have := HFL.out j
              rwa [List.take_of_length_le (by rw [HM.out]; exact Nat.le_refl _)] at this
            have HDE := Lib.hid (rdecode_any 1 D w3 hDz)
            rw [HD.out] at HPM2
            have HDZ := Lib.hid hDz
            clear hr hgk hir hlt3 hj0 hDz
            cases hrd : rdec 1 D with
            | none =>
              rw [hrd] at HDE HPM2
              have HR : Hid (parP xs = .err 5) := Lib.hid HPM2.out
              clear hrd
              go_wp2_with fail
              refine (HDE.out).mono ?_
              rintro e w5 ⟨rfl, hp⟩
              have H5 := Lib.hid (H3.out.later hp)
              have HA5 : Hid (∀ q, Ra w g (some ⟨b0, o, none⟩) (k + 1) c xs b ls (w5.drewN q)) := Lib.hid (fun q => H5.out.later (Past.drewN (Below.refl _ _) q))
              clear hp
              go_wp2_with fail
              go_quiet (fail)
              go_wp2_with (refine wpList_store_row rfl 29 _ _ rfl _ _ rfl rfl _ _ (HA5.out _).res (resR _ rfl) rfl (by simp [Value.oneCell']) ?_)
              refine bodyPost_ret (results_cell_row rfl _ _ _ _ _ _ _ rfl (setRow_heap _ _ _ _ _ _ (HA5.out _).res) Tryz.underlying29 rfl (resR _ rfl)) (by rfl) ?_
              rw [HR.out]
              exact ⟨rfl, past_rowR (HA5.out _).past (by rw [(HA5.out 0).ge]; exact Nat.le_refl _) _⟩
            | some ys =>
              rw [hrd] at HDE HPM2
              have HYR : Hid (∀ x ∈ ys, 0 ≤ x ∧ x < 256) := Lib.hid (renc_of_rdec hrd).2.2
              have HYL : Hid (ys.length ≤ 100000) := Lib.hid (Nat.le_trans (rdec_len hrd) HDZ.out)
              clear hrd
              go_wp2_with fail
              refine (HDE.out).mono ?_
              rintro e w5 ⟨A5, n5, c5, rfl, hS5, hp⟩
              have H5 := Lib.hid (H3.out.later hp)
              obtain ⟨wd, hwd⟩ : ∃ wd, wd = w5.drew := ⟨_, rfl⟩
              have HWD := Lib.hid hwd
              have HPD : Hid (Past w5 wd) := Lib.hid (by rw [hwd]; exact Past.drewN (Below.refl _ w5) 1)
              clear hwd
              have hco1 := conv_sl (P := Tryz.prog) (src := 22) (dst := 9) (e := 5) Tryz.underlying22 Tryz.underlying5 Tryz.underlying9 (H5.out.later HPD.out).src
              rw [HTX.out] at hco1
              have hn5 : n5 = ys.length := hS5.len.symm
              have HT5 := Lib.hid (rtext_any LT A5 n5 c5 ys wd (hS5.past HPD.out) (by rw [hn5]; exact HYL.out) (by have := HLZ.out; omega))
              rw [HLI.out] at HT5
              obtain ⟨TT, hTT⟩ : ∃ TT, txt (rtextL lab ys) = TT := ⟨_, rfl⟩
              rw [hTT] at HT5
              have HS5 := Lib.hid hS5
              have HLW := Lib.hid (last_word (mid := mid) H10.out HXR.out HLB.out HYR.out HPM2.out)
              clear hp hS5 hn5
              rcases HLW.out with ⟨hyes, hpe⟩ | ⟨hno, hpe⟩
              case' inl =>
                have heq : (TT.toList == T.toList) = true := by rw [← hTT, ← HTX.out, hyes]; simp
                have HR := Lib.hid hpe
                clear hyes hpe hTT
              case' inr =>
                have heq : (TT.toList == T.toList) = false := by rw [← hTT, ← HTX.out]; exact toL_ne' (rtext_rng HLR.out) HXR.out hno
                have HR := Lib.hid hpe
                clear hno hpe hTT
              case inl =>
                go_wp2_with fail
                go_cut [127] from 118 to 128 (fun s127 wx => s127 = .bool false ∧ Hid (Ra w g (some ⟨b0, o, none⟩) (k + 1) c xs b ls wx ∧ Sl wx A5 n5 c5 ys))
                case first =>
                  refine wp_region_any (by kernel_rfl) ?_
                  change wpAny _ _ _ _ _ _ _ (World.drew _)
                  rw [← HWD.out]
                  refine wpAny_take (i := 0) (v := .bool true) rfl (by kernel_rfl) (by kernel_rfl) (by kernel_rfl) (fun _ _ _ h => h) (Or.inl ⟨by kernel_rfl, fun w => by kernel_rfl⟩) ?_; (try dsimp only [Act.put])
                  refine wpAny_take (i := 1) (v := .bool false) rfl (by kernel_rfl) (by kernel_rfl) (by kernel_rfl) (fun _ _ _ h => h) (Or.inl ⟨by kernel_rfl, fun w => by go_simp⟩) ?_; (try dsimp only [Act.put])
                  refine wpAny_take (i := 2) (v := .bool false) rfl (by kernel_rfl) (by kernel_rfl) (by kernel_rfl) (fun _ _ _ h => h) (Or.inl ⟨by kernel_rfl, fun w => by kernel_rfl⟩) ?_; (try dsimp only [Act.put])
                  refine wpAny_take (i := 3) (v := .string LT) rfl (by kernel_rfl) (by kernel_rfl) (by kernel_rfl) (fun _ _ _ h => h) (Or.inl ⟨by kernel_rfl, fun w => by kernel_rfl⟩) ?_; (try dsimp only [Act.put])
                  refine wpAny_take (i := 4) (v := .slice A5 n5 c5) rfl (by kernel_rfl) (by kernel_rfl) (by kernel_rfl) (fun _ _ _ h => h) (Or.inl ⟨by kernel_rfl, fun w => by kernel_rfl⟩) ?_; (try dsimp only [Act.put])
                  refine wpAny_take (i := 6) (v := .slice (some ⟨b0, o, none⟩) (k + 1) c) rfl (by kernel_rfl) (by kernel_rfl) (by kernel_rfl) (fun _ _ _ h => h) (Or.inl ⟨by kernel_rfl, fun w => by kernel_rfl⟩) ?_; (try dsimp only [Act.put])
                  refine wpAny_ready (rs := [5, 7]) (by kernel_rfl) (by simp) ?_
                  refine AllReady.cons rfl (fun K hK => ?_) (AllReady.cons rfl (fun K hK => ?_) AllReady.nil)
                  · go_simp
                    refine (HT5.out).mono ?_
                    rintro e6 w6 ⟨rfl, hp6⟩
                    have HP6 := Lib.hid hp6
                    have hco2 := conv_sl (P := Tryz.prog) (src := 22) (dst := 9) (e := 5) Tryz.underlying22 Tryz.underlying5 Tryz.underlying9 ((H5.out.later HPD.out).later hp6).src
                    rw [HTX.out] at hco2
                    clear hp6
                    refine hK _ _ ?_
                    clear hK K
                    try dsimp only [Act.put]
                    refine wpAny_ready (rs := [7]) (by kernel_rfl) (by simp) ?_
                    refine AllReady.cons rfl (fun K hK => ?_) AllReady.nil
                    go_simp
                    refine hK _ _ ?_
                    clear hK K
                    try dsimp only [Act.put]
                    refine wpAny_take (i := 8) (v := .bool false) rfl (by kernel_rfl) (by kernel_rfl) (by kernel_rfl) (fun _ _ _ h => h) (Or.inl ⟨by kernel_rfl, fun w => by go_simp⟩) ?_; (try dsimp only [Act.put])
                    refine wpAny_take (i := 9) (v := .bool false) rfl (by kernel_rfl) (by kernel_rfl) (by kernel_rfl) (fun _ _ _ h => h) (Or.inl ⟨by kernel_rfl, fun w => by kernel_rfl⟩) ?_; (try dsimp only [Act.put])
                    refine wpAny_done (by kernel_rfl) ?_ _
                    go_simp
                    go_wp2_with fail
                    go_meet
                    exact ⟨rfl, Lib.hid ⟨(H5.out.later HPD.out).later HP6.out, (HS5.out.past HPD.out).past HP6.out⟩⟩
                  · go_simp
                    refine hK _ _ ?_
                    clear hK K
                    try dsimp only [Act.put]
                    refine wpAny_ready (rs := [5]) (by kernel_rfl) (by simp) ?_
                    refine AllReady.cons rfl (fun K hK => ?_) AllReady.nil
                    go_simp
                    refine (HT5.out).mono ?_
                    rintro e6 w6 ⟨rfl, hp6⟩
                    have HP6 := Lib.hid hp6
                    have hco2 := conv_sl (P := Tryz.prog) (src := 22) (dst := 9) (e := 5) Tryz.underlying22 Tryz.underlying5 Tryz.underlying9 ((H5.out.later HPD.out).later hp6).src
                    rw [HTX.out] at hco2
                    clear hp6
                    refine hK _ _ ?_
                    clear hK K
                    try dsimp only [Act.put]
                    refine wpAny_take (i := 8) (v := .bool false) rfl (by kernel_rfl) (by kernel_rfl) (by kernel_rfl) (fun _ _ _ h => h) (Or.inl ⟨by kernel_rfl, fun w => by go_simp⟩) ?_; (try dsimp only [Act.put])
                    refine wpAny_take (i := 9) (v := .bool false) rfl (by kernel_rfl) (by kernel_rfl) (by kernel_rfl) (fun _ _ _ h => h) (Or.inl ⟨by kernel_rfl, fun w => by kernel_rfl⟩) ?_; (try dsimp only [Act.put])
                    refine wpAny_done (by kernel_rfl) ?_ _
                    go_simp
                    go_wp2_with fail
                    go_meet
                    exact ⟨rfl, Lib.hid ⟨(H5.out.later HPD.out).later HP6.out, (HS5.out.past HPD.out).past HP6.out⟩⟩
                obtain ⟨rfl, HCC⟩ := hcut
                have H7 := Lib.hid HCC.out.1
                clear heq
                have hcs : (#[.string LT, .slice A5 n5 c5, .int .i64 0] : Array Value).all (·.oneCell') = true := by simp [Value.oneCell']
                go_wp2_with (refine wpList_store_row rfl 29 _ _ rfl _ _ rfl rfl _ _ H7.out.res (resR _ rfl) rfl hcs ?_)
                refine bodyPost_ret (results_cell_row rfl _ _ _ _ _ _ _ rfl (setRow_heap _ _ _ _ _ _ H7.out.res) Tryz.underlying29 rfl (resR _ rfl)) (by rfl) ?_
                rw [HR.out]
                have h6 := Sl.setRowR HCC.out.2 H7.out.res #[.string LT, .slice A5 n5 c5, .int .i64 0]
                exact ⟨⟨A5, n5, c5, by rw [HLTX.out], h6⟩, past_rowR H7.out.past (by rw [H7.out.ge]; exact Nat.le_refl _) _⟩
              case inr =>
                go_wp2_with fail
                go_cut [127] from 118 to 128 (fun s127 wx => s127 = .bool true ∧ Hid (Ra w g (some ⟨b0, o, none⟩) (k + 1) c xs b ls wx ∧ Sl wx A5 n5 c5 ys))
                case first =>
                  refine wp_region_any (by kernel_rfl) ?_
                  change wpAny _ _ _ _ _ _ _ (World.drew _)
                  rw [← HWD.out]
                  refine wpAny_take (i := 0) (v := .bool true) rfl (by kernel_rfl) (by kernel_rfl) (by kernel_rfl) (fun _ _ _ h => h) (Or.inl ⟨by kernel_rfl, fun w => by kernel_rfl⟩) ?_; (try dsimp only [Act.put])
                  refine wpAny_take (i := 1) (v := .bool false) rfl (by kernel_rfl) (by kernel_rfl) (by kernel_rfl) (fun _ _ _ h => h) (Or.inl ⟨by kernel_rfl, fun w => by go_simp⟩) ?_; (try dsimp only [Act.put])
                  refine wpAny_take (i := 2) (v := .bool false) rfl (by kernel_rfl) (by kernel_rfl) (by kernel_rfl) (fun _ _ _ h => h) (Or.inl ⟨by kernel_rfl, fun w => by kernel_rfl⟩) ?_; (try dsimp only [Act.put])
                  refine wpAny_take (i := 3) (v := .string LT) rfl (by kernel_rfl) (by kernel_rfl) (by kernel_rfl) (fun _ _ _ h => h) (Or.inl ⟨by kernel_rfl, fun w => by kernel_rfl⟩) ?_; (try dsimp only [Act.put])
                  refine wpAny_take (i := 4) (v := .slice A5 n5 c5) rfl (by kernel_rfl) (by kernel_rfl) (by kernel_rfl) (fun _ _ _ h => h) (Or.inl ⟨by kernel_rfl, fun w => by kernel_rfl⟩) ?_; (try dsimp only [Act.put])
                  refine wpAny_take (i := 6) (v := .slice (some ⟨b0, o, none⟩) (k + 1) c) rfl (by kernel_rfl) (by kernel_rfl) (by kernel_rfl) (fun _ _ _ h => h) (Or.inl ⟨by kernel_rfl, fun w => by kernel_rfl⟩) ?_; (try dsimp only [Act.put])
                  refine wpAny_ready (rs := [5, 7]) (by kernel_rfl) (by simp) ?_
                  refine AllReady.cons rfl (fun K hK => ?_) (AllReady.cons rfl (fun K hK => ?_) AllReady.nil)
                  · go_simp
                    refine (HT5.out).mono ?_
                    rintro e6 w6 ⟨rfl, hp6⟩
                    have HP6 := Lib.hid hp6
                    have hco2 := conv_sl (P := Tryz.prog) (src := 22) (dst := 9) (e := 5) Tryz.underlying22 Tryz.underlying5 Tryz.underlying9 ((H5.out.later HPD.out).later hp6).src
                    rw [HTX.out] at hco2
                    clear hp6
                    refine hK _ _ ?_
                    clear hK K
                    try dsimp only [Act.put]
                    refine wpAny_ready (rs := [7]) (by kernel_rfl) (by simp) ?_
                    refine AllReady.cons rfl (fun K hK => ?_) AllReady.nil
                    go_simp
                    refine hK _ _ ?_
                    clear hK K
                    try dsimp only [Act.put]
                    refine wpAny_take (i := 8) (v := .bool true) rfl (by kernel_rfl) (by kernel_rfl) (by kernel_rfl) (fun _ _ _ h => h) (Or.inl ⟨by kernel_rfl, fun w => by go_simp⟩) ?_; (try dsimp only [Act.put])
                    refine wpAny_take (i := 9) (v := .bool true) rfl (by kernel_rfl) (by kernel_rfl) (by kernel_rfl) (fun _ _ _ h => h) (Or.inl ⟨by kernel_rfl, fun w => by kernel_rfl⟩) ?_; (try dsimp only [Act.put])
                    refine wpAny_done (by kernel_rfl) ?_ _
                    go_simp
                    go_wp2_with fail
                    go_meet
                    exact ⟨rfl, Lib.hid ⟨(H5.out.later HPD.out).later HP6.out, (HS5.out.past HPD.out).past HP6.out⟩⟩
                  · go_simp
                    refine hK _ _ ?_
                    clear hK K
                    try dsimp only [Act.put]
                    refine wpAny_ready (rs := [5]) (by kernel_rfl) (by simp) ?_
                    refine AllReady.cons rfl (fun K hK => ?_) AllReady.nil
                    go_simp
                    refine (HT5.out).mono ?_
                    rintro e6 w6 ⟨rfl, hp6⟩
                    have HP6 := Lib.hid hp6
                    have hco2 := conv_sl (P := Tryz.prog) (src := 22) (dst := 9) (e := 5) Tryz.underlying22 Tryz.underlying5 Tryz.underlying9 ((H5.out.later HPD.out).later hp6).src
                    rw [HTX.out] at hco2
                    clear hp6
                    refine hK _ _ ?_
                    clear hK K
                    try dsimp only [Act.put]
                    refine wpAny_take (i := 8) (v := .bool true) rfl (by kernel_rfl) (by kernel_rfl) (by kernel_rfl) (fun _ _ _ h => h) (Or.inl ⟨by kernel_rfl, fun w => by go_simp⟩) ?_; (try dsimp only [Act.put])
                    refine wpAny_take (i := 9) (v := .bool true) rfl (by kernel_rfl) (by kernel_rfl) (by kernel_rfl) (fun _ _ _ h => h) (Or.inl ⟨by kernel_rfl, fun w => by kernel_rfl⟩) ?_; (try dsimp only [Act.put])
                    refine wpAny_done (by kernel_rfl) ?_ _
                    go_simp
                    go_wp2_with fail
                    go_meet
                    exact ⟨rfl, Lib.hid ⟨(H5.out.later HPD.out).later HP6.out, (HS5.out.past HPD.out).past HP6.out⟩⟩
                obtain ⟨rfl, HCC⟩ := hcut
                have H7 := Lib.hid HCC.out.1
                clear heq
                go_wp2_with (refine wpList_store_row rfl 29 _ _ rfl _ _ rfl rfl _ _ H7.out.res (resR _ rfl) rfl (by simp [Value.oneCell']) ?_)
                refine bodyPost_ret (results_cell_row rfl _ _ _ _ _ _ _ rfl (setRow_heap _ _ _ _ _ _ H7.out.res) Tryz.underlying29 rfl (resR _ rfl)) (by rfl) ?_
                rw [HR.out]
                exact ⟨rfl, past_rowR H7.out.past (by rw [H7.out.ge]; exact Nat.le_refl _) _⟩

end Go.Proofs.YtnnonidiogoffaaGreatDoor
