/- The program's Parse. -/
import Derived.Test.YtnnonidiogoffaaGreatDoorPm12K
import Derived.Laws.MakeOwn
import Derived.Deep.CutRange
namespace Go.Proofs.YtnnonidiogoffaaGreatDoor
open Go.RowKit Go.Shelf
set_option linter.unusedVariables false

/-- A new slice for lines. -/
theorem mk_lines (N : Nat) (hN : N ≤ 1000000) (w : World) : ∃ w', (Instr.makeSlice 48 (.int .i64 0) (.int .i64 (N : Int))).run Tryz.prog w = .ok (.slice (some ⟨w.heap.size, 0, none⟩) 0 N) w' ∧
    w'.ownsRow w.heap.size 22 1 (.slice (some ⟨w.heap.size, 0, none⟩) 0 N) 0 [] ∧ Past w w' := by
  obtain ⟨i0, hi, hz0, hz1, hz2⟩ := info_parts infoSl
  obtain ⟨w', h1, h2, h3⟩ := run_make_own (P := Tryz.prog) w w.heap.size 48 22 i0 (.slice none 0 0) 1 Tryz.underlying48 hi hz0 hz1 .i64 .i64 N (by rw [hz2]; omega) (by unfold maxLen; omega) (Nat.le_refl _)
  exact ⟨w', h1, h2, ⟨h3.os, h3.tape, h3.output, h3.size, fun i hi => h3.block i hi (by simp)⟩⟩
def lnX (xs : List Int) (i : Nat) : List Int := (spl 10 xs).getD i []
theorem lnX_prt (xs : List Int) : prt (lnX xs) (nln xs) = lnsL xs := by
  unfold prt lnX nln lnsL
  refine List.ext_getElem (by simp) fun j h1 h2 => ?_
  rw [List.length_dropLast] at h2
  simp [List.getElem?_eq_getElem (show j < (spl 10 xs).length by omega)]
theorem sls_of_own {w : World} {A : Option Addr} {n c : Nat} {xs : List Int} {base : Nat} {P : Option Addr} {cc : Nat} (hown : w.ownsRow base 22 1 (.slice P (nln xs) cc) (nln xs) ((List.range (nln xs)).map (lnV A c xs))) (hS : Sl w A n c xs) : Sls w P (nln xs) cc (fun i => (ra A c xs i).1) (fun i => (ra A c xs i).2) (lnX xs) := by
  have hq := nln_spl xs
  rcases hown.2 with ⟨e1, e2⟩ | ⟨g, cap, cur, e1, e2, e3, e4, e5, e6, e7⟩
  · injection e1 with a1 a2 a3
    subst a1 a3
    exact ⟨by omega, by unfold maxLen; omega, fun _ => rfl, fun h => by omega⟩
  · injection e1 with a1 a2 a3
    subst a1 a3
    refine ⟨e4, e5, fun h => (by cases h), fun hn => ⟨g, 0, rfl, fun i hi => ?_⟩⟩
    have hl := hS.line i (by omega)
    have hlen : (lnX xs i).length = ix 10 (xs.drop (off 10 xs i)) := hl.len
    have := hown.cells (g := g) rfl i (lnV A c xs i) (by simp [hi])
    rw [add_none] at this
    rw [hlen]
    exact ⟨this, hl⟩
/-- What Parse answers. -/
def ParP (r : PRes) (w : World) (e : Ending) (w' : World) : Prop :=
  (match r with
    | .err c => e = .returned (.tuple #[.string ⟨#[]⟩, .slice none 0 0, cdV c])
    | .ok lab ys => ∃ A m cc, e = .returned (.tuple #[.string (txt lab), .slice A m cc, .nilIface]) ∧ Sl w' A m cc ys) ∧ Past w w'
theorem has_suf {xs : List Int} (hr : ∀ x ∈ xs, 0 ≤ x ∧ x < 256) : Lib.hasSuffix (Lib.bytesOf xs) (Lib.bytesOf [10]) = decide (xs.getLast? = some 10) := by
  unfold Lib.hasSuffix
  by_cases h : xs.getLast? = some 10
  · rw [decide_eq_true h, List.isSuffixOf_iff_suffix]
    obtain ⟨ys, rfl⟩ := List.getLast?_eq_some_iff.1 h
    exact ⟨Lib.bytesOf ys, by simp [Lib.bytesOf]⟩
  · rw [decide_eq_false h]
    cases hs : (Lib.bytesOf [10]).isSuffixOf (Lib.bytesOf xs) with
    | false => rfl
    | true =>
      exfalso
      rw [List.isSuffixOf_iff_suffix] at hs
      obtain ⟨t, ht⟩ := hs
      apply h
      have e1 : (Lib.bytesOf xs).map (fun b => (b.toNat : Int)) = xs := by
        have := ints_txt hr
        unfold ints txt at this
        simpa using this
      rw [← e1, ← ht]
      simp [Lib.bytesOf]
theorem par_err3 {xs : List Int} (h : ¬ xs.getLast? = some 10) : parP xs = .err 3 := by unfold parP; exact if_neg h
theorem par_frm {xs : List Int} (h : xs.getLast? = some 10) (hf : frmB (lnX xs 0) (lnX xs (nln xs - 1)) = false) (hq : 1 ≤ nln xs) : parP xs = .err 5 := by
  unfold parP
  rw [if_pos h, ← lnX_prt]
  obtain ⟨k, hk⟩ : ∃ k, nln xs = k + 1 := ⟨nln xs - 1, by omega⟩
  rw [hk] at hf ⊢
  have e1 : (prt (lnX xs) (k + 1)).getD 0 [] = lnX xs 0 := by simp [prt]
  have e2 : (prt (lnX xs) (k + 1)).getLastD [] = lnX xs k := by rw [prt_succ, List.getLastD_eq_getLast?, List.getLast?_append]; rfl
  rw [e1, e2, show k + 1 - 1 = k by omega] at *
  rw [hf]
  rfl
theorem par_mid {xs : List Int} (h : xs.getLast? = some 10) {m : Nat} (hm : nln xs = m + 2) (hf : frmB (lnX xs 0) (lnX xs (m + 1)) = true) : parP xs = midP (labOf (lnX xs 0)) (prt (fun i => lnX xs (i + 1)) m) := by
  unfold parP
  rw [if_pos h, ← lnX_prt, hm]
  have e1 : (prt (lnX xs) (m + 2)).getD 0 [] = lnX xs 0 := by simp [prt]
  have e2 : (prt (lnX xs) (m + 2)).getLastD [] = lnX xs (m + 1) := by rw [prt_succ, List.getLastD_eq_getLast?, List.getLast?_append]; rfl
  have e3 : midOf (prt (lnX xs) (m + 2)) = prt (fun i => lnX xs (i + 1)) m := by
    unfold midOf prt
    rw [List.range_succ, List.range_succ_eq_map]
    simp [List.map_map, Function.comp_def]
  rw [e1, e2, e3, if_pos hf]
theorem mid_lab {lab lab' : List Int} {mid : List (List Int)} {ys : List Int} (h : midP lab mid = .ok lab' ys) : lab' = lab := by
  unfold midP at h
  split at h
  · cases h
  · split at h
    · cases h
    · cases hd : rdec 1 (txt mid.flatten) with
      | none => rw [hd] at h; cases h
      | some zs =>
        rw [hd] at h
        simp only at h
        split at h
        · cases h
        · injection h with e1 e2
          exact e1.symm
theorem lnX_len (xs : List Int) (i : Nat) : (lnX xs i).length ≤ xs.length := by
  unfold lnX
  by_cases h : i < (spl 10 xs).length
  · rw [piece_at h, List.length_take, List.length_drop]
    omega
  · rw [List.getD_eq_getElem?_getD, List.getElem?_eq_none (by omega)]
    exact Nat.zero_le _
theorem flat_mid (xs : List Int) (m : Nat) (hm : nln xs = m + 2) : (prt (fun i => lnX xs (i + 1)) m).flatten.length ≤ xs.length := by
  have h1 := congrArg List.length (spl_ends xs)
  rw [List.length_append, txtL_len, ← lnX_prt, hm] at h1
  have e : prt (lnX xs) (m + 2) = lnX xs 0 :: (prt (fun i => lnX xs (i + 1)) m ++ [lnX xs (m + 1)]) := by
    rw [prt_succ]
    unfold prt
    rw [List.range_succ_eq_map]
    simp [List.map_map, Function.comp_def]
  rw [e, List.flatten_cons, List.flatten_append, List.length_append, List.length_append] at h1
  omega
theorem Sls.tail {w : World} {b o n c m : Nat} {V : Nat → Option Addr} {C : Nat → Nat} {X : Nat → List Int} (h : Sls w (some ⟨b, o, none⟩) n c V C X) (hm : m + 1 ≤ n) : Sls w (some ⟨b, o + 1, none⟩) m (c - 1) (fun i => V (i + 1)) (fun i => C (i + 1)) (fun i => X (i + 1)) := by
  have hcap := h.cap
  have hbig := h.big
  refine ⟨by omega, by omega, fun h => (by cases h), fun hn => ⟨b, o + 1, rfl, fun i hi => ?_⟩⟩
  obtain ⟨b', o', e, hc⟩ := h.cells (by omega)
  injection e with e
  injection e with e1 e2 e3
  subst e1 e2
  have := hc (i + 1) (by omega)
  rw [show o + 1 + i = o + (i + 1) by omega]
  exact this

set_option maxHeartbeats 2400000 in
set_option maxRecDepth 100000 in
theorem parse_any (A : Option Addr) (n c : Nat) (xs : List Int) (w : World) (hS : Sl w A n c xs) (hn : n ≤ 90000) : Calls Tryz.prog 9 #[.slice A n c] w (ParP (parP xs) w) := by
  have hni : ¬ (1048576 : Int) < (n : Int) := by omega
  have HS := Lib.hid hS
  have HN := Lib.hid hn
  have hcv := Lib.run_convert_bytes_const (P := Tryz.prog) w 22 5 #[.int .u8 10] 1 1 Tryz.underlying22 Tryz.underlying5
  obtain ⟨wa, hwa⟩ : ∃ wa, wa = w.alloc (.cells #[.int .u8 10] 5 (1, 2)) := ⟨_, rfl⟩
  have HPA : Hid (Past w wa) := Lib.hid (by rw [hwa]; exact past_alloc8 _ _)
  have hcap := hS.cap
  have HHS := Lib.hid (Tryz.bytes_HasSuffix_all A (some ⟨w.heap.size, 0, none⟩) n c 1 1 xs [10] wa hS.len rfl hcap (by omega) (bytesIn_of (hS.past HPA.out).bytes) (fun _ => ⟨w.heap.size, 0, rfl, fun i hi => by
    obtain rfl : i = 0 := by omega
    rw [hwa]
    exact cell_mk w _ _ _ 0⟩))
  rw [has_suf hS.rng] at HHS
  have HWA := Lib.hid hwa
  by_cases h10 : xs.getLast? = some 10
  · rw [decide_eq_true h10] at HHS
    have HLN := Lib.hid (fun w h => linesN_any A n c xs w h (by omega))
    have HLI := Lib.hid (fun w => lines_any A n c w)
    have HQN : Hid (nln xs ≤ 1000000) := Lib.hid (by have h1 := nln_spl xs; have h2 := spl_len_le 10 xs; have h3 := hS.len; omega)
    have hq1 : 1 ≤ nln xs := by
      have h1 := (lns_last h10).2
      exact List.length_pos_iff.2 h1
    have HQ1 := Lib.hid hq1
    have H10 := Lib.hid h10
    have HAP := Lib.hid (fun (w1 W : World) (bx gm : Nat) (hS : Sl w1 A n c xs) (hP : Past w1 W) (hb : W.cell? ⟨bx, 0, none⟩ = some (.slice A n c)) (ho : W.ownsRow w1.heap.size 22 1 (.slice (some ⟨gm, 0, none⟩) 0 (nln xs)) 0 []) =>
      appendSeq_any A n c xs w1 W hS (by omega) hP bx hb w1.heap.size (Nat.le_refl _) hP.size (some ⟨gm, 0, none⟩) (nln xs) ho)
    have HMK := Lib.hid (fun w => mk_lines (nln xs) HQN.out w)
    clear hS hn hwa hcap h10 hq1
    go_enter Tryz.func9, Tryz.ntmps9
    go_wp2_with fail
    rw [← HWA.out]
    clear HWA
    refine (HHS.out).mono ?_
    rintro e w1 ⟨rfl, rfl⟩
    go_upto_region 5 with (fail)
    obtain ⟨wd, hwd⟩ : ∃ wd, wd = w1.drew := ⟨_, rfl⟩
    have HD5 : Hid (Past w wd) := Lib.hid (by rw [hwd]; exact HPA.out.drewN 1)
    have HWD5 := Lib.hid hwd
    clear hwd
    go_cut [5] from 22 to 27 (fun s5 wx => ∃ P cc, s5 = .slice P (nln xs) cc ∧ Hid (Past w wx) ∧ Hid (Sls wx P (nln xs) cc (fun i => (ra A c xs i).1) (fun i => (ra A c xs i).2) (lnX xs)))
    case first =>
      refine wp_region_any (by kernel_rfl) ?_
      change wpAny _ _ _ _ _ _ _ (World.drew _)
      rw [← HWD5.out]
      clear HWD5
      refine wpAny_take (i := 0) (v := .slice A n c) rfl (by kernel_rfl) (by kernel_rfl) (by kernel_rfl) (fun _ _ _ h => h) (Or.inl ⟨by kernel_rfl, fun w => by kernel_rfl⟩) ?_; (try dsimp only [Act.put])
      refine wpAny_take (i := 3) (v := .slice A n c) rfl (by kernel_rfl) (by kernel_rfl) (by kernel_rfl) (fun _ _ _ h => h) (Or.inl ⟨by kernel_rfl, fun w => by kernel_rfl⟩) ?_; (try dsimp only [Act.put])
      refine wpAny_ready (rs := [1]) (by kernel_rfl) (by simp) ?_
      refine AllReady.cons rfl (fun K hK => ?_) AllReady.nil
      go_simp
      refine (HLN.out _ (HS.out.past HD5.out)).mono ?_
      rintro e w5 ⟨rfl, hp5⟩
      have H5 : Hid (Past w w5) := Lib.hid (HD5.out.trans' hp5)
      clear hp5
      obtain ⟨wm, hmk, hmo, hmp⟩ := HMK.out w5
      refine hK _ _ ?_
      clear hK K
      (try dsimp only [Act.put])
      refine wpAny_ready (rs := [2, 4]) (by kernel_rfl) (by simp) ?_
      refine AllReady.cons rfl (fun K hK => ?_) (AllReady.cons rfl (fun K hK => ?_) AllReady.nil)
      · go_simp
        refine hK _ _ ?_
        clear hK K
        (try dsimp only [Act.put])
        refine wpAny_ready (rs := [4]) (by kernel_rfl) (by simp) ?_
        refine AllReady.cons rfl (fun K hK => ?_) AllReady.nil
        go_simp
        refine (HLI.out _).mono ?_
        rintro e w6 ⟨rfl, rfl⟩
        refine hK _ _ ?_
        clear hK K
        (try dsimp only [Act.put])
        refine wpAny_ready (rs := [5]) (by kernel_rfl) (by simp) ?_
        refine AllReady.cons rfl (fun K hK => ?_) AllReady.nil
        go_simp
        refine (HAP.out w5 _ _ _ (HS.out.past H5.out) (hmp.trans' (past_alloc8 _ _)) ((Row.new wm _ _).cell 0) (own_past hmo (past_alloc8 _ _))).mono ?_
        rintro e w7 ⟨P, cc, rfl, hown, hp7⟩
        have H7 : Hid (Past w w7) := Lib.hid (H5.out.trans' hp7)
        have HSL := Lib.hid (sls_of_own hown (HS.out.past H7.out))
        clear hown hp7 hmk hmo hmp
        refine hK _ _ ?_
        clear hK K
        (try dsimp only [Act.put])
        refine wpAny_take (i := 6) (v := .slice P (nln xs) cc) rfl (by kernel_rfl) (by kernel_rfl) (by kernel_rfl) (fun _ _ _ h => h) (Or.inl ⟨by kernel_rfl, fun w => by kernel_rfl⟩) ?_; (try dsimp only [Act.put])
        refine wpAny_done (by kernel_rfl) ?_ _
        go_simp
        go_wp2_with fail
        go_meet
        case rel => exact ⟨P, cc, rfl, H7, HSL⟩
      · go_simp
        refine (HLI.out _).mono ?_
        rintro e w6 ⟨rfl, rfl⟩
        clear hmk hmo hmp
        obtain ⟨wm2, hmk2, hmo2, hmp2⟩ := HMK.out (w5.alloc (.cells #[.slice A n c] 22))
        have hbx2 : wm2.cell? ⟨w5.heap.size, 0, none⟩ = some (.slice A n c) := by
          rw [hmp2.cell (cell_lt ((Row.new w5 22 #[.slice A n c]).cell 0))]
          exact (Row.new w5 _ _).cell 0
        rw [World.size_alloc] at hmk2 hmo2
        have HM2 : Hid (Past w5 wm2 ∧ wm2.cell? ⟨w5.heap.size, 0, none⟩ = some (.slice A n c) ∧ wm2.ownsRow w5.heap.size 22 1 (.slice (some ⟨w5.heap.size + 1, 0, none⟩) 0 (nln xs)) 0 []) := Lib.hid ⟨(past_alloc8 _ _).trans' hmp2, hbx2, own_mono hmo2 (by omega)⟩
        clear hmo2 hmp2 hbx2
        refine hK _ _ ?_
        clear hK K
        (try dsimp only [Act.put])
        refine wpAny_ready (rs := [2]) (by kernel_rfl) (by simp) ?_
        refine AllReady.cons rfl (fun K hK => ?_) AllReady.nil
        go_simp
        refine hK _ _ ?_
        clear hK K
        (try dsimp only [Act.put])
        refine wpAny_ready (rs := [5]) (by kernel_rfl) (by simp) ?_
        refine AllReady.cons rfl (fun K hK => ?_) AllReady.nil
        go_simp
        refine (HAP.out w5 wm2 w5.heap.size (w5.heap.size + 1) (HS.out.past H5.out) HM2.out.1 HM2.out.2.1 HM2.out.2.2).mono ?_
        rintro e w7 ⟨P, cc, rfl, hown, hp7⟩
        have H7 : Hid (Past w w7) := Lib.hid (H5.out.trans' hp7)
        have HSL := Lib.hid (sls_of_own hown (HS.out.past H7.out))
        clear hown hp7 hmk2
        refine hK _ _ ?_
        clear hK K
        (try dsimp only [Act.put])
        refine wpAny_take (i := 6) (v := .slice P (nln xs) cc) rfl (by kernel_rfl) (by kernel_rfl) (by kernel_rfl) (fun _ _ _ h => h) (Or.inl ⟨by kernel_rfl, fun w => by kernel_rfl⟩) ?_; (try dsimp only [Act.put])
        refine wpAny_done (by kernel_rfl) ?_ _
        go_simp
        go_wp2_with fail
        go_meet
        case rel => exact ⟨P, cc, rfl, H7, HSL⟩
    case rest =>
      obtain ⟨P, cc, rfl, HP5, HSL⟩ := hcut
      obtain ⟨V, hV⟩ : ∃ V : Nat → Option Addr, (fun i => (ra A c xs i).1) = V := ⟨_, rfl⟩
      obtain ⟨C, hC⟩ : ∃ C : Nat → Nat, (fun i => (ra A c xs i).2) = C := ⟨_, rfl⟩
      rw [hV, hC] at HSL
      clear hV hC
      obtain ⟨q, hq⟩ : ∃ q, nln xs = q := ⟨_, rfl⟩
      have HQE := Lib.hid hq
      rw [hq] at HSL HQN HQ1 ⊢
      obtain ⟨k, hk⟩ : ∃ k, q - 1 = k := ⟨_, rfl⟩
      have HKE : Hid (q = k + 1) := Lib.hid (by have := HQ1.out; omega)
      have hq0 : (0 : Int) < (q : Int) := by have := HQ1.out; omega
      have hq0n : 0 < q := HQ1.out
      have hk0 : (0 : Int) ≤ (k : Int) := by omega
      have hkq : (k : Int) < (q : Int) := by have := HKE.out; omega
      have hkqn : k < q := by have := HKE.out; omega
      have hnk : (q : Int) - 1 = (k : Int) := by have := HKE.out; omega
      have hqb : (q : Int) ≤ 1000000 := by have := HQN.out; omega
      have hnkw : IntKind.i64.wrap ((q : Int) - 1) = (k : Int) := by rw [IntKind.wrap_i64]; omega
      have hkw : IntKind.i64.wrap (k : Int) = (k : Int) := by rw [IntKind.wrap_i64]; omega
      obtain ⟨b, o, rfl, hc⟩ := HSL.out.cells hq0n
      have h0 := hc 0 hq0n
      have h1 := hc k hkqn
      rw [Nat.add_zero] at h0
      obtain ⟨wd, hwd⟩ : ∃ wd, wd = wc.drew := ⟨_, rfl⟩
      have hdp : Past wc wd := by rw [hwd]; exact Past.drewN (Below.refl _ wc) 1
      have HD6 : Hid (Past w wd ∧ Sls wd (some ⟨b, o, none⟩) q cc V C (lnX xs)) := Lib.hid ⟨HP5.out.trans' hdp, HSL.out.past hdp⟩
      have HSA : Hid (Sl wd (V 0) (lnX xs 0).length (C 0) (lnX xs 0)) := Lib.hid (h0.2.past hdp)
      have HSB : Hid (Sl wd (V k) (lnX xs k).length (C k) (lnX xs k)) := Lib.hid (h1.2.past hdp)
      have y0 : wd.cell? ⟨b, o, none⟩ = some (.slice (V 0) (lnX xs 0).length (C 0)) := by rw [hdp.cell (cell_lt h0.1)]; exact h0.1
      have y1 : wd.cell? ⟨b, o + k, none⟩ = some (.slice (V k) (lnX xs k).length (C k)) := by rw [hdp.cell (cell_lt h1.1)]; exact h1.1
      have hll := HS.out.len
      have HFR := Lib.hid (fun (h1 : Sl wd (V 0) (lnX xs 0).length (C 0) (lnX xs 0)) (h2 : Sl wd (V k) (lnX xs k).length (C k) (lnX xs k)) => frame_any (V 0) (lnX xs 0).length (C 0) (lnX xs 0) (V k) (lnX xs k).length (C k) (lnX xs k) wd h1 h2 (by have := lnX_len xs 0; have := HN.out; omega) (by have := lnX_len xs k; have := HN.out; omega))
      obtain ⟨Va, hVa⟩ : ∃ Va, V 0 = Va := ⟨_, rfl⟩
      obtain ⟨la, hla⟩ : ∃ la, (lnX xs 0).length = la := ⟨_, rfl⟩
      obtain ⟨Ca, hCa⟩ : ∃ Ca, C 0 = Ca := ⟨_, rfl⟩
      obtain ⟨Vb, hVb⟩ : ∃ Vb, V k = Vb := ⟨_, rfl⟩
      obtain ⟨lb, hlb⟩ : ∃ lb, (lnX xs k).length = lb := ⟨_, rfl⟩
      obtain ⟨Cb, hCb⟩ : ∃ Cb, C k = Cb := ⟨_, rfl⟩
      rw [hVa, hla, hCa, hVb, hlb, hCb] at HFR
      rw [hVa, hla, hCa] at y0 HSA
      rw [hVb, hlb, hCb] at y1 HSB
      have HWD6 := Lib.hid hwd
      clear hVa hla hCa hVb hlb hCb hwd hdp h0 h1 hc hll
      cases hf : frmB (lnX xs 0) (lnX xs k) with
      | false =>
          have hfv : frmV (lnX xs 0) (lnX xs k) = .tuple #[.string ⟨#[]⟩, .bool false] := by unfold frmV; rw [hf]; rfl
          rw [hfv] at HFR
          have HRB : Hid (parP xs = .err 5) := Lib.hid (par_frm H10.out (by rw [HQE.out, hk]; exact hf) (by rw [HQE.out]; exact HQ1.out))
          clear hf hfv hq hk
          go_upto_region 6 with (fail)
          refine wp_region_any (by kernel_rfl) ?_
          change wpAny _ _ _ _ _ _ _ (World.drew _)
          rw [← HWD6.out]
          clear HWD6
          refine wpAny_take (i := 0) (v := .slice (some ⟨b, o, none⟩) q cc) rfl (by kernel_rfl) (by kernel_rfl) (by kernel_rfl) (fun _ _ _ h => h) (Or.inl ⟨by kernel_rfl, fun w => by kernel_rfl⟩) ?_; (try dsimp only [Act.put])
          refine wpAny_take (i := 1) (v := .pointer (some ⟨b, o, none⟩)) rfl (by kernel_rfl) (by kernel_rfl) (by kernel_rfl) (fun _ _ _ h => h) (Or.inl ⟨by kernel_rfl, fun w => by go_simp⟩) ?_; (try dsimp only [Act.put])
          refine wpAny_take (i := 3) (v := .slice (some ⟨b, o, none⟩) q cc) rfl (by kernel_rfl) (by kernel_rfl) (by kernel_rfl) (fun _ _ _ h => h) (Or.inl ⟨by kernel_rfl, fun w => by kernel_rfl⟩) ?_; (try dsimp only [Act.put])
          refine wpAny_take (i := 4) (v := .slice (some ⟨b, o, none⟩) q cc) rfl (by kernel_rfl) (by kernel_rfl) (by kernel_rfl) (fun _ _ _ h => h) (Or.inl ⟨by kernel_rfl, fun w => by kernel_rfl⟩) ?_; (try dsimp only [Act.put])
          refine wpAny_take (i := 5) (v := .int .i64 (q : Int)) rfl (by kernel_rfl) (by kernel_rfl) (by kernel_rfl) (fun _ _ _ h => h) (Or.inl ⟨by kernel_rfl, fun w => by kernel_rfl⟩) ?_; (try dsimp only [Act.put])
          refine wpAny_take (i := 6) (v := .int .i64 (k : Int)) rfl (by kernel_rfl) (by kernel_rfl) (by kernel_rfl) (fun _ _ _ h => h) (Or.inl ⟨by kernel_rfl, fun w => by go_simp⟩) ?_; (try dsimp only [Act.put])
          refine wpAny_take (i := 7) (v := .pointer (some ⟨b, o + k, none⟩)) rfl (by kernel_rfl) (by kernel_rfl) (by kernel_rfl) (fun _ _ _ h => h) (Or.inl ⟨by kernel_rfl, fun w => by go_simp⟩) ?_; (try dsimp only [Act.put])
          refine wpAny_ready (rs := [2, 8]) (by kernel_rfl) (by simp) ?_
          refine AllReady.cons rfl (fun K hK => ?_) (AllReady.cons rfl (fun K hK => ?_) AllReady.nil)
          · go_simp
            refine hK _ _ ?_
            clear hK K
            (try dsimp only [Act.put])
            refine wpAny_ready (rs := [8]) (by kernel_rfl) (by simp) ?_
            refine AllReady.cons rfl (fun K hK => ?_) AllReady.nil
            go_simp
            refine hK _ _ ?_
            clear hK K
            (try dsimp only [Act.put])
            refine wpAny_ready (rs := [9]) (by kernel_rfl) (by simp) ?_
            refine AllReady.cons rfl (fun K hK => ?_) AllReady.nil
            go_simp
            refine (HFR.out HSA.out HSB.out).mono ?_
            rintro e w8 ⟨rfl, hp8⟩
            have H8 : Hid (Past w w8 ∧ Sls w8 (some ⟨b, o, none⟩) q cc V C (lnX xs)) := Lib.hid ⟨HD6.out.1.trans' hp8, HD6.out.2.past hp8⟩
            clear hp8
            refine hK _ _ ?_
            clear hK K
            (try dsimp only [Act.put])
            refine wpAny_take (i := 10) (v := .tuple #[.string ⟨#[]⟩, .bool false]) rfl (by kernel_rfl) (by kernel_rfl) (by kernel_rfl) (fun _ _ _ h => h) (Or.inl ⟨by kernel_rfl, fun w => by kernel_rfl⟩) ?_; (try dsimp only [Act.put])
            refine wpAny_take (i := 11) (v := .string ⟨#[]⟩) rfl (by kernel_rfl) (by kernel_rfl) (by kernel_rfl) (fun _ _ _ h => h) (Or.inl ⟨by kernel_rfl, fun w => by go_simp⟩) ?_; (try dsimp only [Act.put])
            refine wpAny_take (i := 12) (v := .bool false) rfl (by kernel_rfl) (by kernel_rfl) (by kernel_rfl) (fun _ _ _ h => h) (Or.inl ⟨by kernel_rfl, fun w => by go_simp⟩) ?_; (try dsimp only [Act.put])
            refine wpAny_take (i := 13) (v := .string ⟨#[]⟩) rfl (by kernel_rfl) (by kernel_rfl) (by kernel_rfl) (fun _ _ _ h => h) (Or.inl ⟨by kernel_rfl, fun w => by kernel_rfl⟩) ?_; (try dsimp only [Act.put])
            refine wpAny_take (i := 14) (v := .bool false) rfl (by kernel_rfl) (by kernel_rfl) (by kernel_rfl) (fun _ _ _ h => h) (Or.inl ⟨by kernel_rfl, fun w => by kernel_rfl⟩) ?_; (try dsimp only [Act.put])
            refine wpAny_done (by kernel_rfl) ?_ _
            go_simp
            go_wp2_with fail
            go_returns
            rw [HRB.out]
            exact ⟨rfl, H8.out.1⟩
          · go_simp
            refine hK _ _ ?_
            clear hK K
            (try dsimp only [Act.put])
            refine wpAny_ready (rs := [2]) (by kernel_rfl) (by simp) ?_
            refine AllReady.cons rfl (fun K hK => ?_) AllReady.nil
            go_simp
            refine hK _ _ ?_
            clear hK K
            (try dsimp only [Act.put])
            refine wpAny_ready (rs := [9]) (by kernel_rfl) (by simp) ?_
            refine AllReady.cons rfl (fun K hK => ?_) AllReady.nil
            go_simp
            refine (HFR.out HSA.out HSB.out).mono ?_
            rintro e w8 ⟨rfl, hp8⟩
            have H8 : Hid (Past w w8 ∧ Sls w8 (some ⟨b, o, none⟩) q cc V C (lnX xs)) := Lib.hid ⟨HD6.out.1.trans' hp8, HD6.out.2.past hp8⟩
            clear hp8
            refine hK _ _ ?_
            clear hK K
            (try dsimp only [Act.put])
            refine wpAny_take (i := 10) (v := .tuple #[.string ⟨#[]⟩, .bool false]) rfl (by kernel_rfl) (by kernel_rfl) (by kernel_rfl) (fun _ _ _ h => h) (Or.inl ⟨by kernel_rfl, fun w => by kernel_rfl⟩) ?_; (try dsimp only [Act.put])
            refine wpAny_take (i := 11) (v := .string ⟨#[]⟩) rfl (by kernel_rfl) (by kernel_rfl) (by kernel_rfl) (fun _ _ _ h => h) (Or.inl ⟨by kernel_rfl, fun w => by go_simp⟩) ?_; (try dsimp only [Act.put])
            refine wpAny_take (i := 12) (v := .bool false) rfl (by kernel_rfl) (by kernel_rfl) (by kernel_rfl) (fun _ _ _ h => h) (Or.inl ⟨by kernel_rfl, fun w => by go_simp⟩) ?_; (try dsimp only [Act.put])
            refine wpAny_take (i := 13) (v := .string ⟨#[]⟩) rfl (by kernel_rfl) (by kernel_rfl) (by kernel_rfl) (fun _ _ _ h => h) (Or.inl ⟨by kernel_rfl, fun w => by kernel_rfl⟩) ?_; (try dsimp only [Act.put])
            refine wpAny_take (i := 14) (v := .bool false) rfl (by kernel_rfl) (by kernel_rfl) (by kernel_rfl) (fun _ _ _ h => h) (Or.inl ⟨by kernel_rfl, fun w => by kernel_rfl⟩) ?_; (try dsimp only [Act.put])
            refine wpAny_done (by kernel_rfl) ?_ _
            go_simp
            go_wp2_with fail
            go_returns
            rw [HRB.out]
            exact ⟨rfl, H8.out.1⟩
      | true =>
          obtain ⟨LB, hLB⟩ : ∃ LB, txt (labOf (lnX xs 0)) = LB := ⟨_, rfl⟩
          have hfv : frmV (lnX xs 0) (lnX xs k) = .tuple #[.string LB, .bool true] := by unfold frmV; rw [hf, hLB]; rfl
          rw [hfv] at HFR
          obtain ⟨f9, m9, l9, hls⟩ := frm_two (xs := xs) (by
            rw [← lnX_prt, hq, HKE.out]
            have e1 : (prt (lnX xs) (k + 1)).getD 0 [] = lnX xs 0 := by simp [prt]
            have e2 : (prt (lnX xs) (k + 1)).getLastD [] = lnX xs k := by rw [prt_succ, List.getLastD_eq_getLast?, List.getLast?_append]; rfl
            rw [e1, e2]
            exact hf) (lns_last H10.out).2
          have hq2 : 2 ≤ q := by
            rw [← hq]
            unfold nln
            rw [hls]
            simp
          obtain ⟨m, hm⟩ : ∃ m, q = m + 2 := ⟨q - 2, by omega⟩
          have HME := Lib.hid hm
          have hkm : k = m + 1 := by omega
          have HR9 : Hid (parP xs = midP (labOf (lnX xs 0)) (prt (fun i => lnX xs (i + 1)) m)) := Lib.hid (par_mid H10.out (by rw [hq, hm]) (by rw [← hkm]; exact hf))
          have HLBE := Lib.hid hLB
          have HFL : Hid ((prt (fun i => lnX xs (i + 1)) m).flatten.length ≤ 100000) := Lib.hid (by have h1 := flat_mid xs m (by rw [hq, hm]); have h2 := HS.out.len; have h3 := HN.out; omega)
          clear hf hfv hq hk hLB hls hq2 hm hkm
          go_upto_region 6 with (fail)
          go_cut [6, 7] from 28 to 40 (fun s6 s7 wx => s6 = .string LB ∧ s7 = .bool true ∧ Hid (Past w wx ∧ Sls wx (some ⟨b, o, none⟩) q cc V C (lnX xs)))
          case first =>
            refine wp_region_any (by kernel_rfl) ?_
            change wpAny _ _ _ _ _ _ _ (World.drew _)
            rw [← HWD6.out]
            clear HWD6
            refine wpAny_take (i := 0) (v := .slice (some ⟨b, o, none⟩) q cc) rfl (by kernel_rfl) (by kernel_rfl) (by kernel_rfl) (fun _ _ _ h => h) (Or.inl ⟨by kernel_rfl, fun w => by kernel_rfl⟩) ?_; (try dsimp only [Act.put])
            refine wpAny_take (i := 1) (v := .pointer (some ⟨b, o, none⟩)) rfl (by kernel_rfl) (by kernel_rfl) (by kernel_rfl) (fun _ _ _ h => h) (Or.inl ⟨by kernel_rfl, fun w => by go_simp⟩) ?_; (try dsimp only [Act.put])
            refine wpAny_take (i := 3) (v := .slice (some ⟨b, o, none⟩) q cc) rfl (by kernel_rfl) (by kernel_rfl) (by kernel_rfl) (fun _ _ _ h => h) (Or.inl ⟨by kernel_rfl, fun w => by kernel_rfl⟩) ?_; (try dsimp only [Act.put])
            refine wpAny_take (i := 4) (v := .slice (some ⟨b, o, none⟩) q cc) rfl (by kernel_rfl) (by kernel_rfl) (by kernel_rfl) (fun _ _ _ h => h) (Or.inl ⟨by kernel_rfl, fun w => by kernel_rfl⟩) ?_; (try dsimp only [Act.put])
            refine wpAny_take (i := 5) (v := .int .i64 (q : Int)) rfl (by kernel_rfl) (by kernel_rfl) (by kernel_rfl) (fun _ _ _ h => h) (Or.inl ⟨by kernel_rfl, fun w => by kernel_rfl⟩) ?_; (try dsimp only [Act.put])
            refine wpAny_take (i := 6) (v := .int .i64 (k : Int)) rfl (by kernel_rfl) (by kernel_rfl) (by kernel_rfl) (fun _ _ _ h => h) (Or.inl ⟨by kernel_rfl, fun w => by go_simp⟩) ?_; (try dsimp only [Act.put])
            refine wpAny_take (i := 7) (v := .pointer (some ⟨b, o + k, none⟩)) rfl (by kernel_rfl) (by kernel_rfl) (by kernel_rfl) (fun _ _ _ h => h) (Or.inl ⟨by kernel_rfl, fun w => by go_simp⟩) ?_; (try dsimp only [Act.put])
            refine wpAny_ready (rs := [2, 8]) (by kernel_rfl) (by simp) ?_
            refine AllReady.cons rfl (fun K hK => ?_) (AllReady.cons rfl (fun K hK => ?_) AllReady.nil)
            · go_simp
              refine hK _ _ ?_
              clear hK K
              (try dsimp only [Act.put])
              refine wpAny_ready (rs := [8]) (by kernel_rfl) (by simp) ?_
              refine AllReady.cons rfl (fun K hK => ?_) AllReady.nil
              go_simp
              refine hK _ _ ?_
              clear hK K
              (try dsimp only [Act.put])
              refine wpAny_ready (rs := [9]) (by kernel_rfl) (by simp) ?_
              refine AllReady.cons rfl (fun K hK => ?_) AllReady.nil
              go_simp
              refine (HFR.out HSA.out HSB.out).mono ?_
              rintro e w8 ⟨rfl, hp8⟩
              have H8 : Hid (Past w w8 ∧ Sls w8 (some ⟨b, o, none⟩) q cc V C (lnX xs)) := Lib.hid ⟨HD6.out.1.trans' hp8, HD6.out.2.past hp8⟩
              clear hp8
              refine hK _ _ ?_
              clear hK K
              (try dsimp only [Act.put])
              refine wpAny_take (i := 10) (v := .tuple #[.string LB, .bool true]) rfl (by kernel_rfl) (by kernel_rfl) (by kernel_rfl) (fun _ _ _ h => h) (Or.inl ⟨by kernel_rfl, fun w => by kernel_rfl⟩) ?_; (try dsimp only [Act.put])
              refine wpAny_take (i := 11) (v := .string LB) rfl (by kernel_rfl) (by kernel_rfl) (by kernel_rfl) (fun _ _ _ h => h) (Or.inl ⟨by kernel_rfl, fun w => by go_simp⟩) ?_; (try dsimp only [Act.put])
              refine wpAny_take (i := 12) (v := .bool true) rfl (by kernel_rfl) (by kernel_rfl) (by kernel_rfl) (fun _ _ _ h => h) (Or.inl ⟨by kernel_rfl, fun w => by go_simp⟩) ?_; (try dsimp only [Act.put])
              refine wpAny_take (i := 13) (v := .string LB) rfl (by kernel_rfl) (by kernel_rfl) (by kernel_rfl) (fun _ _ _ h => h) (Or.inl ⟨by kernel_rfl, fun w => by kernel_rfl⟩) ?_; (try dsimp only [Act.put])
              refine wpAny_take (i := 14) (v := .bool true) rfl (by kernel_rfl) (by kernel_rfl) (by kernel_rfl) (fun _ _ _ h => h) (Or.inl ⟨by kernel_rfl, fun w => by kernel_rfl⟩) ?_; (try dsimp only [Act.put])
              refine wpAny_done (by kernel_rfl) ?_ _
              go_simp
              go_wp2_with fail
              go_meet
              case rel => exact ⟨rfl, rfl, H8⟩
            · go_simp
              refine hK _ _ ?_
              clear hK K
              (try dsimp only [Act.put])
              refine wpAny_ready (rs := [2]) (by kernel_rfl) (by simp) ?_
              refine AllReady.cons rfl (fun K hK => ?_) AllReady.nil
              go_simp
              refine hK _ _ ?_
              clear hK K
              (try dsimp only [Act.put])
              refine wpAny_ready (rs := [9]) (by kernel_rfl) (by simp) ?_
              refine AllReady.cons rfl (fun K hK => ?_) AllReady.nil
              go_simp
              refine (HFR.out HSA.out HSB.out).mono ?_
              rintro e w8 ⟨rfl, hp8⟩
              have H8 : Hid (Past w w8 ∧ Sls w8 (some ⟨b, o, none⟩) q cc V C (lnX xs)) := Lib.hid ⟨HD6.out.1.trans' hp8, HD6.out.2.past hp8⟩
              clear hp8
              refine hK _ _ ?_
              clear hK K
              (try dsimp only [Act.put])
              refine wpAny_take (i := 10) (v := .tuple #[.string LB, .bool true]) rfl (by kernel_rfl) (by kernel_rfl) (by kernel_rfl) (fun _ _ _ h => h) (Or.inl ⟨by kernel_rfl, fun w => by kernel_rfl⟩) ?_; (try dsimp only [Act.put])
              refine wpAny_take (i := 11) (v := .string LB) rfl (by kernel_rfl) (by kernel_rfl) (by kernel_rfl) (fun _ _ _ h => h) (Or.inl ⟨by kernel_rfl, fun w => by go_simp⟩) ?_; (try dsimp only [Act.put])
              refine wpAny_take (i := 12) (v := .bool true) rfl (by kernel_rfl) (by kernel_rfl) (by kernel_rfl) (fun _ _ _ h => h) (Or.inl ⟨by kernel_rfl, fun w => by go_simp⟩) ?_; (try dsimp only [Act.put])
              refine wpAny_take (i := 13) (v := .string LB) rfl (by kernel_rfl) (by kernel_rfl) (by kernel_rfl) (fun _ _ _ h => h) (Or.inl ⟨by kernel_rfl, fun w => by kernel_rfl⟩) ?_; (try dsimp only [Act.put])
              refine wpAny_take (i := 14) (v := .bool true) rfl (by kernel_rfl) (by kernel_rfl) (by kernel_rfl) (fun _ _ _ h => h) (Or.inl ⟨by kernel_rfl, fun w => by kernel_rfl⟩) ?_; (try dsimp only [Act.put])
              refine wpAny_done (by kernel_rfl) ?_ _
              go_simp
              go_wp2_with fail
              go_meet
              case rel => exact ⟨rfl, rfl, H8⟩
          case rest =>
            obtain ⟨rfl, rfl, HH⟩ := hcut
            have hcap := HH.out.2.cap
            have hqm := HME.out
            have hkm := HKE.out
            have h1k : (1 : Int) ≤ (k : Int) := by omega
            have hsl : ∀ w : World, (Instr.slice 48 (.slice (some ⟨b, o, none⟩) q cc) (some (.int .i64 1)) (some (.int .i64 (k : Int))) none).run Tryz.prog w = .ok (.slice (some ⟨b, o + 1, none⟩) m (cc - 1)) w := fun w => by
              rw [run_slice_lh w 48 (some ⟨b, o, none⟩) q cc Tryz.underlying48 .i64 .i64 1 (k : Int) (by omega) (by omega) (by omega)]
              have hs : (sizeOf (Tryz.prog.elem 48)).run Tryz.prog w = .ok 1 w := by kernel_rfl
              rw [hs]
              have e1 : (k : Int).toNat - (1 : Int).toNat = m := by omega
              have e2 : (1 : Int).toNat = 1 := rfl
              have hne : ¬ cc = 1 := by omega
              simp [Result.andThen, sliced, hne, add_none]
              omega
            have hRD := fun w h => read_any (some ⟨b, o + 1, none⟩) m (cc - 1) (fun i => V (i + 1)) (fun i => C (i + 1)) (fun i => lnX xs (i + 1)) (labOf (lnX xs 0)) w h (by have := HQN.out; omega) HFL.out
            have HTL := Lib.hid (HH.out.2.tail (m := m) (by omega))
            clear hcap hqm hkm
            cases hr : midP (labOf (lnX xs 0)) (prt (fun i => lnX xs (i + 1)) m) with
            | err c9 =>
              rw [hr] at hRD
              have HR := Lib.hid (HR9.out.trans hr)
              have HRD := Lib.hid hRD
              clear hr hRD
              go_wp2_with fail
              refine (HRD.out _ HTL.out).mono ?_
              rintro e w9 ⟨he, hp9⟩
              have he' : e = .returned (.tuple #[.slice none 0 0, .iface 47 (.int .i64 c9)]) := he
              clear he
              subst he'
              have H9 := Lib.hid (HH.out.1.trans' hp9)
              clear hp9
              go_wp2_with fail
              go_returns
              rw [HR.out]
              exact ⟨rfl, H9.out⟩
            | ok lab9 ys =>
              rw [hr] at hRD
              have HR := Lib.hid (HR9.out.trans hr)
              have HLA : Hid (lab9 = labOf (lnX xs 0)) := Lib.hid (mid_lab hr)
              have HRD := Lib.hid hRD
              clear hr hRD
              go_wp2_with fail
              refine (HRD.out _ HTL.out).mono ?_
              rintro e w9 ⟨he, hp9⟩
              have he' : ∃ A m cc, e = .returned (.tuple #[.slice A m cc, .nilIface]) ∧ Sl w9 A m cc ys := he
              clear he
              obtain ⟨A9, m9, c9, rfl, hs9⟩ := he'
              have H9 := Lib.hid (And.intro (HH.out.1.trans' hp9) hs9)
              clear hp9 hs9
              go_wp2_with fail
              go_returns
              rw [HR.out]
              exact ⟨⟨A9, m9, c9, by rw [HLA.out, HLBE.out]; rfl, H9.out.2⟩, H9.out.1⟩
  · rw [decide_eq_false h10] at HHS
    have HR := Lib.hid (par_err3 h10)
    clear hS hn hwa hcap h10
    go_enter Tryz.func9, Tryz.ntmps9
    go_wp2_with fail
    rw [← HWA.out]
    clear HWA
    refine (HHS.out).mono ?_
    rintro e w1 ⟨rfl, rfl⟩
    go_wp2_with fail
    go_returns
    rw [HR.out]
    exact ⟨rfl, HPA.out⟩
end Go.Proofs.YtnnonidiogoffaaGreatDoor
