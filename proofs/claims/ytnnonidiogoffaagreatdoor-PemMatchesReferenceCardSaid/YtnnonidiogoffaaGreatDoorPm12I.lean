/- The program's frame: the label between the first and the last line. -/
import Derived.Test.YtnnonidiogoffaaGreatDoorPm12H
import Derived.Test.YtnnonidiogoffaaGreatDoorSkip10
import Derived.Deep.Cut
namespace Go.Proofs.YtnnonidiogoffaaGreatDoor
open Go.RowKit Go.Shelf
set_option linter.unusedVariables false

theorem bytesIn_of {w : World} {A : Option Addr} {n : Nat} {xs : List Int} (h : BIn w A n xs) : Lib.BytesIn w A n xs := fun hn => by
  obtain ⟨b, o, e, hc⟩ := h hn
  exact ⟨b, o, e, hc⟩
/-- What is left of bytes without a last hyL. -/
theorem trim_any (A : Option Addr) (n c : Nat) (xs : List Int) (b2 : Nat) (w : World) (hS : Sl w A n c xs) (hc2 : ∀ i, i < 5 → w.cell? ⟨b2, i, none⟩ = some (.int .u8 45)) :
    Calls Tryz.prog 39 #[.slice A n c, .slice (some ⟨b2, 0, none⟩) 5 5] w fun e w' => (∃ ys m, e = .returned (.slice A m c) ∧ Sl w A m c ys ∧ (∀ lab, xs = lab ++ hyL → ys = lab) ∧ m ≤ n) ∧ w' = w := by
  have hbig := hS.big
  have hcap := hS.cap
  unfold maxLen at hbig
  have h2 : Lib.BytesIn w (some ⟨b2, 0, none⟩) 5 hyL := fun _ => ⟨b2, 0, rfl, fun i hi => by
    rw [Nat.zero_add, hc2 i hi]
    have : i = 0 ∨ i = 1 ∨ i = 2 ∨ i = 3 ∨ i = 4 := by omega
    rcases this with rfl | rfl | rfl | rfl | rfl <;> rfl⟩
  refine (Tryz.bytes_TrimSuffix_all A (some ⟨b2, 0, none⟩) n c 5 5 xs hyL w hS.len rfl hcap (by omega) (bytesIn_of hS.bytes) h2).mono fun e w' h => ⟨?_, h.2⟩
  rw [h.1]
  have hsame : ∃ ys m, Ending.returned (Value.slice A n c) = .returned (.slice A m c) ∧ Sl w A m c ys ∧ ys = xs ∧ m = n := ⟨xs, n, rfl, hS, rfl, rfl⟩
  have hsuf : ∀ lab, xs = lab ++ hyL → Lib.hasSuffix (Lib.bytesOf xs) (Lib.bytesOf hyL) = true ∧ 5 ≤ n ∧ xs.take (n - 5) = lab := fun lab e => by
    have hl := hS.len
    have hl2 : lab.length + 5 = n := by rw [← hl, e, List.length_append]; rfl
    refine ⟨?_, by omega, ?_⟩
    · unfold Lib.hasSuffix
      rw [List.isSuffixOf_iff_suffix, e]
      exact ⟨Lib.bytesOf lab, by simp [Lib.bytesOf]⟩
    · rw [e, show n - 5 = lab.length by omega, List.take_left]
  cases A with
  | none =>
    have h0 := hS.nil0 rfl
    refine ⟨xs, n, rfl, hS, fun lab e => ?_, Nat.le_refl _⟩
    have := (hsuf lab e).2.1
    omega
  | some a =>
    obtain ⟨b, o, sp⟩ := a
    by_cases hn0 : n = 0
    · refine ⟨xs, n, ?_, hS, fun lab e => by have := (hsuf lab e).2.1; omega, Nat.le_refl _⟩
      have hx : xs = [] := List.length_eq_zero_iff.1 (by rw [hS.len]; exact hn0)
      subst hx
      cases sp with
      | none =>
        show Ending.returned (Lib.bytesTrimSuffix b o n c [] hyL) = _
        unfold Lib.bytesTrimSuffix
        rw [if_neg (by decide)]
      | some _ => rfl
    · obtain ⟨b', o', e1, hc⟩ := hS.bytes (by omega)
      injection e1 with e1
      injection e1 with e1 e2 e3
      subst e1 e2 e3
      show ∃ ys m, Ending.returned (Lib.bytesTrimSuffix b o n c xs hyL) = _ ∧ _
      unfold Lib.bytesTrimSuffix
      cases hs : Lib.hasSuffix (Lib.bytesOf xs) (Lib.bytesOf hyL) with
      | true =>
        have h5 : 5 ≤ n := by
          unfold Lib.hasSuffix at hs
          rw [List.isSuffixOf_iff_suffix] at hs
          have := hs.length_le
          have hl := hS.len
          simp [Lib.bytesOf, hyL] at this
          omega
        refine ⟨xs.take (n - 5), n - 5, rfl, ?_, fun lab e => (hsuf lab e).2.2, by omega⟩
        refine ⟨by rw [List.length_take, hS.len]; omega, by omega, hS.big, fun hn => ⟨b, o, rfl, fun i hi => ?_⟩, fun x hx => hS.rng x (List.mem_of_mem_take hx), hS.nil0⟩
        rw [hc i (by omega)]
        congr 2
        simp [List.getD, hi]
      | false =>
        refine ⟨xs, n, rfl, hS, fun lab e => ?_, Nat.le_refl _⟩
        have := (hsuf lab e).1
        rw [hs] at this
        cases this
/-- What stands behind the first space. -/
theorem aft_beg {lab : List Int} : ix 32 (begL lab) = 10 ∧ (begL lab).drop 11 = lab ++ hyL := by
  constructor
  · exact ix_app (a := [45, 45, 45, 45, 45, 66, 69, 71, 73, 78]) (b := lab ++ hyL) (by decide)
  · rfl
/-- The slice behind the first space. -/
theorem cut_aft {w : World} {A : Option Addr} {n c : Nat} {f : List Int} (h : Sl w A n c f) : ∃ v1 A' m d b zs, cutL A n c (ix 32 f) = .tuple #[v1, .slice A' m d, .bool b] ∧ Sl w A' m d zs ∧ (∀ lab, f = begL lab → zs = lab ++ hyL) ∧ m ≤ n := by
  unfold cutL
  by_cases hi : ix 32 f < n
  · rw [if_pos hi]
    have h3 := h.cut2 (i := ix 32 f + 1) (m := n - (ix 32 f + 1)) (by omega)
    have hl := h.len
    rw [List.take_of_length_le (by rw [List.length_drop]; omega)] at h3
    refine ⟨_, _, _, _, _, _, rfl, h3, fun lab e => ?_, by omega⟩
    subst e
    rw [aft_beg.1]
    exact aft_beg.2
  · rw [if_neg hi]
    refine ⟨_, _, _, _, _, [], rfl, Sl.nil w, fun lab e => ?_, by omega⟩
    exfalso
    have hl := h.len
    rw [e, aft_beg.1, ← hl, e, beg_len] at hi
    omega

def frmV (f l : List Int) : Value := if frmB f l = true then .tuple #[.string (txt (labOf f)), .bool true] else .tuple #[.string ⟨#[]⟩, .bool false]
theorem toL_ne {a b : List Int} (ha : ∀ x ∈ a, 0 ≤ x ∧ x < 256) (hb : ∀ x ∈ b, 0 ≤ x ∧ x < 256) (h : a ≠ b) : ((txt a).toList == (txt b).toList) = false := by
  cases he : ((txt a).toList == (txt b).toList) with
  | false => rfl
  | true =>
    exfalso
    have e1 : (txt a).toList = (txt b).toList := eq_of_beq he
    have e2 := toList_inj e1
    exact h (by rw [← ints_txt ha, ← ints_txt hb, e2])

set_option maxHeartbeats 8000000 in
set_option maxRecDepth 100000 in
theorem frame_any (A1 : Option Addr) (n1 c1 : Nat) (f : List Int) (A2 : Option Addr) (n2 c2 : Nat) (l : List Int) (w0 : World) (hS1 : Sl w0 A1 n1 c1 f) (hS2 : Sl w0 A2 n2 c2 l) (hn1 : n1 ≤ 900000) (hn2 : n2 ≤ 900000) :
    Calls Tryz.prog 23 #[.slice A1 n1 c1, .slice A2 n2 c2] w0 fun e w' => e = .returned (frmV f l) ∧ Past w0 w' := by
  have hcv1 : (convert 22 22 (.slice (some ⟨w0.heap.size, 0, none⟩) 1 1)).run Tryz.prog (w0.alloc (.cells #[.int .u8 32] 5)) = .ok (.slice (some ⟨w0.heap.size, 0, none⟩) 1 1) (w0.alloc (.cells #[.int .u8 32] 5 (1, 2))) :=
    Lib.run_convert_bytes_const w0 22 5 #[.int .u8 32] 1 1 Tryz.underlying22 Tryz.underlying5
  have HCU := Lib.hid (cut_any A1 n1 c1 f w0.heap.size 32 (w0.alloc (.cells #[.int .u8 32] 5 (1, 2))) (hS1.past (past_alloc8 _ _)) (by omega) (by omega) (cell_mk w0 _ _ _ 0))
  have HS1 := Lib.hid hS1
  have HS2 := Lib.hid hS2
  have HN := Lib.hid (And.intro hn1 hn2)
  obtain ⟨v1, A3, m3, c3, b3, zs, hcut, hz1, hz2, hz3⟩ := cut_aft hS1
  rw [show ((32 : Nat) : Int) = 32 from rfl, hcut] at HCU
  have HZS := Lib.hid (And.intro hz1 (And.intro hz2 hz3))
  clear hS1 hS2 hn1 hn2 hcut hz1 hz2 hz3
  go_enter Tryz.func23, Tryz.ntmps23
  go_wp2_with fail
  refine (HCU.out).mono ?_
  rintro e w1 ⟨rfl, j, hw1⟩
  have HP1 : Hid (Past w0 w1) := Lib.hid (by rw [hw1]; exact (past_alloc8 _ _).drewN j)
  clear hw1 hcv1
  have hcv2 : (convert 22 22 (.slice (some ⟨w1.heap.size, 0, none⟩) 5 5)).run Tryz.prog (w1.alloc (.cells #[.int .u8 45, .int .u8 45, .int .u8 45, .int .u8 45, .int .u8 45] 5)) = .ok (.slice (some ⟨w1.heap.size, 0, none⟩) 5 5) (w1.alloc (.cells #[.int .u8 45, .int .u8 45, .int .u8 45, .int .u8 45, .int .u8 45] 5 (5, 6))) :=
    Lib.run_convert_bytes_const w1 22 5 #[.int .u8 45, .int .u8 45, .int .u8 45, .int .u8 45, .int .u8 45] 5 5 Tryz.underlying22 Tryz.underlying5
  obtain ⟨w2, hw2⟩ : ∃ w2, w2 = w1.alloc (.cells #[.int .u8 45, .int .u8 45, .int .u8 45, .int .u8 45, .int .u8 45] 5 (5, 6)) := ⟨_, rfl⟩
  have HP2 : Hid (Past w0 w2) := Lib.hid (by rw [hw2]; exact HP1.out.trans' (past_alloc8 _ _))
  have HTR := Lib.hid (trim_any A3 m3 c3 zs w1.heap.size w2 (HZS.out.1.past HP2.out) (fun i hi => by
    rw [hw2, cell_mk]
    have : i = 0 ∨ i = 1 ∨ i = 2 ∨ i = 3 ∨ i = 4 := by omega
    rcases this with rfl | rfl | rfl | rfl | rfl <;> rfl))
  go_wp2_with fail
  rw [← hw2]
  refine (HTR.out).mono ?_
  rintro e w3 ⟨⟨ys, m4, rfl, hy1, hy2, hy3⟩, rfl⟩
  have hco := conv_sl (P := Tryz.prog) (src := 22) (dst := 9) (e := 5) Tryz.underlying22 Tryz.underlying5 Tryz.underlying9 hy1
  have hyl : ys.length ≤ 900000 := by have := hy1.len; have := HZS.out.2.2; have := HN.out.1; omega
  have HYR := Lib.hid hy1.rng
  have hyf : ∀ lab, f = begL lab → ys = lab := fun lab e => hy2 lab (HZS.out.2.1 lab e)
  obtain ⟨LB, hLB⟩ : ∃ LB, txt ys = LB := ⟨_, rfl⟩
  have hLI : ints LB = ys := by rw [← hLB, ints_txt hy1.rng]
  have hLZ : LB.size ≤ 1000000 := by rw [← ints_len, hLI]; omega
  have HLB := Lib.hid (fun w => label_any LB w hLZ)
  have HFI := Lib.hid (fun w => first_any LB w hLZ)
  have HLA := Lib.hid (fun w => last_any LB w hLZ)
  rw [hLI] at HLB HFI HLA
  have HYF := Lib.hid hyf
  have HLBT := Lib.hid hLB
  rw [hLB] at hco
  clear HTR HCU hcv2 hw2 hy1 hy2 hy3 hyf hyl hLI hLZ hLB
  obtain ⟨wd, hwd⟩ : ∃ wd, wd = w3.drew := ⟨_, rfl⟩
  have HD : Hid (Past w0 wd) := Lib.hid (by rw [hwd]; exact HP2.out.drewN 1)
  have HWD := Lib.hid hwd
  clear hwd
  -- the two lines as strings, with a line feed
  have hf1 := HS1.out.len
  have hl1 := HS2.out.len
  have hfr := HS1.out.rng
  have hlr := HS2.out.rng
  have HCF := Lib.hid (fun w (h : Sl w A1 n1 c1 f) => conv_sl (P := Tryz.prog) (src := 22) (dst := 9) (e := 5) Tryz.underlying22 Tryz.underlying5 Tryz.underlying9 h)
  have HCL := Lib.hid (fun w (h : Sl w A2 n2 c2 l) => conv_sl (P := Tryz.prog) (src := 22) (dst := 9) (e := 5) Tryz.underlying22 Tryz.underlying5 Tryz.underlying9 h)
  have hadf := fun w : World => str_cat (P := Tryz.prog) (txt f) ⟨#[10]⟩ (f ++ [10]) (by rw [ints_txt hfr]; rfl) (by rw [tsz]; show _ + 1 ≤ _; have := HN.out; omega) w
  have hadl := fun w : World => str_cat (P := Tryz.prog) (txt l) ⟨#[10]⟩ (l ++ [10]) (by rw [ints_txt hlr]; rfl) (by rw [tsz]; show _ + 1 ≤ _; have := HN.out; omega) w
  have hr10 : ∀ {xs : List Int}, (∀ x ∈ xs, 0 ≤ x ∧ x < 256) → ∀ x ∈ xs ++ [10], 0 ≤ x ∧ x < 256 := fun h x hx => by
    rcases List.mem_append.1 hx with hx | hx
    · exact h x hx
    · simp at hx; omega
  have hFB : f ≠ begL ys → ((txt (f ++ [10])).toList == (txt (begL ys ++ [10])).toList) = false := fun h => toL_ne (hr10 hfr) (rng_beg HYR.out).1 fun e => h (List.append_cancel_right e)
  have hLE : l ≠ endL ys → ((txt (l ++ [10])).toList == (txt (endL ys ++ [10])).toList) = false := fun h => toL_ne (hr10 hlr) (rng_beg HYR.out).2 fun e => h (List.append_cancel_right e)
  have hFBe : f = begL ys → ((txt (f ++ [10])).toList == (txt (begL ys ++ [10])).toList) = true := fun h => by rw [h]; simp
  have hLEe : l = endL ys → ((txt (l ++ [10])).toList == (txt (endL ys ++ [10])).toList) = true := fun h => by rw [h]; simp
  obtain ⟨FS, hFS⟩ : ∃ FS, txt f = FS := ⟨_, rfl⟩
  obtain ⟨LS, hLS⟩ : ∃ LS, txt l = LS := ⟨_, rfl⟩
  obtain ⟨F1, hF1⟩ : ∃ F1, txt (f ++ [10]) = F1 := ⟨_, rfl⟩
  obtain ⟨L1, hL1⟩ : ∃ L1, txt (l ++ [10]) = L1 := ⟨_, rfl⟩
  obtain ⟨G1, hG1⟩ : ∃ G1, txt (begL ys ++ [10]) = G1 := ⟨_, rfl⟩
  obtain ⟨H1, hH1⟩ : ∃ H1, txt (endL ys ++ [10]) = H1 := ⟨_, rfl⟩
  rw [hFS] at HCF hadf
  rw [hLS] at HCL hadl
  rw [hF1] at hadf hFB hFBe
  rw [hL1] at hadl hLE hLEe
  rw [hG1] at HFI hFB hFBe
  rw [hH1] at HLA hLE hLEe
  have HFB := Lib.hid (And.intro hFB hFBe)
  have HLE := Lib.hid (And.intro hLE hLEe)
  clear hf1 hl1 hfr hlr hFS hLS hF1 hL1 hG1 hH1 hFB hLE hFBe hLEe hr10
  clear HP1 HP2 HZS
  have hfin : ∀ {b : Bool}, frmB f l = b → frmV f l = if b = true then .tuple #[.string (txt (labOf f)), .bool true] else .tuple #[.string ⟨#[]⟩, .bool false] := fun h => by unfold frmV; rw [h]
  cases hb : labB ys with
  | false =>
    rw [hb] at HLB
    have hno : frmB f l = false := by
      cases hq : frmB f l with
      | false => rfl
      | true =>
        obtain ⟨q1, q2, q3⟩ := frm_yes hq
        have := HYF.out _ q2
        rw [← this] at q1
        rw [hb] at q1
        cases q1
    have HV := Lib.hid ((hfin hno).trans (if_neg (by decide)))
    clear hfin hno hb
    go_upto_region 3 with (fail)
    refine wp_region_any (by kernel_rfl) ?_
    change wpAny _ _ _ _ _ _ _ (World.drew _)
    rw [← HWD.out]
    clear HWD
    refine wpAny_take (i := 0) (v := .string LB) rfl (by kernel_rfl) (by kernel_rfl) (by kernel_rfl) (fun _ _ _ h => h) (Or.inl ⟨by kernel_rfl, fun w => by kernel_rfl⟩) ?_; (try dsimp only [Act.put])
    refine wpAny_ready (rs := [1]) (by kernel_rfl) (by simp) ?_
    refine AllReady.cons rfl (fun K hK => ?_) AllReady.nil
    go_simp
    refine (HLB.out _).mono ?_
    rintro e wl ⟨rfl, hpl⟩
    have HPL : Hid (Past w0 wl) := Lib.hid (HD.out.trans' hpl)
    have hcf := HCF.out wl (HS1.out.past HPL.out)
    have hcl := HCL.out wl (HS2.out.past HPL.out)
    clear hpl
    refine hK _ _ ?_
    clear hK K
    (try dsimp only [Act.put])
    refine wpAny_take (i := 2) (v := .bool false) rfl (by kernel_rfl) (by kernel_rfl) (by kernel_rfl) (fun _ _ _ h => h) (Or.inl ⟨by kernel_rfl, fun w => by kernel_rfl⟩) ?_; (try dsimp only [Act.put])
    refine wpAny_skips (fuel := 10) (by kernel_rfl) [3, 4, 5, 6, 7, 8] _ _ (by repeat (first | exact trivial | refine ⟨fun _ _ _ h => h, ?_⟩)) (by kernel_rfl) ?_; dsimp only [skipL, skipA]; (try dsimp only [Act.put])
    refine wpAny_take (i := 9) (v := .bool false) rfl (by kernel_rfl) (by kernel_rfl) (by kernel_rfl) (fun _ _ _ h => h) (Or.inl ⟨by kernel_rfl, fun w => by kernel_rfl⟩) ?_; (try dsimp only [Act.put])
    refine wpAny_take (i := 10) (v := .bool false) rfl (by kernel_rfl) (by kernel_rfl) (by kernel_rfl) (fun _ _ _ h => h) (Or.inl ⟨by kernel_rfl, fun w => by kernel_rfl⟩) ?_; (try dsimp only [Act.put])
    refine wpAny_skips (fuel := 2) (by kernel_rfl) [11, 12, 13, 14, 15, 16] _ _ (by repeat (first | exact trivial | refine ⟨fun _ _ _ h => h, ?_⟩)) (by kernel_rfl) ?_; dsimp only [skipL, skipA]; (try dsimp only [Act.put])
    refine wpAny_take (i := 17) (v := .bool false) rfl (by kernel_rfl) (by kernel_rfl) (by kernel_rfl) (fun _ _ _ h => h) (Or.inl ⟨by kernel_rfl, fun w => by kernel_rfl⟩) ?_; (try dsimp only [Act.put])
    refine wpAny_take (i := 18) (v := .bool false) rfl (by kernel_rfl) (by kernel_rfl) (by kernel_rfl) (fun _ _ _ h => h) (Or.inl ⟨by kernel_rfl, fun w => by kernel_rfl⟩) ?_; (try dsimp only [Act.put])
    refine wpAny_done (by kernel_rfl) ?_ _
    go_simp
    go_wp2_with fail
    go_ret2
    exact ⟨(congrArg Ending.returned HV.out).symm, HPL.out⟩
  | true =>
    rw [hb] at HLB
    by_cases hf : f = begL ys
    · have e1 := HFB.out.2 hf
      by_cases hl : l = endL ys
      · have e2 := HLE.out.2 hl
        have hyes : frmB f l = true := by rw [hf, hl]; exact frm_of hb
        have HV : Hid (frmV f l = .tuple #[.string LB, .bool true]) := Lib.hid (by rw [hfin hyes, if_pos rfl, hf, labOf_beg, HLBT.out])
        clear hfin hyes hb hf hl HLBT HYF HYR HFB HLE
        go_upto_region 3 with (fail)
        refine wp_region_any (by kernel_rfl) ?_
        change wpAny _ _ _ _ _ _ _ (World.drew _)
        rw [← HWD.out]
        clear HWD
        refine wpAny_take (i := 0) (v := .string LB) rfl (by kernel_rfl) (by kernel_rfl) (by kernel_rfl) (fun _ _ _ h => h) (Or.inl ⟨by kernel_rfl, fun w => by kernel_rfl⟩) ?_; (try dsimp only [Act.put])
        refine wpAny_ready (rs := [1]) (by kernel_rfl) (by simp) ?_
        refine AllReady.cons rfl (fun K hK => ?_) AllReady.nil
        go_simp
        refine (HLB.out _).mono ?_
        rintro e wl ⟨rfl, hpl⟩
        have HPL : Hid (Past w0 wl) := Lib.hid (HD.out.trans' hpl)
        have hcf := HCF.out wl (HS1.out.past HPL.out)
        have hcl := HCL.out wl (HS2.out.past HPL.out)
        clear hpl
        refine hK _ _ ?_
        clear hK K
        (try dsimp only [Act.put])
        refine wpAny_take (i := 2) (v := .bool true) rfl (by kernel_rfl) (by kernel_rfl) (by kernel_rfl) (fun _ _ _ h => h) (Or.inl ⟨by kernel_rfl, fun w => by kernel_rfl⟩) ?_; (try dsimp only [Act.put])
        refine wpAny_take (i := 3) (v := .slice A1 n1 c1) rfl (by kernel_rfl) (by kernel_rfl) (by kernel_rfl) (fun _ _ _ h => h) (Or.inl ⟨by kernel_rfl, fun w => by kernel_rfl⟩) ?_; (try dsimp only [Act.put])
        refine wpAny_take (i := 6) (v := .string LB) rfl (by kernel_rfl) (by kernel_rfl) (by kernel_rfl) (fun _ _ _ h => h) (Or.inl ⟨by kernel_rfl, fun w => by kernel_rfl⟩) ?_; (try dsimp only [Act.put])
        refine wpAny_ready (rs := [4, 7]) (by kernel_rfl) (by simp) ?_
        refine AllReady.cons rfl (fun K hK => ?_) (AllReady.cons rfl (fun K hK => ?_) AllReady.nil)
        · go_simp
          refine hK _ _ ?_
          clear hK K
          (try dsimp only [Act.put])
          refine wpAny_take (i := 5) (v := .string F1) rfl (by kernel_rfl) (by kernel_rfl) (by kernel_rfl) (fun _ _ _ h => h) (Or.inl ⟨by kernel_rfl, fun w => by go_simp⟩) ?_; (try dsimp only [Act.put])
          refine wpAny_ready (rs := [7]) (by kernel_rfl) (by simp) ?_
          refine AllReady.cons rfl (fun K hK => ?_) AllReady.nil
          go_simp
          refine (HFI.out _).mono ?_
          rintro e wf ⟨rfl, rfl⟩
          refine hK _ _ ?_
          clear hK K
          (try dsimp only [Act.put])
          refine wpAny_take (i := 8) (v := .bool true) rfl (by kernel_rfl) (by kernel_rfl) (by kernel_rfl) (fun _ _ _ h => h) (Or.inl ⟨by kernel_rfl, fun w => by go_simp⟩) ?_; (try dsimp only [Act.put])
          refine wpAny_take (i := 9) (v := .bool true) rfl (by kernel_rfl) (by kernel_rfl) (by kernel_rfl) (fun _ _ _ h => h) (Or.inl ⟨by kernel_rfl, fun w => by kernel_rfl⟩) ?_; (try dsimp only [Act.put])
          refine wpAny_take (i := 10) (v := .bool true) rfl (by kernel_rfl) (by kernel_rfl) (by kernel_rfl) (fun _ _ _ h => h) (Or.inl ⟨by kernel_rfl, fun w => by kernel_rfl⟩) ?_; (try dsimp only [Act.put])
          refine wpAny_take (i := 11) (v := .slice A2 n2 c2) rfl (by kernel_rfl) (by kernel_rfl) (by kernel_rfl) (fun _ _ _ h => h) (Or.inl ⟨by kernel_rfl, fun w => by kernel_rfl⟩) ?_; (try dsimp only [Act.put])
          refine wpAny_take (i := 14) (v := .string LB) rfl (by kernel_rfl) (by kernel_rfl) (by kernel_rfl) (fun _ _ _ h => h) (Or.inl ⟨by kernel_rfl, fun w => by kernel_rfl⟩) ?_; (try dsimp only [Act.put])
          refine wpAny_ready (rs := [12, 15]) (by kernel_rfl) (by simp) ?_
          refine AllReady.cons rfl (fun K hK => ?_) (AllReady.cons rfl (fun K hK => ?_) AllReady.nil)
          · go_simp
            refine hK _ _ ?_
            clear hK K
            (try dsimp only [Act.put])
            refine wpAny_take (i := 13) (v := .string L1) rfl (by kernel_rfl) (by kernel_rfl) (by kernel_rfl) (fun _ _ _ h => h) (Or.inl ⟨by kernel_rfl, fun w => by go_simp⟩) ?_; (try dsimp only [Act.put])
            refine wpAny_ready (rs := [15]) (by kernel_rfl) (by simp) ?_
            refine AllReady.cons rfl (fun K hK => ?_) AllReady.nil
            go_simp
            refine (HLA.out _).mono ?_
            rintro e wg ⟨rfl, rfl⟩
            refine hK _ _ ?_
            clear hK K
            (try dsimp only [Act.put])
            refine wpAny_take (i := 16) (v := .bool true) rfl (by kernel_rfl) (by kernel_rfl) (by kernel_rfl) (fun _ _ _ h => h) (Or.inl ⟨by kernel_rfl, fun w => by go_simp⟩) ?_; (try dsimp only [Act.put])
            refine wpAny_take (i := 17) (v := .bool true) rfl (by kernel_rfl) (by kernel_rfl) (by kernel_rfl) (fun _ _ _ h => h) (Or.inl ⟨by kernel_rfl, fun w => by kernel_rfl⟩) ?_; (try dsimp only [Act.put])
            refine wpAny_take (i := 18) (v := .bool true) rfl (by kernel_rfl) (by kernel_rfl) (by kernel_rfl) (fun _ _ _ h => h) (Or.inl ⟨by kernel_rfl, fun w => by kernel_rfl⟩) ?_; (try dsimp only [Act.put])
            refine wpAny_done (by kernel_rfl) ?_ _
            go_simp
            go_wp2_with fail
            go_ret2
            exact ⟨(congrArg Ending.returned HV.out).symm, HPL.out⟩
          · go_simp
            refine (HLA.out _).mono ?_
            rintro e wg ⟨rfl, rfl⟩
            refine hK _ _ ?_
            clear hK K
            (try dsimp only [Act.put])
            refine wpAny_ready (rs := [12]) (by kernel_rfl) (by simp) ?_
            refine AllReady.cons rfl (fun K hK => ?_) AllReady.nil
            go_simp
            refine hK _ _ ?_
            clear hK K
            (try dsimp only [Act.put])
            refine wpAny_take (i := 13) (v := .string L1) rfl (by kernel_rfl) (by kernel_rfl) (by kernel_rfl) (fun _ _ _ h => h) (Or.inl ⟨by kernel_rfl, fun w => by go_simp⟩) ?_; (try dsimp only [Act.put])
            refine wpAny_take (i := 16) (v := .bool true) rfl (by kernel_rfl) (by kernel_rfl) (by kernel_rfl) (fun _ _ _ h => h) (Or.inl ⟨by kernel_rfl, fun w => by go_simp⟩) ?_; (try dsimp only [Act.put])
            refine wpAny_take (i := 17) (v := .bool true) rfl (by kernel_rfl) (by kernel_rfl) (by kernel_rfl) (fun _ _ _ h => h) (Or.inl ⟨by kernel_rfl, fun w => by kernel_rfl⟩) ?_; (try dsimp only [Act.put])
            refine wpAny_take (i := 18) (v := .bool true) rfl (by kernel_rfl) (by kernel_rfl) (by kernel_rfl) (fun _ _ _ h => h) (Or.inl ⟨by kernel_rfl, fun w => by kernel_rfl⟩) ?_; (try dsimp only [Act.put])
            refine wpAny_done (by kernel_rfl) ?_ _
            go_simp
            go_wp2_with fail
            go_ret2
            exact ⟨(congrArg Ending.returned HV.out).symm, HPL.out⟩
        · go_simp
          refine (HFI.out _).mono ?_
          rintro e wf ⟨rfl, rfl⟩
          refine hK _ _ ?_
          clear hK K
          (try dsimp only [Act.put])
          refine wpAny_ready (rs := [4]) (by kernel_rfl) (by simp) ?_
          refine AllReady.cons rfl (fun K hK => ?_) AllReady.nil
          go_simp
          refine hK _ _ ?_
          clear hK K
          (try dsimp only [Act.put])
          refine wpAny_take (i := 5) (v := .string F1) rfl (by kernel_rfl) (by kernel_rfl) (by kernel_rfl) (fun _ _ _ h => h) (Or.inl ⟨by kernel_rfl, fun w => by go_simp⟩) ?_; (try dsimp only [Act.put])
          refine wpAny_take (i := 8) (v := .bool true) rfl (by kernel_rfl) (by kernel_rfl) (by kernel_rfl) (fun _ _ _ h => h) (Or.inl ⟨by kernel_rfl, fun w => by go_simp⟩) ?_; (try dsimp only [Act.put])
          refine wpAny_take (i := 9) (v := .bool true) rfl (by kernel_rfl) (by kernel_rfl) (by kernel_rfl) (fun _ _ _ h => h) (Or.inl ⟨by kernel_rfl, fun w => by kernel_rfl⟩) ?_; (try dsimp only [Act.put])
          refine wpAny_take (i := 10) (v := .bool true) rfl (by kernel_rfl) (by kernel_rfl) (by kernel_rfl) (fun _ _ _ h => h) (Or.inl ⟨by kernel_rfl, fun w => by kernel_rfl⟩) ?_; (try dsimp only [Act.put])
          refine wpAny_take (i := 11) (v := .slice A2 n2 c2) rfl (by kernel_rfl) (by kernel_rfl) (by kernel_rfl) (fun _ _ _ h => h) (Or.inl ⟨by kernel_rfl, fun w => by kernel_rfl⟩) ?_; (try dsimp only [Act.put])
          refine wpAny_take (i := 14) (v := .string LB) rfl (by kernel_rfl) (by kernel_rfl) (by kernel_rfl) (fun _ _ _ h => h) (Or.inl ⟨by kernel_rfl, fun w => by kernel_rfl⟩) ?_; (try dsimp only [Act.put])
          refine wpAny_ready (rs := [12, 15]) (by kernel_rfl) (by simp) ?_
          refine AllReady.cons rfl (fun K hK => ?_) (AllReady.cons rfl (fun K hK => ?_) AllReady.nil)
          · go_simp
            refine hK _ _ ?_
            clear hK K
            (try dsimp only [Act.put])
            refine wpAny_take (i := 13) (v := .string L1) rfl (by kernel_rfl) (by kernel_rfl) (by kernel_rfl) (fun _ _ _ h => h) (Or.inl ⟨by kernel_rfl, fun w => by go_simp⟩) ?_; (try dsimp only [Act.put])
            refine wpAny_ready (rs := [15]) (by kernel_rfl) (by simp) ?_
            refine AllReady.cons rfl (fun K hK => ?_) AllReady.nil
            go_simp
            refine (HLA.out _).mono ?_
            rintro e wg ⟨rfl, rfl⟩
            refine hK _ _ ?_
            clear hK K
            (try dsimp only [Act.put])
            refine wpAny_take (i := 16) (v := .bool true) rfl (by kernel_rfl) (by kernel_rfl) (by kernel_rfl) (fun _ _ _ h => h) (Or.inl ⟨by kernel_rfl, fun w => by go_simp⟩) ?_; (try dsimp only [Act.put])
            refine wpAny_take (i := 17) (v := .bool true) rfl (by kernel_rfl) (by kernel_rfl) (by kernel_rfl) (fun _ _ _ h => h) (Or.inl ⟨by kernel_rfl, fun w => by kernel_rfl⟩) ?_; (try dsimp only [Act.put])
            refine wpAny_take (i := 18) (v := .bool true) rfl (by kernel_rfl) (by kernel_rfl) (by kernel_rfl) (fun _ _ _ h => h) (Or.inl ⟨by kernel_rfl, fun w => by kernel_rfl⟩) ?_; (try dsimp only [Act.put])
            refine wpAny_done (by kernel_rfl) ?_ _
            go_simp
            go_wp2_with fail
            go_ret2
            exact ⟨(congrArg Ending.returned HV.out).symm, HPL.out⟩
          · go_simp
            refine (HLA.out _).mono ?_
            rintro e wg ⟨rfl, rfl⟩
            refine hK _ _ ?_
            clear hK K
            (try dsimp only [Act.put])
            refine wpAny_ready (rs := [12]) (by kernel_rfl) (by simp) ?_
            refine AllReady.cons rfl (fun K hK => ?_) AllReady.nil
            go_simp
            refine hK _ _ ?_
            clear hK K
            (try dsimp only [Act.put])
            refine wpAny_take (i := 13) (v := .string L1) rfl (by kernel_rfl) (by kernel_rfl) (by kernel_rfl) (fun _ _ _ h => h) (Or.inl ⟨by kernel_rfl, fun w => by go_simp⟩) ?_; (try dsimp only [Act.put])
            refine wpAny_take (i := 16) (v := .bool true) rfl (by kernel_rfl) (by kernel_rfl) (by kernel_rfl) (fun _ _ _ h => h) (Or.inl ⟨by kernel_rfl, fun w => by go_simp⟩) ?_; (try dsimp only [Act.put])
            refine wpAny_take (i := 17) (v := .bool true) rfl (by kernel_rfl) (by kernel_rfl) (by kernel_rfl) (fun _ _ _ h => h) (Or.inl ⟨by kernel_rfl, fun w => by kernel_rfl⟩) ?_; (try dsimp only [Act.put])
            refine wpAny_take (i := 18) (v := .bool true) rfl (by kernel_rfl) (by kernel_rfl) (by kernel_rfl) (fun _ _ _ h => h) (Or.inl ⟨by kernel_rfl, fun w => by kernel_rfl⟩) ?_; (try dsimp only [Act.put])
            refine wpAny_done (by kernel_rfl) ?_ _
            go_simp
            go_wp2_with fail
            go_ret2
            exact ⟨(congrArg Ending.returned HV.out).symm, HPL.out⟩
      · have e2 := HLE.out.1 hl
        have hno : frmB f l = false := by
          cases hq : frmB f l with
          | false => rfl
          | true =>
            obtain ⟨q1, q2, q3⟩ := frm_yes hq
            have := HYF.out _ q2
            rw [← this] at q3
            exact absurd q3 hl
        have HV := Lib.hid ((hfin hno).trans (if_neg (by decide)))
        clear hfin hno hb hf hl
        go_upto_region 3 with (fail)
        refine wp_region_any (by kernel_rfl) ?_
        change wpAny _ _ _ _ _ _ _ (World.drew _)
        rw [← HWD.out]
        clear HWD
        refine wpAny_take (i := 0) (v := .string LB) rfl (by kernel_rfl) (by kernel_rfl) (by kernel_rfl) (fun _ _ _ h => h) (Or.inl ⟨by kernel_rfl, fun w => by kernel_rfl⟩) ?_; (try dsimp only [Act.put])
        refine wpAny_ready (rs := [1]) (by kernel_rfl) (by simp) ?_
        refine AllReady.cons rfl (fun K hK => ?_) AllReady.nil
        go_simp
        refine (HLB.out _).mono ?_
        rintro e wl ⟨rfl, hpl⟩
        have HPL : Hid (Past w0 wl) := Lib.hid (HD.out.trans' hpl)
        have hcf := HCF.out wl (HS1.out.past HPL.out)
        have hcl := HCL.out wl (HS2.out.past HPL.out)
        clear hpl
        refine hK _ _ ?_
        clear hK K
        (try dsimp only [Act.put])
        refine wpAny_take (i := 2) (v := .bool true) rfl (by kernel_rfl) (by kernel_rfl) (by kernel_rfl) (fun _ _ _ h => h) (Or.inl ⟨by kernel_rfl, fun w => by kernel_rfl⟩) ?_; (try dsimp only [Act.put])
        refine wpAny_take (i := 3) (v := .slice A1 n1 c1) rfl (by kernel_rfl) (by kernel_rfl) (by kernel_rfl) (fun _ _ _ h => h) (Or.inl ⟨by kernel_rfl, fun w => by kernel_rfl⟩) ?_; (try dsimp only [Act.put])
        refine wpAny_take (i := 6) (v := .string LB) rfl (by kernel_rfl) (by kernel_rfl) (by kernel_rfl) (fun _ _ _ h => h) (Or.inl ⟨by kernel_rfl, fun w => by kernel_rfl⟩) ?_; (try dsimp only [Act.put])
        refine wpAny_ready (rs := [4, 7]) (by kernel_rfl) (by simp) ?_
        refine AllReady.cons rfl (fun K hK => ?_) (AllReady.cons rfl (fun K hK => ?_) AllReady.nil)
        · go_simp
          refine hK _ _ ?_
          clear hK K
          (try dsimp only [Act.put])
          refine wpAny_take (i := 5) (v := .string F1) rfl (by kernel_rfl) (by kernel_rfl) (by kernel_rfl) (fun _ _ _ h => h) (Or.inl ⟨by kernel_rfl, fun w => by go_simp⟩) ?_; (try dsimp only [Act.put])
          refine wpAny_ready (rs := [7]) (by kernel_rfl) (by simp) ?_
          refine AllReady.cons rfl (fun K hK => ?_) AllReady.nil
          go_simp
          refine (HFI.out _).mono ?_
          rintro e wf ⟨rfl, rfl⟩
          refine hK _ _ ?_
          clear hK K
          (try dsimp only [Act.put])
          refine wpAny_take (i := 8) (v := .bool true) rfl (by kernel_rfl) (by kernel_rfl) (by kernel_rfl) (fun _ _ _ h => h) (Or.inl ⟨by kernel_rfl, fun w => by go_simp⟩) ?_; (try dsimp only [Act.put])
          refine wpAny_take (i := 9) (v := .bool true) rfl (by kernel_rfl) (by kernel_rfl) (by kernel_rfl) (fun _ _ _ h => h) (Or.inl ⟨by kernel_rfl, fun w => by kernel_rfl⟩) ?_; (try dsimp only [Act.put])
          refine wpAny_take (i := 10) (v := .bool true) rfl (by kernel_rfl) (by kernel_rfl) (by kernel_rfl) (fun _ _ _ h => h) (Or.inl ⟨by kernel_rfl, fun w => by kernel_rfl⟩) ?_; (try dsimp only [Act.put])
          refine wpAny_take (i := 11) (v := .slice A2 n2 c2) rfl (by kernel_rfl) (by kernel_rfl) (by kernel_rfl) (fun _ _ _ h => h) (Or.inl ⟨by kernel_rfl, fun w => by kernel_rfl⟩) ?_; (try dsimp only [Act.put])
          refine wpAny_take (i := 14) (v := .string LB) rfl (by kernel_rfl) (by kernel_rfl) (by kernel_rfl) (fun _ _ _ h => h) (Or.inl ⟨by kernel_rfl, fun w => by kernel_rfl⟩) ?_; (try dsimp only [Act.put])
          refine wpAny_ready (rs := [12, 15]) (by kernel_rfl) (by simp) ?_
          refine AllReady.cons rfl (fun K hK => ?_) (AllReady.cons rfl (fun K hK => ?_) AllReady.nil)
          · go_simp
            refine hK _ _ ?_
            clear hK K
            (try dsimp only [Act.put])
            refine wpAny_take (i := 13) (v := .string L1) rfl (by kernel_rfl) (by kernel_rfl) (by kernel_rfl) (fun _ _ _ h => h) (Or.inl ⟨by kernel_rfl, fun w => by go_simp⟩) ?_; (try dsimp only [Act.put])
            refine wpAny_ready (rs := [15]) (by kernel_rfl) (by simp) ?_
            refine AllReady.cons rfl (fun K hK => ?_) AllReady.nil
            go_simp
            refine (HLA.out _).mono ?_
            rintro e wg ⟨rfl, rfl⟩
            refine hK _ _ ?_
            clear hK K
            (try dsimp only [Act.put])
            refine wpAny_take (i := 16) (v := .bool false) rfl (by kernel_rfl) (by kernel_rfl) (by kernel_rfl) (fun _ _ _ h => h) (Or.inl ⟨by kernel_rfl, fun w => by go_simp⟩) ?_; (try dsimp only [Act.put])
            refine wpAny_take (i := 17) (v := .bool false) rfl (by kernel_rfl) (by kernel_rfl) (by kernel_rfl) (fun _ _ _ h => h) (Or.inl ⟨by kernel_rfl, fun w => by kernel_rfl⟩) ?_; (try dsimp only [Act.put])
            refine wpAny_take (i := 18) (v := .bool false) rfl (by kernel_rfl) (by kernel_rfl) (by kernel_rfl) (fun _ _ _ h => h) (Or.inl ⟨by kernel_rfl, fun w => by kernel_rfl⟩) ?_; (try dsimp only [Act.put])
            refine wpAny_done (by kernel_rfl) ?_ _
            go_simp
            go_wp2_with fail
            go_ret2
            exact ⟨(congrArg Ending.returned HV.out).symm, HPL.out⟩
          · go_simp
            refine (HLA.out _).mono ?_
            rintro e wg ⟨rfl, rfl⟩
            refine hK _ _ ?_
            clear hK K
            (try dsimp only [Act.put])
            refine wpAny_ready (rs := [12]) (by kernel_rfl) (by simp) ?_
            refine AllReady.cons rfl (fun K hK => ?_) AllReady.nil
            go_simp
            refine hK _ _ ?_
            clear hK K
            (try dsimp only [Act.put])
            refine wpAny_take (i := 13) (v := .string L1) rfl (by kernel_rfl) (by kernel_rfl) (by kernel_rfl) (fun _ _ _ h => h) (Or.inl ⟨by kernel_rfl, fun w => by go_simp⟩) ?_; (try dsimp only [Act.put])
            refine wpAny_take (i := 16) (v := .bool false) rfl (by kernel_rfl) (by kernel_rfl) (by kernel_rfl) (fun _ _ _ h => h) (Or.inl ⟨by kernel_rfl, fun w => by go_simp⟩) ?_; (try dsimp only [Act.put])
            refine wpAny_take (i := 17) (v := .bool false) rfl (by kernel_rfl) (by kernel_rfl) (by kernel_rfl) (fun _ _ _ h => h) (Or.inl ⟨by kernel_rfl, fun w => by kernel_rfl⟩) ?_; (try dsimp only [Act.put])
            refine wpAny_take (i := 18) (v := .bool false) rfl (by kernel_rfl) (by kernel_rfl) (by kernel_rfl) (fun _ _ _ h => h) (Or.inl ⟨by kernel_rfl, fun w => by kernel_rfl⟩) ?_; (try dsimp only [Act.put])
            refine wpAny_done (by kernel_rfl) ?_ _
            go_simp
            go_wp2_with fail
            go_ret2
            exact ⟨(congrArg Ending.returned HV.out).symm, HPL.out⟩
        · go_simp
          refine (HFI.out _).mono ?_
          rintro e wf ⟨rfl, rfl⟩
          refine hK _ _ ?_
          clear hK K
          (try dsimp only [Act.put])
          refine wpAny_ready (rs := [4]) (by kernel_rfl) (by simp) ?_
          refine AllReady.cons rfl (fun K hK => ?_) AllReady.nil
          go_simp
          refine hK _ _ ?_
          clear hK K
          (try dsimp only [Act.put])
          refine wpAny_take (i := 5) (v := .string F1) rfl (by kernel_rfl) (by kernel_rfl) (by kernel_rfl) (fun _ _ _ h => h) (Or.inl ⟨by kernel_rfl, fun w => by go_simp⟩) ?_; (try dsimp only [Act.put])
          refine wpAny_take (i := 8) (v := .bool true) rfl (by kernel_rfl) (by kernel_rfl) (by kernel_rfl) (fun _ _ _ h => h) (Or.inl ⟨by kernel_rfl, fun w => by go_simp⟩) ?_; (try dsimp only [Act.put])
          refine wpAny_take (i := 9) (v := .bool true) rfl (by kernel_rfl) (by kernel_rfl) (by kernel_rfl) (fun _ _ _ h => h) (Or.inl ⟨by kernel_rfl, fun w => by kernel_rfl⟩) ?_; (try dsimp only [Act.put])
          refine wpAny_take (i := 10) (v := .bool true) rfl (by kernel_rfl) (by kernel_rfl) (by kernel_rfl) (fun _ _ _ h => h) (Or.inl ⟨by kernel_rfl, fun w => by kernel_rfl⟩) ?_; (try dsimp only [Act.put])
          refine wpAny_take (i := 11) (v := .slice A2 n2 c2) rfl (by kernel_rfl) (by kernel_rfl) (by kernel_rfl) (fun _ _ _ h => h) (Or.inl ⟨by kernel_rfl, fun w => by kernel_rfl⟩) ?_; (try dsimp only [Act.put])
          refine wpAny_take (i := 14) (v := .string LB) rfl (by kernel_rfl) (by kernel_rfl) (by kernel_rfl) (fun _ _ _ h => h) (Or.inl ⟨by kernel_rfl, fun w => by kernel_rfl⟩) ?_; (try dsimp only [Act.put])
          refine wpAny_ready (rs := [12, 15]) (by kernel_rfl) (by simp) ?_
          refine AllReady.cons rfl (fun K hK => ?_) (AllReady.cons rfl (fun K hK => ?_) AllReady.nil)
          · go_simp
            refine hK _ _ ?_
            clear hK K
            (try dsimp only [Act.put])
            refine wpAny_take (i := 13) (v := .string L1) rfl (by kernel_rfl) (by kernel_rfl) (by kernel_rfl) (fun _ _ _ h => h) (Or.inl ⟨by kernel_rfl, fun w => by go_simp⟩) ?_; (try dsimp only [Act.put])
            refine wpAny_ready (rs := [15]) (by kernel_rfl) (by simp) ?_
            refine AllReady.cons rfl (fun K hK => ?_) AllReady.nil
            go_simp
            refine (HLA.out _).mono ?_
            rintro e wg ⟨rfl, rfl⟩
            refine hK _ _ ?_
            clear hK K
            (try dsimp only [Act.put])
            refine wpAny_take (i := 16) (v := .bool false) rfl (by kernel_rfl) (by kernel_rfl) (by kernel_rfl) (fun _ _ _ h => h) (Or.inl ⟨by kernel_rfl, fun w => by go_simp⟩) ?_; (try dsimp only [Act.put])
            refine wpAny_take (i := 17) (v := .bool false) rfl (by kernel_rfl) (by kernel_rfl) (by kernel_rfl) (fun _ _ _ h => h) (Or.inl ⟨by kernel_rfl, fun w => by kernel_rfl⟩) ?_; (try dsimp only [Act.put])
            refine wpAny_take (i := 18) (v := .bool false) rfl (by kernel_rfl) (by kernel_rfl) (by kernel_rfl) (fun _ _ _ h => h) (Or.inl ⟨by kernel_rfl, fun w => by kernel_rfl⟩) ?_; (try dsimp only [Act.put])
            refine wpAny_done (by kernel_rfl) ?_ _
            go_simp
            go_wp2_with fail
            go_ret2
            exact ⟨(congrArg Ending.returned HV.out).symm, HPL.out⟩
          · go_simp
            refine (HLA.out _).mono ?_
            rintro e wg ⟨rfl, rfl⟩
            refine hK _ _ ?_
            clear hK K
            (try dsimp only [Act.put])
            refine wpAny_ready (rs := [12]) (by kernel_rfl) (by simp) ?_
            refine AllReady.cons rfl (fun K hK => ?_) AllReady.nil
            go_simp
            refine hK _ _ ?_
            clear hK K
            (try dsimp only [Act.put])
            refine wpAny_take (i := 13) (v := .string L1) rfl (by kernel_rfl) (by kernel_rfl) (by kernel_rfl) (fun _ _ _ h => h) (Or.inl ⟨by kernel_rfl, fun w => by go_simp⟩) ?_; (try dsimp only [Act.put])
            refine wpAny_take (i := 16) (v := .bool false) rfl (by kernel_rfl) (by kernel_rfl) (by kernel_rfl) (fun _ _ _ h => h) (Or.inl ⟨by kernel_rfl, fun w => by go_simp⟩) ?_; (try dsimp only [Act.put])
            refine wpAny_take (i := 17) (v := .bool false) rfl (by kernel_rfl) (by kernel_rfl) (by kernel_rfl) (fun _ _ _ h => h) (Or.inl ⟨by kernel_rfl, fun w => by kernel_rfl⟩) ?_; (try dsimp only [Act.put])
            refine wpAny_take (i := 18) (v := .bool false) rfl (by kernel_rfl) (by kernel_rfl) (by kernel_rfl) (fun _ _ _ h => h) (Or.inl ⟨by kernel_rfl, fun w => by kernel_rfl⟩) ?_; (try dsimp only [Act.put])
            refine wpAny_done (by kernel_rfl) ?_ _
            go_simp
            go_wp2_with fail
            go_ret2
            exact ⟨(congrArg Ending.returned HV.out).symm, HPL.out⟩
    · have e1 := HFB.out.1 hf
      have hno : frmB f l = false := by
        cases hq : frmB f l with
        | false => rfl
        | true =>
          obtain ⟨q1, q2, q3⟩ := frm_yes hq
          have := HYF.out _ q2
          rw [← this] at q2
          exact absurd q2 hf
      have HV := Lib.hid ((hfin hno).trans (if_neg (by decide)))
      clear hfin hno hb hf
      go_upto_region 3 with (fail)
      refine wp_region_any (by kernel_rfl) ?_
      change wpAny _ _ _ _ _ _ _ (World.drew _)
      rw [← HWD.out]
      clear HWD
      refine wpAny_take (i := 0) (v := .string LB) rfl (by kernel_rfl) (by kernel_rfl) (by kernel_rfl) (fun _ _ _ h => h) (Or.inl ⟨by kernel_rfl, fun w => by kernel_rfl⟩) ?_; (try dsimp only [Act.put])
      refine wpAny_ready (rs := [1]) (by kernel_rfl) (by simp) ?_
      refine AllReady.cons rfl (fun K hK => ?_) AllReady.nil
      go_simp
      refine (HLB.out _).mono ?_
      rintro e wl ⟨rfl, hpl⟩
      have HPL : Hid (Past w0 wl) := Lib.hid (HD.out.trans' hpl)
      have hcf := HCF.out wl (HS1.out.past HPL.out)
      have hcl := HCL.out wl (HS2.out.past HPL.out)
      clear hpl
      refine hK _ _ ?_
      clear hK K
      (try dsimp only [Act.put])
      refine wpAny_take (i := 2) (v := .bool true) rfl (by kernel_rfl) (by kernel_rfl) (by kernel_rfl) (fun _ _ _ h => h) (Or.inl ⟨by kernel_rfl, fun w => by kernel_rfl⟩) ?_; (try dsimp only [Act.put])
      refine wpAny_take (i := 3) (v := .slice A1 n1 c1) rfl (by kernel_rfl) (by kernel_rfl) (by kernel_rfl) (fun _ _ _ h => h) (Or.inl ⟨by kernel_rfl, fun w => by kernel_rfl⟩) ?_; (try dsimp only [Act.put])
      refine wpAny_take (i := 6) (v := .string LB) rfl (by kernel_rfl) (by kernel_rfl) (by kernel_rfl) (fun _ _ _ h => h) (Or.inl ⟨by kernel_rfl, fun w => by kernel_rfl⟩) ?_; (try dsimp only [Act.put])
      refine wpAny_ready (rs := [4, 7]) (by kernel_rfl) (by simp) ?_
      refine AllReady.cons rfl (fun K hK => ?_) (AllReady.cons rfl (fun K hK => ?_) AllReady.nil)
      · go_simp
        refine hK _ _ ?_
        clear hK K
        (try dsimp only [Act.put])
        refine wpAny_take (i := 5) (v := .string F1) rfl (by kernel_rfl) (by kernel_rfl) (by kernel_rfl) (fun _ _ _ h => h) (Or.inl ⟨by kernel_rfl, fun w => by go_simp⟩) ?_; (try dsimp only [Act.put])
        refine wpAny_ready (rs := [7]) (by kernel_rfl) (by simp) ?_
        refine AllReady.cons rfl (fun K hK => ?_) AllReady.nil
        go_simp
        refine (HFI.out _).mono ?_
        rintro e wf ⟨rfl, rfl⟩
        refine hK _ _ ?_
        clear hK K
        (try dsimp only [Act.put])
        refine wpAny_take (i := 8) (v := .bool false) rfl (by kernel_rfl) (by kernel_rfl) (by kernel_rfl) (fun _ _ _ h => h) (Or.inl ⟨by kernel_rfl, fun w => by go_simp⟩) ?_; (try dsimp only [Act.put])
        refine wpAny_take (i := 9) (v := .bool false) rfl (by kernel_rfl) (by kernel_rfl) (by kernel_rfl) (fun _ _ _ h => h) (Or.inl ⟨by kernel_rfl, fun w => by kernel_rfl⟩) ?_; (try dsimp only [Act.put])
        refine wpAny_take (i := 10) (v := .bool false) rfl (by kernel_rfl) (by kernel_rfl) (by kernel_rfl) (fun _ _ _ h => h) (Or.inl ⟨by kernel_rfl, fun w => by kernel_rfl⟩) ?_; (try dsimp only [Act.put])
        refine wpAny_skips (fuel := 2) (by kernel_rfl) [11, 12, 13, 14, 15, 16] _ _ (by repeat (first | exact trivial | refine ⟨fun _ _ _ h => h, ?_⟩)) (by kernel_rfl) ?_; dsimp only [skipL, skipA]; (try dsimp only [Act.put])
        refine wpAny_take (i := 17) (v := .bool false) rfl (by kernel_rfl) (by kernel_rfl) (by kernel_rfl) (fun _ _ _ h => h) (Or.inl ⟨by kernel_rfl, fun w => by kernel_rfl⟩) ?_; (try dsimp only [Act.put])
        refine wpAny_take (i := 18) (v := .bool false) rfl (by kernel_rfl) (by kernel_rfl) (by kernel_rfl) (fun _ _ _ h => h) (Or.inl ⟨by kernel_rfl, fun w => by kernel_rfl⟩) ?_; (try dsimp only [Act.put])
        refine wpAny_done (by kernel_rfl) ?_ _
        go_simp
        go_wp2_with fail
        go_ret2
        exact ⟨(congrArg Ending.returned HV.out).symm, HPL.out⟩
      · go_simp
        refine (HFI.out _).mono ?_
        rintro e wf ⟨rfl, rfl⟩
        refine hK _ _ ?_
        clear hK K
        (try dsimp only [Act.put])
        refine wpAny_ready (rs := [4]) (by kernel_rfl) (by simp) ?_
        refine AllReady.cons rfl (fun K hK => ?_) AllReady.nil
        go_simp
        refine hK _ _ ?_
        clear hK K
        (try dsimp only [Act.put])
        refine wpAny_take (i := 5) (v := .string F1) rfl (by kernel_rfl) (by kernel_rfl) (by kernel_rfl) (fun _ _ _ h => h) (Or.inl ⟨by kernel_rfl, fun w => by go_simp⟩) ?_; (try dsimp only [Act.put])
        refine wpAny_take (i := 8) (v := .bool false) rfl (by kernel_rfl) (by kernel_rfl) (by kernel_rfl) (fun _ _ _ h => h) (Or.inl ⟨by kernel_rfl, fun w => by go_simp⟩) ?_; (try dsimp only [Act.put])
        refine wpAny_take (i := 9) (v := .bool false) rfl (by kernel_rfl) (by kernel_rfl) (by kernel_rfl) (fun _ _ _ h => h) (Or.inl ⟨by kernel_rfl, fun w => by kernel_rfl⟩) ?_; (try dsimp only [Act.put])
        refine wpAny_take (i := 10) (v := .bool false) rfl (by kernel_rfl) (by kernel_rfl) (by kernel_rfl) (fun _ _ _ h => h) (Or.inl ⟨by kernel_rfl, fun w => by kernel_rfl⟩) ?_; (try dsimp only [Act.put])
        refine wpAny_skips (fuel := 2) (by kernel_rfl) [11, 12, 13, 14, 15, 16] _ _ (by repeat (first | exact trivial | refine ⟨fun _ _ _ h => h, ?_⟩)) (by kernel_rfl) ?_; dsimp only [skipL, skipA]; (try dsimp only [Act.put])
        refine wpAny_take (i := 17) (v := .bool false) rfl (by kernel_rfl) (by kernel_rfl) (by kernel_rfl) (fun _ _ _ h => h) (Or.inl ⟨by kernel_rfl, fun w => by kernel_rfl⟩) ?_; (try dsimp only [Act.put])
        refine wpAny_take (i := 18) (v := .bool false) rfl (by kernel_rfl) (by kernel_rfl) (by kernel_rfl) (fun _ _ _ h => h) (Or.inl ⟨by kernel_rfl, fun w => by kernel_rfl⟩) ?_; (try dsimp only [Act.put])
        refine wpAny_done (by kernel_rfl) ?_ _
        go_simp
        go_wp2_with fail
        go_ret2
        exact ⟨(congrArg Ending.returned HV.out).symm, HPL.out⟩
end Go.Proofs.YtnnonidiogoffaaGreatDoor
