/- Parse of package pyxref12: its ways out behind the lines, ahead of its loops. -/
import Derived.Test.YtnnonidiogoffaaGreatDoorRf12D
namespace Go.Proofs.YtnnonidiogoffaaGreatDoor
open Go.RowKit
set_option linter.unusedVariables false

/-- The result's cell, the lines and the bytes, as they lie. -/
structure Ra (w : World) (g : Nat) (A : Option Addr) (n c : Nat) (xs : List Int) (b : Nat) (ls : List (List Int)) (W : World) : Prop where
  past : Past w W
  ge : w.heap.size = g
  res : Row W g 29 #[.string ⟨#[]⟩, .slice none 0 0, .int .i64 0]
  line : ∀ i, i < ls.length → W.cell? ⟨b, i, none⟩ = some (.string (txt (ls.getD i [])))
  src : Sl W A n c xs
theorem Ra.later {w W W' : World} {g : Nat} {A : Option Addr} {n c : Nat} {xs : List Int} {b : Nat} {ls : List (List Int)} (h : Ra w g A n c xs b ls W) (hp : Past W W') : Ra w g A n c xs b ls W' :=
  ⟨h.past.trans' hp, h.ge, h.res.past hp, fun i hi => by rw [Below.cell hp (cell_lt (h.line i hi))]; exact h.line i hi, h.src.past hp⟩
theorem Ra.of {w W : World} {A : Option Addr} {n c : Nat} {xs : List Int} {ls : List (List Int)} {P : Option Addr} {cc : Nat} (w1 : World) (h1 : w1 = w.alloc (.cells #[.string ⟨#[]⟩, .slice none 0 0, .int .i64 0] 29)) (hS : Sl w A n c xs) (hl : 0 < ls.length)
    (hown : W.ownsRow w1.heap.size 9 1 (.slice P ls.length cc) ls.length (strVs ls)) (hp : Past w1 W) : ∃ b, P = some ⟨b, 0, none⟩ ∧ ls.length ≤ cc ∧ Ra w w.heap.size A n c xs b ls W := by
  have hw : Past w w1 := by rw [h1]; exact past_allocR _ _
  rcases hown.2 with ⟨_, e⟩ | ⟨b, cap, cur, e1, e2, e3, e4, e5, e6, e7⟩
  · omega
  · injection e1 with a1 a2 a3
    subst a1 a3
    refine ⟨b, rfl, e4, hw.trans' hp, rfl, ?_, fun i hi => ?_, (hS.past hw).past hp⟩
    · have := Row.new w 29 #[.string ⟨#[]⟩, .slice none 0 0, .int .i64 0]
      rw [← h1] at this
      exact this.past hp
    · have := hown.cells (g := b) rfl i (.string (txt (ls.getD i []))) (by simp [strVs, hi])
      rwa [add_none, Nat.zero_add] at this
theorem txt_ext {f : List Int} (hr : ∀ x ∈ f, 0 ≤ x ∧ x < 256) (a b : Nat) : (txt f).extract a b = txt ((f.take b).drop a) := by
  rw [← txt_of_ints ((txt f).extract a b), ints_ext, ints_txt hr]
theorem toL_ne' {a b : List Int} (ha : ∀ x ∈ a, 0 ≤ x ∧ x < 256) (hb : ∀ x ∈ b, 0 ≤ x ∧ x < 256) (h : a ≠ b) : ((txt a).toList == (txt b).toList) = false := by
  cases he : ((txt a).toList == (txt b).toList) with
  | false => rfl
  | true =>
    exfalso
    have e1 : (txt a).toList = (txt b).toList := eq_of_beq he
    have e2 := toList_inj e1
    exact h (by rw [← ints_txt ha, ← ints_txt hb, e2])
theorem toL_beg : (txt [45, 45, 45, 45, 45, 66, 69, 71, 73, 78, 32]).toList = [45, 45, 45, 45, 45, 66, 69, 71, 73, 78, 32] := by kernel_rfl
theorem toL_hy : (txt [45, 45, 45, 45, 45]).toList = [45, 45, 45, 45, 45] := by kernel_rfl
theorem end_lab (lab : List Int) : endL lab = ([45, 45, 45, 45, 45, 69, 78, 68, 32] ++ lab) ++ [45, 45, 45, 45, 45] := by simp [endL, hyL]
theorem end_rng {lab : List Int} (h : ∀ x ∈ lab, 0 ≤ x ∧ x < 256) : (∀ x ∈ [45, 45, 45, 45, 45, 69, 78, 68, 32] ++ lab, 0 ≤ x ∧ x < 256) ∧ ∀ x ∈ endL lab, 0 ≤ x ∧ x < 256 := by
  constructor
  · intro x hx
    rcases List.mem_append.1 hx with hx | hx
    · simp at hx; omega
    · exact h x hx
  · intro x hx
    unfold endL hyL at hx
    simp only [List.mem_append, List.mem_cons, List.not_mem_nil, or_false] at hx
    rcases hx with hx | hx | hx
    · omega
    · exact h x hx
    · omega

theorem txtL_len12 (ls : List (List Int)) : (txtL ls).length = ls.flatten.length + ls.length := by
  induction ls with
  | nil => rfl
  | cons p ls ih => rw [txtL_cons, List.length_append, List.length_cons, ih, List.flatten_cons, List.length_append, List.length_cons]; omega

set_option maxHeartbeats 4000000 in
set_option maxRecDepth 100000 in
theorem rparse_few (A : Option Addr) (n c : Nat) (xs : List Int) (w : World) (hS : Sl w A n c xs) (hn : n ≤ 100000) (h10 : xs.getLast? = some 10) (h2 : (lnsL xs).length < 2) : Calls Tryz.prog 10 #[.slice A n c] w (RParP (parP xs) w) := by
  have HR := Lib.hid (rp_two h10 h2)
  have HN := Lib.hid (Row.new w 29 #[.string ⟨#[]⟩, .slice none 0 0, .int .i64 0])
  have HS := Lib.hid hS
  have hlen := hS.len
  obtain ⟨k, rfl⟩ : ∃ k, n = k + 1 := ⟨n - 1, by
    have : n ≠ 0 := by rintro rfl; rw [List.length_eq_zero_iff.1 hlen] at h10; cases h10
    omega⟩
  obtain ⟨ls, hls⟩ : ∃ ls, lnsL xs = ls := ⟨_, rfl⟩
  obtain ⟨b0, o, rfl, hc⟩ := hS.bytes (by omega)
  have hx : xs.getD k 0 = 10 := by
    rw [List.getLast?_eq_getElem?, hlen, Nat.add_sub_cancel, List.getElem?_eq_getElem (by omega)] at h10
    rw [List.getD_eq_getElem?_getD, List.getElem?_eq_getElem (by omega)]
    exact Option.some.inj h10
  have hcell : (w.alloc (.cells #[.string ⟨#[]⟩, .slice none 0 0, .int .i64 0] 29)).cell? ⟨b0, o + k, none⟩ = some (.int .u8 10) := by
    rw [Below.cell (past_allocR w _) (cell_lt (hc k (by omega)))]
    rw [← hx]
    exact hc k (by omega)
  have hco := conv_sl (P := Tryz.prog) (src := 22) (dst := 9) (e := 5) Tryz.underlying22 Tryz.underlying5 Tryz.underlying9 (hS.past (past_allocR w (.cells #[.string ⟨#[]⟩, .slice none 0 0, .int .i64 0] 29)))
  have HXI : Hid (ints (txt xs) = xs) := Lib.hid (ints_txt hS.rng)
  have HSP := Lib.hid (fun w => rsplit_any (txt xs) w (by rw [tsz]; omega))
  rw [HXI.out, hls] at HSP
  have HRG : Hid (∀ p ∈ ls, ∀ x ∈ p, 0 ≤ x ∧ x < 256) := Lib.hid (fun p hp x hx => hS.rng x (lns_mem p (by rw [hls]; exact hp) x hx))
  have HLL : Hid (∀ p ∈ ls, p.length ≤ k + 1) := Lib.hid (by
    intro p hp
    obtain ⟨l1, l2, e⟩ := List.append_of_mem hp
    have h1 := (lns_last h10).1
    rw [hls, e] at h1
    have h2 := congrArg List.length h1
    rw [txtL_app, txtL_cons, hlen, List.length_append, List.length_append, List.length_cons] at h2
    omega)
  have hL0 : 0 < ls.length := List.length_pos_iff.2 (by rw [← hls]; exact (lns_last h10).2)
  have HL0 := Lib.hid hL0
  have HLK : Hid (ls.length ≤ k + 1) := Lib.hid (by
    have h1 := (lns_last h10).1
    rw [hls] at h1
    have h2 := congrArg List.length h1
    rw [txtL_len12, hlen] at h2
    omega)
  have hni : ¬ (1048576 : Int) < (k : Int) + 1 := by omega
  have hn0 : ((k : Int) + 1 == 0) = false := by simp; omega
  have hn1 : ¬ (k : Int) + 1 = 0 := by omega
  obtain ⟨T, hT⟩ : ∃ T, txt xs = T := ⟨_, rfl⟩
  rw [hT] at hco HSP
  have HK : Hid (k + 1 ≤ 100000) := Lib.hid hn
  clear hS hlen hx hc hL0 hn hT
  rw [hls] at h2
  have hNi0 : (0 : Int) < (ls.length : Int) := by have := HL0.out; omega
  have hNi2 : (ls.length : Int) < 2 := by omega
  clear h2
  go_enter Tryz.func10, Tryz.ntmps10
  go_wp2_with fail
  refine (HSP.out _).mono ?_
  rintro e w3 ⟨P, cc, rfl, hown, hp⟩
  obtain ⟨b, rfl, hcc, hra⟩ := Ra.of _ rfl HS.out HL0.out hown hp
  have H3 := Lib.hid hra
  obtain ⟨g, hg⟩ : ∃ g, w.heap.size = g := ⟨_, rfl⟩
  rw [hg] at H3 ⊢
  clear hown hp hra hcell hco HN hcc hg
  have hc0 := H3.out.line 0 HL0.out
  go_wp2_with (refine wpList_store_row rfl 29 _ _ rfl _ _ rfl rfl _ _ H3.out.res (resR _ rfl) rfl (by simp [Value.oneCell']) ?_)
  refine bodyPost_ret (results_cell_row rfl _ _ _ _ _ _ _ rfl (setRow_heap _ _ _ _ _ _ H3.out.res) Tryz.underlying29 rfl (resR _ rfl)) rfl ?_
  rw [HR.out]
  exact ⟨rfl, past_rowR H3.out.past (by rw [H3.out.ge]; exact Nat.le_refl _) _⟩

set_option maxHeartbeats 4000000 in
set_option maxRecDepth 100000 in
theorem rparse_short (A : Option Addr) (n c : Nat) (xs : List Int) (w : World) (hS : Sl w A n c xs) (hn : n ≤ 100000) (h10 : xs.getLast? = some 10) (h2 : ¬ (lnsL xs).length < 2) (h17 : ((lnsL xs).getD 0 []).length < 17) : Calls Tryz.prog 10 #[.slice A n c] w (RParP (parP xs) w) := by
  have HR := Lib.hid (rp_first h10 (fun h => by have := h.1; omega))
  have HN := Lib.hid (Row.new w 29 #[.string ⟨#[]⟩, .slice none 0 0, .int .i64 0])
  have HS := Lib.hid hS
  have hlen := hS.len
  obtain ⟨k, rfl⟩ : ∃ k, n = k + 1 := ⟨n - 1, by
    have : n ≠ 0 := by rintro rfl; rw [List.length_eq_zero_iff.1 hlen] at h10; cases h10
    omega⟩
  obtain ⟨ls, hls⟩ : ∃ ls, lnsL xs = ls := ⟨_, rfl⟩
  obtain ⟨b0, o, rfl, hc⟩ := hS.bytes (by omega)
  have hx : xs.getD k 0 = 10 := by
    rw [List.getLast?_eq_getElem?, hlen, Nat.add_sub_cancel, List.getElem?_eq_getElem (by omega)] at h10
    rw [List.getD_eq_getElem?_getD, List.getElem?_eq_getElem (by omega)]
    exact Option.some.inj h10
  have hcell : (w.alloc (.cells #[.string ⟨#[]⟩, .slice none 0 0, .int .i64 0] 29)).cell? ⟨b0, o + k, none⟩ = some (.int .u8 10) := by
    rw [Below.cell (past_allocR w _) (cell_lt (hc k (by omega)))]
    rw [← hx]
    exact hc k (by omega)
  have hco := conv_sl (P := Tryz.prog) (src := 22) (dst := 9) (e := 5) Tryz.underlying22 Tryz.underlying5 Tryz.underlying9 (hS.past (past_allocR w (.cells #[.string ⟨#[]⟩, .slice none 0 0, .int .i64 0] 29)))
  have HXI : Hid (ints (txt xs) = xs) := Lib.hid (ints_txt hS.rng)
  have HSP := Lib.hid (fun w => rsplit_any (txt xs) w (by rw [tsz]; omega))
  rw [HXI.out, hls] at HSP
  have HRG : Hid (∀ p ∈ ls, ∀ x ∈ p, 0 ≤ x ∧ x < 256) := Lib.hid (fun p hp x hx => hS.rng x (lns_mem p (by rw [hls]; exact hp) x hx))
  have HLL : Hid (∀ p ∈ ls, p.length ≤ k + 1) := Lib.hid (by
    intro p hp
    obtain ⟨l1, l2, e⟩ := List.append_of_mem hp
    have h1 := (lns_last h10).1
    rw [hls, e] at h1
    have h2 := congrArg List.length h1
    rw [txtL_app, txtL_cons, hlen, List.length_append, List.length_append, List.length_cons] at h2
    omega)
  have hL0 : 0 < ls.length := List.length_pos_iff.2 (by rw [← hls]; exact (lns_last h10).2)
  have HL0 := Lib.hid hL0
  have HLK : Hid (ls.length ≤ k + 1) := Lib.hid (by
    have h1 := (lns_last h10).1
    rw [hls] at h1
    have h2 := congrArg List.length h1
    rw [txtL_len12, hlen] at h2
    omega)
  have hni : ¬ (1048576 : Int) < (k : Int) + 1 := by omega
  have hn0 : ((k : Int) + 1 == 0) = false := by simp; omega
  have hn1 : ¬ (k : Int) + 1 = 0 := by omega
  obtain ⟨T, hT⟩ : ∃ T, txt xs = T := ⟨_, rfl⟩
  rw [hT] at hco HSP
  have HK : Hid (k + 1 ≤ 100000) := Lib.hid hn
  clear hS hlen hx hc hL0 hn hT
  rw [hls] at h2 h17
  obtain ⟨f, hf⟩ : ∃ f, ls.getD 0 [] = f := ⟨_, rfl⟩
  have hfm : f ∈ ls := by
    rw [← hf, List.getD_eq_getElem?_getD, List.getElem?_eq_getElem HL0.out]
    exact List.getElem_mem _
  have HFR : Hid (∀ x ∈ f, 0 ≤ x ∧ x < 256) := Lib.hid (HRG.out f hfm)
  have hfl : f.length ≤ 100000 := by have := HLL.out f hfm; have := HK.out; omega
  obtain ⟨F, hF⟩ : ∃ F, txt f = F := ⟨_, rfl⟩
  have hFz : F.size = f.length := by rw [← hF, tsz]
  have hN2 : ¬ (ls.length : Int) < 2 := by omega
  have hN0 : (0 : Int) < (ls.length : Int) := by omega
  rw [hf] at h17
  have h17i : (F.size : Int) < 17 := by omega
  clear h17 hfl hFz h2 hfm
  go_enter Tryz.func10, Tryz.ntmps10
  go_wp2_with fail
  refine (HSP.out _).mono ?_
  rintro e w3 ⟨P, cc, rfl, hown, hp⟩
  obtain ⟨b, rfl, hcc, hra⟩ := Ra.of _ rfl HS.out HL0.out hown hp
  have H3 := Lib.hid hra
  obtain ⟨g, hg⟩ : ∃ g, w.heap.size = g := ⟨_, rfl⟩
  rw [hg] at H3 ⊢
  clear hown hp hra hcell hco HN hcc hg
  have hc0 := H3.out.line 0 HL0.out
  rw [hf, hF] at hc0
  go_wp2_with (refine wpList_store_row rfl 29 _ _ rfl _ _ rfl rfl _ _ H3.out.res (resR _ rfl) rfl (by simp [Value.oneCell']) ?_)
  refine bodyPost_ret (results_cell_row rfl _ _ _ _ _ _ _ rfl (setRow_heap _ _ _ _ _ _ H3.out.res) Tryz.underlying29 rfl (resR _ rfl)) rfl ?_
  rw [HR.out]
  exact ⟨rfl, past_rowR H3.out.past (by rw [H3.out.ge]; exact Nat.le_refl _) _⟩

set_option maxHeartbeats 4000000 in
set_option maxRecDepth 100000 in
theorem rparse_pre (A : Option Addr) (n c : Nat) (xs : List Int) (w : World) (hS : Sl w A n c xs) (hn : n ≤ 100000) (h10 : xs.getLast? = some 10) (h2 : ¬ (lnsL xs).length < 2) (h17 : ¬ ((lnsL xs).getD 0 []).length < 17) (hb : ¬ ((lnsL xs).getD 0 []).take 11 = [45, 45, 45, 45, 45, 66, 69, 71, 73, 78, 32]) : Calls Tryz.prog 10 #[.slice A n c] w (RParP (parP xs) w) := by
  have HR := Lib.hid (rp_first h10 (fun h => hb h.2.1))
  have HN := Lib.hid (Row.new w 29 #[.string ⟨#[]⟩, .slice none 0 0, .int .i64 0])
  have HS := Lib.hid hS
  have hlen := hS.len
  obtain ⟨k, rfl⟩ : ∃ k, n = k + 1 := ⟨n - 1, by
    have : n ≠ 0 := by rintro rfl; rw [List.length_eq_zero_iff.1 hlen] at h10; cases h10
    omega⟩
  obtain ⟨ls, hls⟩ : ∃ ls, lnsL xs = ls := ⟨_, rfl⟩
  obtain ⟨b0, o, rfl, hc⟩ := hS.bytes (by omega)
  have hx : xs.getD k 0 = 10 := by
    rw [List.getLast?_eq_getElem?, hlen, Nat.add_sub_cancel, List.getElem?_eq_getElem (by omega)] at h10
    rw [List.getD_eq_getElem?_getD, List.getElem?_eq_getElem (by omega)]
    exact Option.some.inj h10
  have hcell : (w.alloc (.cells #[.string ⟨#[]⟩, .slice none 0 0, .int .i64 0] 29)).cell? ⟨b0, o + k, none⟩ = some (.int .u8 10) := by
    rw [Below.cell (past_allocR w _) (cell_lt (hc k (by omega)))]
    rw [← hx]
    exact hc k (by omega)
  have hco := conv_sl (P := Tryz.prog) (src := 22) (dst := 9) (e := 5) Tryz.underlying22 Tryz.underlying5 Tryz.underlying9 (hS.past (past_allocR w (.cells #[.string ⟨#[]⟩, .slice none 0 0, .int .i64 0] 29)))
  have HXI : Hid (ints (txt xs) = xs) := Lib.hid (ints_txt hS.rng)
  have HSP := Lib.hid (fun w => rsplit_any (txt xs) w (by rw [tsz]; omega))
  rw [HXI.out, hls] at HSP
  have HRG : Hid (∀ p ∈ ls, ∀ x ∈ p, 0 ≤ x ∧ x < 256) := Lib.hid (fun p hp x hx => hS.rng x (lns_mem p (by rw [hls]; exact hp) x hx))
  have HLL : Hid (∀ p ∈ ls, p.length ≤ k + 1) := Lib.hid (by
    intro p hp
    obtain ⟨l1, l2, e⟩ := List.append_of_mem hp
    have h1 := (lns_last h10).1
    rw [hls, e] at h1
    have h2 := congrArg List.length h1
    rw [txtL_app, txtL_cons, hlen, List.length_append, List.length_append, List.length_cons] at h2
    omega)
  have hL0 : 0 < ls.length := List.length_pos_iff.2 (by rw [← hls]; exact (lns_last h10).2)
  have HL0 := Lib.hid hL0
  have HLK : Hid (ls.length ≤ k + 1) := Lib.hid (by
    have h1 := (lns_last h10).1
    rw [hls] at h1
    have h2 := congrArg List.length h1
    rw [txtL_len12, hlen] at h2
    omega)
  have hni : ¬ (1048576 : Int) < (k : Int) + 1 := by omega
  have hn0 : ((k : Int) + 1 == 0) = false := by simp; omega
  have hn1 : ¬ (k : Int) + 1 = 0 := by omega
  obtain ⟨T, hT⟩ : ∃ T, txt xs = T := ⟨_, rfl⟩
  rw [hT] at hco HSP
  have HK : Hid (k + 1 ≤ 100000) := Lib.hid hn
  clear hS hlen hx hc hL0 hn hT
  rw [hls] at h2 h17 hb
  obtain ⟨f, hf⟩ : ∃ f, ls.getD 0 [] = f := ⟨_, rfl⟩
  have hfm : f ∈ ls := by
    rw [← hf, List.getD_eq_getElem?_getD, List.getElem?_eq_getElem HL0.out]
    exact List.getElem_mem _
  have HFR : Hid (∀ x ∈ f, 0 ≤ x ∧ x < 256) := Lib.hid (HRG.out f hfm)
  have hfl : f.length ≤ 100000 := by have := HLL.out f hfm; have := HK.out; omega
  obtain ⟨F, hF⟩ : ∃ F, txt f = F := ⟨_, rfl⟩
  have hFz : F.size = f.length := by rw [← hF, tsz]
  have hN2 : ¬ (ls.length : Int) < 2 := by omega
  have hN0 : (0 : Int) < (ls.length : Int) := by omega
  rw [hf] at h17 hb
  have hq17 : ¬ (F.size : Int) < 17 := by omega
  have hs1 := fun w : World => run_slice_string_h (P := Tryz.prog) w 9 F Tryz.underlying9 .i64 11 (by decide) (by omega)
  have hx1 : F.extract 0 (11 : Int).toNat = txt (f.take 11) := by rw [← hF, txt_ext HFR.out]; rfl
  rw [hx1] at hs1
  obtain ⟨T1, hT1⟩ : ∃ T1, txt (f.take 11) = T1 := ⟨_, rfl⟩
  rw [hT1] at hs1
  have he1 : (T1.toList == [45, 45, 45, 45, 45, 66, 69, 71, 73, 78, 32]) = false := by
    rw [← toL_beg, ← hT1]
    exact toL_ne' (fun x hx => HFR.out x (List.mem_of_mem_take hx)) (by decide) hb
  clear h17 hfl hFz h2 hfm hb hx1 hT1
  go_enter Tryz.func10, Tryz.ntmps10
  go_wp2_with fail
  refine (HSP.out _).mono ?_
  rintro e w3 ⟨P, cc, rfl, hown, hp⟩
  obtain ⟨b, rfl, hcc, hra⟩ := Ra.of _ rfl HS.out HL0.out hown hp
  have H3 := Lib.hid hra
  obtain ⟨g, hg⟩ : ∃ g, w.heap.size = g := ⟨_, rfl⟩
  rw [hg] at H3 ⊢
  clear hown hp hra hcell hco HN hcc hg
  have hc0 := H3.out.line 0 HL0.out
  rw [hf, hF] at hc0
  go_wp2_with (refine wpList_store_row rfl 29 _ _ rfl _ _ rfl rfl _ _ H3.out.res (resR _ rfl) rfl (by simp [Value.oneCell']) ?_)
  refine bodyPost_ret (results_cell_row rfl _ _ _ _ _ _ _ rfl (setRow_heap _ _ _ _ _ _ H3.out.res) Tryz.underlying29 rfl (resR _ rfl)) rfl ?_
  rw [HR.out]
  exact ⟨rfl, past_rowR H3.out.past (by rw [H3.out.ge]; exact Nat.le_refl _) _⟩

set_option maxHeartbeats 4000000 in
set_option maxRecDepth 100000 in
theorem rparse_suf (A : Option Addr) (n c : Nat) (xs : List Int) (w : World) (hS : Sl w A n c xs) (hn : n ≤ 100000) (h10 : xs.getLast? = some 10) (h2 : ¬ (lnsL xs).length < 2) (h17 : ¬ ((lnsL xs).getD 0 []).length < 17) (hb : ((lnsL xs).getD 0 []).take 11 = [45, 45, 45, 45, 45, 66, 69, 71, 73, 78, 32]) (hs : ¬ ((lnsL xs).getD 0 []).drop (((lnsL xs).getD 0 []).length - 5) = [45, 45, 45, 45, 45]) : Calls Tryz.prog 10 #[.slice A n c] w (RParP (parP xs) w) := by
  have HR := Lib.hid (rp_first h10 (fun h => hs h.2.2))
  have HN := Lib.hid (Row.new w 29 #[.string ⟨#[]⟩, .slice none 0 0, .int .i64 0])
  have HS := Lib.hid hS
  have hlen := hS.len
  obtain ⟨k, rfl⟩ : ∃ k, n = k + 1 := ⟨n - 1, by
    have : n ≠ 0 := by rintro rfl; rw [List.length_eq_zero_iff.1 hlen] at h10; cases h10
    omega⟩
  obtain ⟨ls, hls⟩ : ∃ ls, lnsL xs = ls := ⟨_, rfl⟩
  obtain ⟨b0, o, rfl, hc⟩ := hS.bytes (by omega)
  have hx : xs.getD k 0 = 10 := by
    rw [List.getLast?_eq_getElem?, hlen, Nat.add_sub_cancel, List.getElem?_eq_getElem (by omega)] at h10
    rw [List.getD_eq_getElem?_getD, List.getElem?_eq_getElem (by omega)]
    exact Option.some.inj h10
  have hcell : (w.alloc (.cells #[.string ⟨#[]⟩, .slice none 0 0, .int .i64 0] 29)).cell? ⟨b0, o + k, none⟩ = some (.int .u8 10) := by
    rw [Below.cell (past_allocR w _) (cell_lt (hc k (by omega)))]
    rw [← hx]
    exact hc k (by omega)
  have hco := conv_sl (P := Tryz.prog) (src := 22) (dst := 9) (e := 5) Tryz.underlying22 Tryz.underlying5 Tryz.underlying9 (hS.past (past_allocR w (.cells #[.string ⟨#[]⟩, .slice none 0 0, .int .i64 0] 29)))
  have HXI : Hid (ints (txt xs) = xs) := Lib.hid (ints_txt hS.rng)
  have HSP := Lib.hid (fun w => rsplit_any (txt xs) w (by rw [tsz]; omega))
  rw [HXI.out, hls] at HSP
  have HRG : Hid (∀ p ∈ ls, ∀ x ∈ p, 0 ≤ x ∧ x < 256) := Lib.hid (fun p hp x hx => hS.rng x (lns_mem p (by rw [hls]; exact hp) x hx))
  have HLL : Hid (∀ p ∈ ls, p.length ≤ k + 1) := Lib.hid (by
    intro p hp
    obtain ⟨l1, l2, e⟩ := List.append_of_mem hp
    have h1 := (lns_last h10).1
    rw [hls, e] at h1
    have h2 := congrArg List.length h1
    rw [txtL_app, txtL_cons, hlen, List.length_append, List.length_append, List.length_cons] at h2
    omega)
  have hL0 : 0 < ls.length := List.length_pos_iff.2 (by rw [← hls]; exact (lns_last h10).2)
  have HL0 := Lib.hid hL0
  have HLK : Hid (ls.length ≤ k + 1) := Lib.hid (by
    have h1 := (lns_last h10).1
    rw [hls] at h1
    have h2 := congrArg List.length h1
    rw [txtL_len12, hlen] at h2
    omega)
  have hni : ¬ (1048576 : Int) < (k : Int) + 1 := by omega
  have hn0 : ((k : Int) + 1 == 0) = false := by simp; omega
  have hn1 : ¬ (k : Int) + 1 = 0 := by omega
  obtain ⟨T, hT⟩ : ∃ T, txt xs = T := ⟨_, rfl⟩
  rw [hT] at hco HSP
  have HK : Hid (k + 1 ≤ 100000) := Lib.hid hn
  clear hS hlen hx hc hL0 hn hT
  rw [hls] at h2 h17 hb hs
  obtain ⟨f, hf⟩ : ∃ f, ls.getD 0 [] = f := ⟨_, rfl⟩
  have hfm : f ∈ ls := by
    rw [← hf, List.getD_eq_getElem?_getD, List.getElem?_eq_getElem HL0.out]
    exact List.getElem_mem _
  have HFR : Hid (∀ x ∈ f, 0 ≤ x ∧ x < 256) := Lib.hid (HRG.out f hfm)
  have hfl : f.length ≤ 100000 := by have := HLL.out f hfm; have := HK.out; omega
  obtain ⟨F, hF⟩ : ∃ F, txt f = F := ⟨_, rfl⟩
  have hFz : F.size = f.length := by rw [← hF, tsz]
  have hN2 : ¬ (ls.length : Int) < 2 := by omega
  have hN0 : (0 : Int) < (ls.length : Int) := by omega
  rw [hf] at h17 hb hs
  have hq17 : ¬ (F.size : Int) < 17 := by omega
  have hs1 := fun w : World => run_slice_string_h (P := Tryz.prog) w 9 F Tryz.underlying9 .i64 11 (by decide) (by omega)
  have hx1 : F.extract 0 (11 : Int).toNat = txt (f.take 11) := by rw [← hF, txt_ext HFR.out]; rfl
  rw [hx1] at hs1
  obtain ⟨T1, hT1⟩ : ∃ T1, txt (f.take 11) = T1 := ⟨_, rfl⟩
  rw [hT1] at hs1
  have hP1 : T1 = txt [45, 45, 45, 45, 45, 66, 69, 71, 73, 78, 32] := by rw [← hT1, hb]
  have he1 : (T1.toList == [45, 45, 45, 45, 45, 66, 69, 71, 73, 78, 32]) = true := by
    rw [hP1, toL_beg]; rfl
  obtain ⟨q5, hq5⟩ : ∃ q5, f.length - 5 = q5 := ⟨_, rfl⟩
  have hs2 := fun w : World => run_slice_string_l (P := Tryz.prog) w 9 F Tryz.underlying9 .i64 (q5 : Int) (by omega) (by omega)
  have hx2 : F.extract (q5 : Int).toNat F.size = txt (f.drop (f.length - 5)) := by
    rw [← hF, txt_ext HFR.out, tsz, List.take_length, Int.toNat_natCast, hq5]
  rw [hx2] at hs2
  have hw5 : IntKind.i64.wrap ((F.size : Int) - 5) = (q5 : Int) := by rw [IntKind.wrap_i64]; omega
  obtain ⟨T2, hT2⟩ : ∃ T2, txt (f.drop (f.length - 5)) = T2 := ⟨_, rfl⟩
  rw [hT2] at hs2
  have he2 : (T2.toList == [45, 45, 45, 45, 45]) = false := by
    rw [← toL_hy, ← hT2]
    exact toL_ne' (fun x hx => HFR.out x (List.mem_of_mem_drop hx)) (by decide) hs
  clear h17 hfl hFz h2 hfm hb hx1 hT1 hP1 hx2 hT2 hs hq5
  go_enter Tryz.func10, Tryz.ntmps10
  go_wp2_with fail
  refine (HSP.out _).mono ?_
  rintro e w3 ⟨P, cc, rfl, hown, hp⟩
  obtain ⟨b, rfl, hcc, hra⟩ := Ra.of _ rfl HS.out HL0.out hown hp
  have H3 := Lib.hid hra
  obtain ⟨g, hg⟩ : ∃ g, w.heap.size = g := ⟨_, rfl⟩
  rw [hg] at H3 ⊢
  clear hown hp hra hcell hco HN hcc hg
  have hc0 := H3.out.line 0 HL0.out
  rw [hf, hF] at hc0
  go_wp2_with (refine wpList_store_row rfl 29 _ _ rfl _ _ rfl rfl _ _ H3.out.res (resR _ rfl) rfl (by simp [Value.oneCell']) ?_)
  refine bodyPost_ret (results_cell_row rfl _ _ _ _ _ _ _ rfl (setRow_heap _ _ _ _ _ _ H3.out.res) Tryz.underlying29 rfl (resR _ rfl)) rfl ?_
  rw [HR.out]
  exact ⟨rfl, past_rowR H3.out.past (by rw [H3.out.ge]; exact Nat.le_refl _) _⟩

end Go.Proofs.YtnnonidiogoffaaGreatDoor
