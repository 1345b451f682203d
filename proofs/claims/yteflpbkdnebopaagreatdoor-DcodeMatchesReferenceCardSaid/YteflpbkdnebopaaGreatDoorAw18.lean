/- The reference's keys are keys; the chapter's examples hold of the program's package dcode. -/
import Derived.Test.YteflpbkdnebopaaGreatDoorD18J
import Derived.Test.YteflpbkdnebopaaGreatDoorR18E
namespace Go.Proofs.YteflpbkdnebopaaGreatDoor
open Go.RowKit
set_option linter.unusedVariables false
set_option maxRecDepth 100000

theorem nW_packs (D : Nat) (ls : List Int) (q i : Nat) (h : D * i + D ≤ 8 * q) (h0 : 0 ≤ ls.getD i 0) (h1 : ls.getD i 0 < 2 ^ D) : nW D (packs D ls q) i = ls.getD i 0 := by
  unfold nW
  rw [loN_eq (g := pbit D ls) (D * i) (D * i) D fun t ht => lbit_packs D ls q _ (by omega)]
  exact num_loN i h0 h1
theorem bdK_seg (D : Nat) (z s : Int) (n i : Nat) (hi : i < n) : seg (bdK D z s n) (i * (32 * D)) (32 * D) = pkK D z s i := by
  induction n with
  | zero => omega
  | succ n ih =>
    rw [bdK]
    by_cases e : i = n
    · subst e
      have := seg_mid (bdK D z s i) (pkK D z s i) [] (bdK_len D z s i) (pkK_len D z s i)
      rw [List.append_nil] at this
      exact this
    · have h1 := ih (by omega)
      have h2 : i * (32 * D) + 32 * D ≤ n * (32 * D) := by
        have := Nat.mul_le_mul_right (32 * D) (show i + 1 ≤ n by omega)
        rwa [Nat.succ_mul] at this
      rw [← h1]
      unfold seg
      rw [List.drop_append_of_le_length (by rw [bdK_len]; omega), List.take_append_of_le_length (by rw [List.length_drop, bdK_len]; omega)]
theorem seg_shift (A B : List Int) (a m : Nat) : seg (A ++ B) (A.length + a) m = seg B a m := by
  unfold seg
  rw [List.drop_append, List.drop_eq_nil_of_le (by omega), Nat.add_sub_cancel_left, List.nil_append]
theorem keyB_seg (a s : Int) (i : Nat) (hi : i < kD a + lD a) : seg (keyB a s) (128 + zD a * i) (zD a) = pkK (wD a) (2 * (eD a : Int) + 1) s i := by
  have h1 : (spB s 42 0 ++ [1, 2]).length = 128 := by rw [List.length_append, spB_len]; rfl
  unfold keyB hdK
  rw [List.append_assoc, ← h1, seg_shift]
  have h2 := bdK_seg (wD a) (2 * (eD a : Int) + 1) s (kD a + lD a) i hi
  have h3 : i * (32 * wD a) + 32 * wD a ≤ (kD a + lD a) * (32 * wD a) := by
    have := Nat.mul_le_mul_right (32 * wD a) (show i + 1 ≤ kD a + lD a by omega)
    rwa [Nat.succ_mul] at this
  have h4 : zD a * i = i * (32 * wD a) := Nat.mul_comm _ _
  rw [← h2, h4]
  unfold seg zD
  rw [List.drop_append_of_le_length (by rw [bdK_len]; omega), List.take_append_of_le_length (by rw [List.length_drop, bdK_len]; omega)]
theorem chkD_key (a s : Int) (ha : a = 4 ∨ a = 5 ∨ a = 6) : chkD a (keyB a s) = (0, 0) := by
  have hk : ¬ kD a = 0 := fun h => by
    have := kD_zero.1 h
    omega
  have he := eD_two ha
  have hzD : 2 * (eD a : Int) + 1 ≤ 2 ^ wD a := by rcases ha with rfl | rfl | rfl <;> decide
  refine chkD_none hk (keyB_len a s) fun j hj => badD_false.2 fun m hm => ?_
  rw [keyB_seg a s j hj]
  have h1 := nsK_rng (z := 2 * (eD a : Int) + 1) (by omega) (by omega) s j 256 m
  unfold pkK
  rw [nW_packs (wD a) _ _ m (by
    have := Nat.mul_le_mul_left (wD a) (show m + 1 ≤ 256 by omega)
    rw [Nat.mul_succ] at this
    omega) h1.1 (by omega)]
  omega
/-- The polynomial c. -/
def dlt (c : Int) (j : Nat) : Int := if j = 0 then c else 0
theorem dlt_rng {c : Int} (h0 : 0 ≤ c) (h1 : c < 4294967296) : R32 (dlt c) := fun j => by unfold dlt; split <;> omega
theorem builtP (c : Int) : Tryz.prog.built 57 [(0, .int .u32 c)] = some (arr .u32 256 (dlt c)) := by kernel_rfl
theorem wpList_build_oneP {P : Program} {ops : Array Oper} {rest : List Oper} {o : Oper} {a : Act} {w : World} {Q : Exit → Act → World → Prop} (hg : o.guard = none) (t : TypeId) (i : Nat) (x : Operand) (ho : o.op = .build t #[(i, x)]) (v : Value) (hx : a.eval x = v) (cs : Array Value)
    (hb : P.built t [(i, v)] = some cs) (h : wpList P ops Q rest (a.put o.dst (.agg cs)) w) : wpList P ops Q (o :: rest) a w := by
  have e : ((#[(i, x)] : Array (Nat × Operand)).map fun (i, x) => (i, a.eval x)).toList = [(i, v)] := by simp [hx]
  exact wpList_build hg t #[(i, x)] ho (by rw [e, hb]; rfl) (by rw [e, hb]; exact h)
theorem make8 (N : Nat) (hN : N ≤ 1000000) (w : World) : (Instr.makeSlice 25 (.int .i64 (N : Int)) (.int .i64 (N : Int))).run Tryz.prog w = .ok (.slice (some ⟨w.heap.size, 0, none⟩) N N) (w.alloc (.cells (arr .u8 N fun _ => 0) 5)) := by
  obtain ⟨i0, hi, hz0, hz1, hz2⟩ := info_parts info8
  have h := run_make (P := Tryz.prog) w 25 5 i0 (.int .u8 0) Tryz.underlying25 hi hz0 .i64 .i64 (N : Int) (N : Int) (by omega) (Int.le_refl _) (by rw [hz2]; omega) (by omega)
  rw [hz1, Nat.mul_one, Int.toNat_natCast] at h
  have e : madeCells (Value.cells (.int .u8 0)) N = arr .u8 N fun _ => 0 := by
    refine arr_of _ (size_madeCells _ _) fun i hi => ?_
    simp [madeCells, hi, Value.cells, Nat.mod_one]
  rw [e] at h
  exact h
/-- The first example's packing. -/
def exB : List Int := packs 3 (blL 2 (dlt 8380415)) 96
theorem exB_len : exB.length = 96 := packs_len _ _ _
theorem blL_ex : blL 2 (dlt 8380415) = 4 :: List.replicate 255 2 := by decide +kernel
theorem exB_some : rpack 3 (blL 2 (dlt 8380415)) = some exB := by
  unfold rpack
  rw [if_neg]
  · rw [blL_len]
    rfl
  · rw [blL_ex]
    rintro (h | h | ⟨i, h1, h2⟩)
    · omega
    · omega
    · rw [show (3 : Int).toNat = 3 from rfl] at h2
      have : ((4 : Int) :: List.replicate 255 2).getD i 0 ≤ 4 := by
        cases i with
        | zero => decide
        | succ i =>
          rw [List.getD_cons_succ, List.getD_eq_getElem?_getD, List.getElem?_replicate]
          split <;> simp
      omega
theorem exB_first : exB.getD 0 0 = 148 := by
  unfold exB
  rw [blL_ex]
  decide +kernel
theorem no_ex : rpack 3 (blL 2 (dlt 3)) = none := by
  unfold rpack
  rw [if_pos]
  refine .inr (.inr ⟨0, by rw [blL_len]; decide, ?_⟩)
  rw [blL_at _ _ 0 (by decide)]
  decide
/-- 96 bytes 255. -/
def all255 : List Int := List.replicate 96 255
theorem unp255 : unpF 3 2 all255 0 = 8380412 := by
  unfold unpF
  rw [if_pos (by decide)]
  decide +kernel
/-- What Fill leaves. -/
theorem slOnes {w : World} {g : Nat} (h : LM .u8 w g 5 96 fun j => if j < 96 then 255 else 0) : Sl w (some ⟨g, 0, none⟩) 96 96 all255 := by
  refine ⟨by decide, Nat.le_refl _, by unfold maxLen; omega, fun _ => ⟨g, 0, rfl, fun i hi => ?_⟩, fun x hx => ?_, fun e => by cases e⟩
  · rw [Nat.zero_add, h.at i hi, if_pos hi]
    congr 2
    unfold all255
    rw [List.getD_eq_getElem?_getD, List.getElem?_replicate, if_pos hi]
    rfl
  · have := List.eq_of_mem_replicate hx
    omega
theorem slZeros (w : World) (n : Nat) (hn : n ≤ 10000) : Sl (w.alloc (.cells (arr .u8 n fun _ => 0) 5)) (some ⟨w.heap.size, 0, none⟩) n n (List.replicate n 0) := by
  have hr : Row (w.alloc (.cells (arr .u8 n fun _ => 0) 5)) w.heap.size 5 (arr .u8 n fun _ => 0) := Row.new _ _ _
  refine ⟨by simp, Nat.le_refl _, by unfold maxLen; omega, fun _ => ⟨w.heap.size, 0, rfl, fun i hi => ?_⟩, fun x hx => ?_, fun e => by cases e⟩
  · rw [Nat.zero_add, LM.at hr i hi]
    congr 2
    rw [List.getD_eq_getElem?_getD, List.getElem?_replicate, if_pos hi]
    rfl
  · have := List.eq_of_mem_replicate hx
    omega
set_option maxHeartbeats 8000000 in
theorem awake18 (w : World) (hG : Glob15 w) : Calls Tryz.prog 6 #[] w fun e w' => e = .returned (.bool true) ∧ Past w w' := by
  have HG := Lib.hid hG
  have HP1 := Lib.hid (fun w => pack18_any (dlt 8380415) (dlt_rng (by decide) (by decide)) 2 3 (by decide) (by decide) w)
  have HP2 := Lib.hid (fun w => pack18_any (dlt 3) (dlt_rng (by decide) (by decide)) 2 3 (by decide) (by decide) w)
  rw [exB_some] at HP1
  rw [no_ex] at HP2
  have HB1 := Lib.hid (builtP 8380415)
  have HB3 := Lib.hid (builtP 3)
  have HUN := Lib.hid (fun g w (h : LM .u8 w g 5 96 fun j => if j < 96 then 255 else 0) => punpack18_any 3 (by decide) (by decide) 2 (by decide) (by decide) _ 96 96 all255 w (slOnes h) (by decide))
  rw [decide_eq_true (show all255.length = 32 * 3 by decide)] at HUN
  have HVE := Lib.hid (fun w => pvec_any 5 w)
  have HKE := Lib.hid (fun w => rkey_any 4 1 (.inl rfl) (by decide) w)
  have HKL : Hid ((keyB 4 1).length = 2560) := Lib.hid (by rw [keyB_len]; decide)
  have HKC := Lib.hid (chkD_key 4 1 (.inl rfl))
  generalize keyB 4 1 = KB at *
  have HT := Lib.hid (fun w (h : GlobE w) => told_any (8, 0) w (.inr ⟨by decide, by decide, by decide⟩) h)
  have HQ8 : Hid (chkQ 3 0 = (8, 0)) := Lib.hid (by decide)
  have HQ0 : Hid (chkQ 4 1312 = (0, 0)) := Lib.hid (by decide)
  have HU0 : Hid (unpF 3 2 all255 0 = 8380412) := Lib.hid unp255
  have HMK := Lib.hid (fun w => make8 96 (by decide) w)
  have HMK2 := Lib.hid (fun w => make8 1312 (by decide) w)
  change Hid (∀ w, (Instr.makeSlice 25 (.int .i64 96) (.int .i64 96)).run Tryz.prog w = _) at HMK
  change Hid (∀ w, (Instr.makeSlice 25 (.int .i64 1312) (.int .i64 1312)).run Tryz.prog w = _) at HMK2
  have HEB := Lib.hid (And.intro exB_len exB_first)
  generalize exB = EB at *
  have HI := Lib.hid infP
  have HO := Lib.hid (fun f => arr_one .u32 256 f)
  have HSZ := Lib.hid (fun f => arr_size .u32 256 f)
  have HC0 : Hid ((arr .u32 256 (unpF 3 2 all255))[0]? = some (.int .u32 8380412)) := Lib.hid (by rw [arr_get .u32 256 _ 0 (by decide), HU0.out])
  have HZ := Lib.hid zeroP
  have HFI := Lib.hid (HI.out (unpF 3 2 all255))
  have HFO := Lib.hid (HO.out (unpF 3 2 all255))
  have HFS : Hid ((arr .u32 256 fun _ => (0 : Int)).size = (arr .u32 256 (unpF 3 2 all255)).size) := Lib.hid (by rw [arr_size, arr_size])
  generalize arr .u32 256 (unpF 3 2 all255) = cU at *
  generalize arr .u32 256 (dlt 8380415) = cD at *
  generalize arr .u32 256 (dlt 3) = cT at *
  clear hG HU0 HI HO
  go_enter Tryz.func6, Tryz.ntmps6
  have hb1 := HB1.out
  go_wp2_with (refine wpList_build_oneP rfl 57 0 _ rfl _ rfl _ hb1 ?_)
  refine (HP1.out w).mono ?_
  rintro e w1 ⟨A1, n1, c1, rfl, hS1, hp1⟩
  have hn1 : 96 = n1 := by rw [← HEB.out.1]; exact hS1.len
  subst hn1
  obtain ⟨b1, o1, rfl, hc1⟩ := hS1.bytes (by decide)
  have hc0 := hc1 0 (by decide)
  rw [HEB.out.2, Nat.add_zero] at hc0
  have HC1 := Lib.hid hc0
  have HW1 := Lib.hid hp1
  clear hb1 hS1 hp1 hc1 hc0 HP1 HB1 HEB
  have hmk := HMK.out
  go_wp2_with fail
  obtain ⟨g, hg⟩ : ∃ g, w1.heap.size = g := ⟨_, rfl⟩
  obtain ⟨w2, hw2⟩ : ∃ W, w1.alloc (.cells (arr .u8 96 fun _ => 0) 5) = W := ⟨_, rfl⟩
  have HL0 : Hid (Past w1 w2 ∧ LM .u8 w2 g 5 96 fun j => if j < 0 then 255 else 0) := Lib.hid ⟨by rw [← hw2]; exact (Below.refl _ _).alloc (Nat.le_refl _) _, by
    rw [← hw2, ← hg]
    exact (show LM .u8 _ _ _ 96 (fun _ => (0 : Int)) from Row.new _ _ _).same fun i _ => (if_neg (Nat.not_lt_zero i)).symm⟩
  have HGG : Hid (w1.heap.size = g) := Lib.hid hg
  rw [hg, hw2]
  clear hg hw2 hmk HMK
  go_loopg [4] 96 (fun q s4 wx => ∃ i : Nat, i ≤ 96 ∧ q = 96 - i ∧ s4 = .int .i64 (i : Int) ∧ Hid (Past w1 wx ∧ LM .u8 wx g 5 96 fun j => if j < i then 255 else 0))
  case atStart => exact ⟨0, Nat.zero_le _, rfl, rfl, HL0⟩
  case round =>
    clear HL0
    obtain ⟨i, hi, hq, rfl, HQ⟩ := hrel
    have HGQ := Lib.hid hq
    clear hq
    have hi0 : (0 : Int) ≤ (i : Int) := by omega
    by_cases hlt : i < 96
    · have hii : (i : Int) < 96 := by omega
      have HLT := Lib.hid hlt
      have hc := HQ.out.2.at i hlt
      have hfr := HQ.out.2.fr i
      have HN : Hid (Past w1 (wr.setCell ⟨g, i, none⟩ (.int .u8 255)) ∧ LM .u8 (wr.setCell ⟨g, i, none⟩ (.int .u8 255)) g 5 96 fun j => if j < i + 1 then 255 else 0) := Lib.hid ⟨HQ.out.1.set (by rw [HGG.out]; exact Nat.le_refl _) _, (HQ.out.2.put i hlt 255).same fun j hj => by
        by_cases e : j = i
        · subst e
          rw [upd_at, if_pos (Nat.lt_succ_self _)]
        · rw [upd_ne _ _ e]
          by_cases h : j < i
          · rw [if_pos h, if_pos (by omega)]
          · rw [if_neg h, if_neg (by omega)]⟩
      clear hlt hi HQ
      go_wp2_with fail
      go_roundg (96 - (i + 1))
      case rel => exact ⟨i + 1, HLT.out, rfl, by go_num, HN⟩
      case measure => rw [HGQ.out]; have := HLT.out; omega
    · obtain rfl : i = 96 := by omega
      have hii : ¬ (96 : Int) < 96 := by omega
      have HP2' := Lib.hid (HW1.out.trans' HQ.out.1)
      have HB1 := Lib.hid ((HQ.out.1.cell (cell_lt HC1.out)).trans HC1.out)
      have HUC := Lib.hid (HUN.out g wr HQ.out.2)
      clear hlt hi HQ HC1 HUN HGG HW1
      go_wp2_with fail
      refine HUC.out.mono ?_
      rintro e w4 ⟨rfl, hp4⟩
      have HW4 := Lib.hid (HP2'.out.trans' hp4)
      have HB4 := Lib.hid ((hp4.cell (cell_lt HB1.out)).trans HB1.out)
      clear hp4 HUC HB1 HP2'
      obtain ⟨u, hu⟩ : ∃ u, w4.heap.size = u := ⟨_, rfl⟩
      have hz := HZ.out
      have hrz : Row (w4.alloc (.cells (arr .u32 256 fun _ => 0) 57)) u 57 (arr .u32 256 fun _ => 0) := by rw [← hu]; exact Row.new _ _ _
      obtain ⟨w5, hw5⟩ : ∃ W, (w4.alloc (.cells (arr .u32 256 fun _ => 0) 57)).setRow u cU = W := ⟨_, rfl⟩
      have hp45 : Past w4 w5 := by rw [← hw5]; exact below_setRow ((Below.refl _ _).alloc (Nat.le_refl _) _) (by omega) _
      have HW5 := Lib.hid (HW4.out.trans' hp45)
      have HR5 : Hid (Row w5 u 57 cU) := Lib.hid (by rw [← hw5]; exact setRow_heap _ u _ _ _ _ hrz)
      have HB5 := Lib.hid ((hp45.cell (cell_lt HB4.out)).trans HB4.out)
      have hi2 := HFI.out
      have ho2 := HFO.out
      have hs2 := HFS.out
      have HWW := Lib.hid hw5
      clear hw5 hp45 HB4 HW4
      generalize arr .u32 256 (fun _ => (0 : Int)) = c0 at *
      go_upto_region 10 with (first | (refine wpList_store_row rfl 57 _ _ rfl u _ rfl rfl _ _ hrz hi2 hs2 ho2 ?_) | fail)
      rw [HWW.out]
      try rw [hu]
      clear HWW hrz hu hz hs2 hi2 ho2
      go_wp2_with fail
      refine (HVE.out _).mono ?_
      rintro e w5' ⟨rfl, hw5'⟩
      rw [hw5']
      clear hw5' HVE
      have hb3 := HB3.out
      go_wp2_with (refine wpList_build_oneP rfl 57 0 _ rfl _ rfl _ hb3 ?_)
      refine (HP2.out w5).mono ?_
      intro e w6 h6
      obtain ⟨rfl, hp6⟩ := h6
      have HW6 := Lib.hid (HW5.out.trans' hp6)
      have HR6 := Lib.hid (HR5.out.past hp6)
      have HB6 := Lib.hid ((hp6.cell (cell_lt HB5.out)).trans HB5.out)
      clear hp6 HR5 HB5 hb3 HB3 HP2 HW5
      have kb := HB6.out
      have ku : w6.cell? ⟨u, 0, none⟩ = some (.int .u32 8380412) := by rw [HR6.out.cell]; exact HC0.out
      change w6.cell? ⟨b1, o1, none⟩ = _ at kb
      go_wp2_with fail
      refine (HKE.out w6).mono ?_
      rintro e w7 ⟨v7, rfl, hown7, hrng7, hp7⟩
      rw [HKL.out] at hown7
      obtain ⟨g7, c7, rfl, _, _, _⟩ := own_some hown7 (by decide)
      have HW7 := Lib.hid (HW6.out.trans' hp7)
      have HCP := Lib.hid (pcheckPrivate_any 4 _ 2560 c7 KB w7 (Sl.of_own hown7 hrng7) (by decide) (HG.out.past HW7.out).1)
      rw [HKC.out, errV_zero] at HCP
      clear hown7 hrng7 hp7 HKE kb ku HR6 HB6
      go_wp2_with fail
      refine HCP.out.mono ?_
      rintro e w8 ⟨rfl, hp8⟩
      have HW8 := Lib.hid (HW7.out.trans' hp8)
      have hmk2 := HMK2.out
      clear hp8 HCP
      go_wp2_with fail
      obtain ⟨w9, hw9⟩ : ∃ W, w8.alloc (.cells (arr .u8 1312 fun _ => 0) 5) = W := ⟨_, rfl⟩
      have HW9 : Hid (Past w w9) := Lib.hid (by rw [← hw9]; exact HW8.out.alloc HW8.out.size _)
      rw [hw9]
      have HC9 := Lib.hid (pcheckPublic_any 4 (some ⟨w8.heap.size, 0, none⟩) 1312 1312 (by decide) w9 (HG.out.past HW9.out).1)
      change Hid (Calls _ _ _ _ fun e w' => e = .returned (errV (chkQ 4 1312)) ∧ _) at HC9
      rw [HQ0.out, errV_zero] at HC9
      clear hw9 hmk2 HMK2
      refine HC9.out.mono ?_
      rintro e w10 ⟨rfl, hp10⟩
      have HW10 := Lib.hid (HW9.out.trans' hp10)
      clear hp10 HC9
      have HC11 := Lib.hid (pcheckPublic_any 3 none 0 0 (by decide) w10 (HG.out.past HW10.out).1)
      change Hid (Calls _ _ _ _ fun e w' => e = .returned (errV (chkQ 3 0)) ∧ _) at HC11
      rw [HQ8.out] at HC11
      go_wp2_with fail
      refine HC11.out.mono ?_
      rintro e w11 ⟨rfl, hp11⟩
      have HW11 := Lib.hid (HW10.out.trans' hp11)
      have HT11 := Lib.hid (HT.out w11 (HG.out.past HW11.out).2)
      obtain ⟨V, hV⟩ : ∃ V, errV (8, 0) = V := ⟨_, rfl⟩
      rw [hV] at HT11 ⊢
      change Hid (Calls _ _ #[V, .agg #[.int .i64 8, .int .i64 0]] _ _) at HT11
      clear hp11 HC11 hV
      go_wp2_with fail
      refine HT11.out.mono ?_
      rintro e w12 ⟨rfl, hp12⟩
      have HW12 := Lib.hid (HW11.out.trans' hp12)
      clear hp12 HT11
      go_wp2_with fail
      go_ret
      exact ⟨rfl, HW12.out⟩
end Go.Proofs.YteflpbkdnebopaaGreatDoor
