/- The program's only, ByName, ByCOSE, ByType, ByOID, BySize. -/
import Derived.Test.YtnjoccmjembppaaDoorPm13I
namespace Go.Proofs.YtnjoccmjembppaaDoor
open Go.RowKit Go.Shelf
set_option linter.unusedVariables false

/-- The first algorithm that a predicate fits, 0 if there is none. -/
def firstA (p : Int → Bool) : Int := (algs p 25).headD 0
theorem algs_mem {p : Int → Bool} {k : Nat} {a : Int} (h : a ∈ algs p k) : 1 ≤ a ∧ a ≤ (k : Int) ∧ p a = true := by
  unfold algs at h
  obtain ⟨h1, h2⟩ := List.mem_filter.1 h
  obtain ⟨j, hj, rfl⟩ := List.mem_map.1 h1
  have := List.mem_range.1 hj
  exact ⟨by omega, by omega, h2⟩
/-- What Get answered, handed on into another cell. -/
theorem GetP.move {a : Int} {w w2 : World} {g : Nat} {e : Ending} (h : GetP a w e w2) (hg : Row w2 g 26 zeroC) :
    ∃ r o ok, e = .returned (.tuple #[setV r o, .bool ok]) ∧ o.oneCell' = true ∧ ∀ w0, Past w0 w2 → w0.heap.size ≤ g → GetP a w0 (.returned (.tuple #[setV r o, .bool ok])) (w2.setRow g (setC r o)) := by
  obtain ⟨h1, h2⟩ := h
  by_cases hin : 1 ≤ a ∧ a ≤ 25
  · rw [if_pos hin] at h1
    obtain ⟨A, c, rfl, hS⟩ := h1
    refine ⟨_, _, _, rfl, rfl, fun w0 h0 hb => ⟨?_, past_row13 h0 hb _⟩⟩
    rw [if_pos hin]
    exact ⟨A, c, rfl, hS.only13 (not_in_set hS (oid_some hin).2.2.2.2 (show Row w2 g 26 (setC zero13 (.slice none 0 0)) from hg) (by intro x e; cases e)) (setRow_grown13 _ _ _)⟩
  · rw [if_neg hin] at h1
    subst h1
    refine ⟨_, _, _, rfl, rfl, fun w0 h0 hb => ⟨?_, past_row13 h0 hb _⟩⟩
    rw [if_neg hin]
set_option maxHeartbeats 4000000 in
set_option maxRecDepth 100000 in
theorem only_any (fn : FuncId) (eg : ∀ args w, (callFunc fn args).run Tryd.prog w = .ok (.enter fn args) w) (b : Value) (p : Int → Bool) (w : World) (hG : Glob13 w)
    (hc : ∀ (a : Int) (W : World), 1 ≤ a → a ≤ 25 → Past w W → Calls Tryd.prog fn #[setV (row13 a) (.slice none 0 0), .string (row13 a).text, b] W fun e w' => e = .returned (.bool (p a)) ∧ Past W w') :
    Calls Tryd.prog 24 #[.func (.func fn) #[] #[b]] w (GetP (firstA p) w) := by
  obtain ⟨w1, hw1⟩ : ∃ w1, w1 = w.alloc (.cells zeroC 26) := ⟨_, rfl⟩
  obtain ⟨g, hg⟩ : ∃ g, w.heap.size = g := ⟨_, rfl⟩
  have hp1 : Past w w1 := by rw [hw1]; exact past_alloc13 _ _
  have hr1 : Row w1 g 26 zeroC := by rw [hw1, ← hg]; exact Row.new _ _ _
  have H1 : Hid (Past w w1 ∧ Row w1 g 26 zeroC ∧ w.heap.size = g) := Lib.hid ⟨hp1, hr1, hg⟩
  have HAL := Lib.hid (all1_any fn eg b p w1 (hG.past hp1) (fun a W h1 h2 hp => hc a W h1 h2 (hp1.trans' hp)))
  have HG := Lib.hid hG
  have HW1 := Lib.hid hw1
  have HF : Hid (firstA p = (algs p 25).headD 0) := Lib.hid rfl
  have HMem : Hid (∀ a ∈ algs p 25, 1 ≤ a ∧ a ≤ 25) := Lib.hid (fun a ha => by have := algs_mem ha; omega)
  have HLE : Hid ((algs p 25).length ≤ 25) := Lib.hid (algs_len p 25)
  rw [HF.out]
  clear HF hw1 hp1 hr1 hc hG
  obtain ⟨L, hL⟩ : ∃ L, algs p 25 = L := ⟨_, rfl⟩
  rw [hL] at HAL HMem HLE ⊢
  clear hL
  go_enter Tryd.func24, Tryd.ntmps24
  go_upto_region 1 with (fail)
  rw [← HW1.out]
  try rw [hg]
  clear HW1 hg
  go_wp2_with fail
  refine (HAL.out).mono ?_
  rintro e w2 ⟨A, c, rfl, hown, hp⟩
  have H2 : Hid (Past w w2 ∧ Row w2 g 26 zeroC ∧ w.heap.size = g) := Lib.hid ⟨H1.out.1.trans' hp, H1.out.2.1.past hp, H1.out.2.2⟩
  clear hp HAL H1
  cases L with
  | nil =>
    have hrow := H2.out.2.1
    clear hown
    go_wp2_with (refine wpList_store_row rfl 26 _ _ rfl g _ rfl rfl _ _ hrow (resS _ (by rfl)) rfl (by simp [Value.oneCell']) ?_)
    refine bodyPost_ret (results_cr rfl _ _ ⟨g, 0, none⟩ _ rfl (load_set _ g _ (setRow_heap _ g _ _ _ _ hrow) (by rfl))) (by rfl) ?_
    have h0 : GetP 0 w (.returned (.tuple #[setV zero13 (.slice none 0 0), .bool false])) (w2.setRow g zeroC) := by
      refine ⟨?_, past_row13 H2.out.1 (by rw [H2.out.2.2]; exact Nat.le_refl _) _⟩
      rw [if_neg (by omega)]
    exact h0
  | cons a l =>
    have ha := HMem.out a (by simp)
    have hc0 : w2.cell? (⟨(match A with | some q => q.block | none => 0), 0, none⟩) = some (.int .i64 a) ∧ ∃ q, A = some ⟨q, 0, none⟩ := by
      rcases hown.2 with ⟨_, e⟩ | ⟨q, cap, cur, e1, e2, e3, e4, e5, e6, e7⟩
      · simp at e
      · injection e1 with a1 a2 a3
        subst a1
        refine ⟨?_, q, rfl⟩
        have := hown.cells (g := q) rfl 0 (.int .i64 a) (by simp)
        rwa [add_none, Nat.zero_add] at this
    obtain ⟨hc0, q, rfl⟩ := hc0
    simp only at hc0
    have hl0 : (0 : Int) < ((a :: l).length : Int) := by rw [List.length_cons]; omega
    have hlb : (((a :: l).length : Int) == 0) = false := by simp; omega
    have hle : ((a :: l).length : Int) ≤ 25 := by have := HLE.out; omega
    obtain ⟨N, hN⟩ : ∃ N, (a :: l).length = N := ⟨_, rfl⟩
    rw [hN] at hl0 hlb hle ⊢
    have hl1 : ¬ (N : Int) = 0 := by omega
    have HGA := Lib.hid (get_any a w2 (HG.out.past H2.out.1))
    clear hown hN
    go_wp2_with fail
    refine (HGA.out).mono ?_
    intro e w3 he
    have hp3 := he.2
    obtain ⟨r, o, ok, rfl, ho, hmv⟩ := he.move (H2.out.2.1.past hp3)
    have H3 : Hid (Past w w3 ∧ Row w3 g 26 zeroC ∧ w.heap.size = g) := Lib.hid ⟨H2.out.1.trans' hp3, H2.out.2.1.past hp3, H2.out.2.2⟩
    have HMV := Lib.hid (hmv w H3.out.1 (by rw [H3.out.2.2]; exact Nat.le_refl _))
    have hrow := H3.out.2.1
    have hone : (setC r o).all (·.oneCell') = true := by simp [Value.oneCell'] at ho ⊢; exact ho
    clear hp3 hmv he HGA H2
    unfold setV
    go_wp2_with (refine wpList_store_row rfl 26 _ _ rfl g _ rfl rfl _ _ hrow (resS _ (by rfl)) rfl hone ?_)
    refine bodyPost_ret (results_cr rfl _ _ ⟨g, 0, none⟩ _ rfl (load_set _ g _ (setRow_heap _ g _ _ _ _ hrow) (by rfl))) (by rfl) ?_
    exact HMV.out

set_option maxHeartbeats 4000000 in
set_option maxRecDepth 100000 in
theorem byName_any (nm : ByteArray) (w : World) (hG : Glob13 w) : Calls Tryd.prog 12 #[.string nm] w (GetP (firstA (pName nm)) w) := by
  obtain ⟨b, hb⟩ : ∃ b, w.heap.size = b := ⟨_, rfl⟩
  obtain ⟨w0, hw0⟩ : ∃ w0, w0 = w.alloc (.cells #[.string nm] 9) := ⟨_, rfl⟩
  have hp0 : Past w w0 := by rw [hw0]; exact past_alloc13 _ _
  have hr0 : Row w0 b 9 #[.string nm] := by rw [hw0, ← hb]; exact Row.new _ _ _
  have hz0 : w0.heap.size = b + 1 := by rw [hw0, ← hb]; simp
  obtain ⟨w1, hw1⟩ : ∃ w1, w1 = w0.alloc (.cells zeroC 26) := ⟨_, rfl⟩
  have hp1 : Past w0 w1 := by rw [hw1]; exact past_alloc13 _ _
  have hr1 : Row w1 (b + 1) 26 zeroC := by rw [hw1, ← hz0]; exact Row.new _ _ _
  obtain ⟨g, hg⟩ : ∃ g, b + 1 = g := ⟨_, rfl⟩
  have hr01 := hr0.past hp1
  have H1 : Hid (Past w w1 ∧ Row w1 g 26 zeroC ∧ w.heap.size ≤ g) := Lib.hid ⟨hp0.trans' hp1, by rw [← hg]; exact hr1, by omega⟩
  have HON := Lib.hid (only_any 25 (enters_of Tryd.func25 (by kernel_rfl) rfl) (.pointer (some ⟨b, 0, none⟩)) (pName nm) w1 (hG.past H1.out.1) (fun a W _ _ hp => nameC a b nm W ((hr01.past hp).cell 0)))
  have HW0 := Lib.hid hw0
  have HW1 := Lib.hid hw1
  have HGS := Lib.hid hg
  clear hp0 hr0 hz0 hp1 hr1 hr01 hw0 hw1 hg hG
  go_enter Tryd.func12, Tryd.ntmps12
  go_upto_region 1 with (fail)
  rw [← HW0.out]
  rw [← HW1.out]
  try rw [hb]
  try rw [HGS.out]
  clear HW0 HW1 hb HGS
  go_wp2_with fail
  refine (HON.out).mono ?_
  intro e w3 he
  have hp3 := he.2
  obtain ⟨r, o, ok, rfl, ho, hmv⟩ := he.move (H1.out.2.1.past hp3)
  have H3 : Hid (Past w w3 ∧ Row w3 g 26 zeroC ∧ w.heap.size ≤ g) := Lib.hid ⟨H1.out.1.trans' hp3, H1.out.2.1.past hp3, H1.out.2.2⟩
  have HMV := Lib.hid (hmv w H3.out.1 H3.out.2.2)
  have hrow := H3.out.2.1
  have hone : (setC r o).all (·.oneCell') = true := by simp [Value.oneCell'] at ho ⊢; exact ho
  clear hp3 hmv he HON H1
  unfold setV
  go_wp2_with (refine wpList_store_row rfl 26 _ _ rfl g _ rfl rfl _ _ hrow (resS _ (by rfl)) rfl hone ?_)
  refine bodyPost_ret (results_cr rfl _ _ ⟨g, 0, none⟩ _ rfl (load_set _ g _ (setRow_heap _ g _ _ _ _ hrow) (by rfl))) (by rfl) ?_
  exact HMV.out

set_option maxHeartbeats 4000000 in
set_option maxRecDepth 100000 in
theorem byCose_any (n : Int) (w : World) (hG : Glob13 w) : Calls Tryd.prog 13 #[.int .i64 n] w (GetP (firstA (pCose n)) w) := by
  obtain ⟨b, hb⟩ : ∃ b, w.heap.size = b := ⟨_, rfl⟩
  obtain ⟨w0, hw0⟩ : ∃ w0, w0 = w.alloc (.cells #[.int .i64 n] 2) := ⟨_, rfl⟩
  have hp0 : Past w w0 := by rw [hw0]; exact past_alloc13 _ _
  have hr0 : Row w0 b 2 #[.int .i64 n] := by rw [hw0, ← hb]; exact Row.new _ _ _
  have hz0 : w0.heap.size = b + 1 := by rw [hw0, ← hb]; simp
  obtain ⟨w1, hw1⟩ : ∃ w1, w1 = w0.alloc (.cells zeroC 26) := ⟨_, rfl⟩
  have hp1 : Past w0 w1 := by rw [hw1]; exact past_alloc13 _ _
  have hr1 : Row w1 (b + 1) 26 zeroC := by rw [hw1, ← hz0]; exact Row.new _ _ _
  obtain ⟨g, hg⟩ : ∃ g, b + 1 = g := ⟨_, rfl⟩
  have hr01 := hr0.past hp1
  have H1 : Hid (Past w w1 ∧ Row w1 g 26 zeroC ∧ w.heap.size ≤ g) := Lib.hid ⟨hp0.trans' hp1, by rw [← hg]; exact hr1, by omega⟩
  have HON := Lib.hid (only_any 26 (enters_of Tryd.func26 (by kernel_rfl) rfl) (.pointer (some ⟨b, 0, none⟩)) (pCose n) w1 (hG.past H1.out.1) (fun a W _ _ hp => coseC a b n W ((hr01.past hp).cell 0)))
  have HW0 := Lib.hid hw0
  have HW1 := Lib.hid hw1
  have HGS := Lib.hid hg
  clear hp0 hr0 hz0 hp1 hr1 hr01 hw0 hw1 hg hG
  go_enter Tryd.func13, Tryd.ntmps13
  go_upto_region 1 with (fail)
  rw [← HW0.out]
  rw [← HW1.out]
  try rw [hb]
  try rw [HGS.out]
  clear HW0 HW1 hb HGS
  go_wp2_with fail
  refine (HON.out).mono ?_
  intro e w3 he
  have hp3 := he.2
  obtain ⟨r, o, ok, rfl, ho, hmv⟩ := he.move (H1.out.2.1.past hp3)
  have H3 : Hid (Past w w3 ∧ Row w3 g 26 zeroC ∧ w.heap.size ≤ g) := Lib.hid ⟨H1.out.1.trans' hp3, H1.out.2.1.past hp3, H1.out.2.2⟩
  have HMV := Lib.hid (hmv w H3.out.1 H3.out.2.2)
  have hrow := H3.out.2.1
  have hone : (setC r o).all (·.oneCell') = true := by simp [Value.oneCell'] at ho ⊢; exact ho
  clear hp3 hmv he HON H1
  unfold setV
  go_wp2_with (refine wpList_store_row rfl 26 _ _ rfl g _ rfl rfl _ _ hrow (resS _ (by rfl)) rfl hone ?_)
  refine bodyPost_ret (results_cr rfl _ _ ⟨g, 0, none⟩ _ rfl (load_set _ g _ (setRow_heap _ g _ _ _ _ hrow) (by rfl))) (by rfl) ?_
  exact HMV.out

set_option maxHeartbeats 4000000 in
set_option maxRecDepth 100000 in
theorem byType_any (n : Int) (w : World) (hG : Glob13 w) : Calls Tryd.prog 14 #[.int .u32 n] w (GetP (firstA (pType n)) w) := by
  obtain ⟨b, hb⟩ : ∃ b, w.heap.size = b := ⟨_, rfl⟩
  obtain ⟨w0, hw0⟩ : ∃ w0, w0 = w.alloc (.cells #[.int .u32 n] 24) := ⟨_, rfl⟩
  have hp0 : Past w w0 := by rw [hw0]; exact past_alloc13 _ _
  have hr0 : Row w0 b 24 #[.int .u32 n] := by rw [hw0, ← hb]; exact Row.new _ _ _
  have hz0 : w0.heap.size = b + 1 := by rw [hw0, ← hb]; simp
  obtain ⟨w1, hw1⟩ : ∃ w1, w1 = w0.alloc (.cells zeroC 26) := ⟨_, rfl⟩
  have hp1 : Past w0 w1 := by rw [hw1]; exact past_alloc13 _ _
  have hr1 : Row w1 (b + 1) 26 zeroC := by rw [hw1, ← hz0]; exact Row.new _ _ _
  obtain ⟨g, hg⟩ : ∃ g, b + 1 = g := ⟨_, rfl⟩
  have hr01 := hr0.past hp1
  have H1 : Hid (Past w w1 ∧ Row w1 g 26 zeroC ∧ w.heap.size ≤ g) := Lib.hid ⟨hp0.trans' hp1, by rw [← hg]; exact hr1, by omega⟩
  have HON := Lib.hid (only_any 27 (enters_of Tryd.func27 (by kernel_rfl) rfl) (.pointer (some ⟨b, 0, none⟩)) (pType n) w1 (hG.past H1.out.1) (fun a W _ _ hp => typeC a b n W ((hr01.past hp).cell 0)))
  have HW0 := Lib.hid hw0
  have HW1 := Lib.hid hw1
  have HGS := Lib.hid hg
  clear hp0 hr0 hz0 hp1 hr1 hr01 hw0 hw1 hg hG
  go_enter Tryd.func14, Tryd.ntmps14
  go_upto_region 1 with (fail)
  rw [← HW0.out]
  rw [← HW1.out]
  try rw [hb]
  try rw [HGS.out]
  clear HW0 HW1 hb HGS
  go_wp2_with fail
  refine (HON.out).mono ?_
  intro e w3 he
  have hp3 := he.2
  obtain ⟨r, o, ok, rfl, ho, hmv⟩ := he.move (H1.out.2.1.past hp3)
  have H3 : Hid (Past w w3 ∧ Row w3 g 26 zeroC ∧ w.heap.size ≤ g) := Lib.hid ⟨H1.out.1.trans' hp3, H1.out.2.1.past hp3, H1.out.2.2⟩
  have HMV := Lib.hid (hmv w H3.out.1 H3.out.2.2)
  have hrow := H3.out.2.1
  have hone : (setC r o).all (·.oneCell') = true := by simp [Value.oneCell'] at ho ⊢; exact ho
  clear hp3 hmv he HON H1
  unfold setV
  go_wp2_with (refine wpList_store_row rfl 26 _ _ rfl g _ rfl rfl _ _ hrow (resS _ (by rfl)) rfl hone ?_)
  refine bodyPost_ret (results_cr rfl _ _ ⟨g, 0, none⟩ _ rfl (load_set _ g _ (setRow_heap _ g _ _ _ _ hrow) (by rfl))) (by rfl) ?_
  exact HMV.out

end Go.Proofs.YtnjoccmjembppaaDoor
