/- The reference's Public, Unpack and Check. -/
import Derived.Test.YteflpbkdnebopaaGreatDoorR18A
import Derived.Test.YteflpbkdnebopaaGreatDoorSg18
import Derived.Test.YteflpbkdnebopaaGreatDoorRef5O
import Derived.Laws.CopyOwn
import Derived.Handy
import Derived.Laws.ResultCell
namespace Go.Proofs.YteflpbkdnebopaaGreatDoor
open Go.RowKit
set_option linter.unusedVariables false
set_option maxRecDepth 100000

/-- What lies behind the call of Vectors: the result's block, and the three numbers. -/
theorem vec_after {a : Int} {w w1 : World} {e : Ending} {t : TypeId} {cs : Array Value} (h : VecP a (w.alloc (.cells cs t)) e w1) :
    ∃ b, e = .returned (.slice (some ⟨b, 0, none⟩) 3 3) ∧ Row w1 b 3 #[.int .i64 (kD a : Int), .int .i64 (lD a : Int), .int .i64 (eD a : Int)] ∧ Past w w1 ∧ Row w1 w.heap.size t cs := by
  obtain ⟨b, h1, h2, h3⟩ := h
  exact ⟨b, h1, h2, (show Past w (w.alloc (.cells cs t)) from (Below.refl _ _).alloc (Nat.le_refl _) _).trans' h3, (Row.new w t cs).past h3⟩
theorem kD_zero {a : Int} : kD a = 0 ↔ (a < 4 ∨ 6 < a) := by
  unfold kD
  split
  · omega
  · split
    · omega
    · split <;> omega
theorem chkQ_def (a n : Int) : chkQ a n = if kD a = 0 then (8, 0) else if n ≠ 32 + 320 * (kD a : Int) then (6, 0) else (0, 0) := by
  unfold chkQ
  simp only [kD_zero]
set_option maxHeartbeats 4000000 in
theorem rpublic18_any (a : Int) (A : Option Addr) (n c : Nat) (hn : n ≤ 10000) (w : World) :
    Calls Tryz.prog 15 #[.int .i64 a, .slice A n c] w fun e w' => e = .returned (.agg (resC (chkQ a (n : Int)))) ∧ Past w w' := by
  obtain ⟨g, hg⟩ : ∃ g, w.heap.size = g := ⟨_, rfl⟩
  have HV := Lib.hid (rvec_any a (w.alloc (.cells (resC (0, 0)) 37)))
  have HX := Lib.hid (chkQ_def a n)
  have hk := kD_le a
  have HVA := Lib.hid (fun e w1 => @vec_after a w w1 e 37 (resC (0, 0)))
  have HGS : Hid (w.heap.size ≤ g) := Lib.hid (by omega)
  rw [hg] at HVA
  generalize chkQ a (n : Int) = R at *
  generalize kD a = k at *
  obtain ⟨w0, hw0⟩ : ∃ W, w.alloc (.cells #[.int .i64 0, .int .i64 0] 37) = W := ⟨_, rfl⟩
  change Hid (Calls _ _ _ (w.alloc (.cells #[.int .i64 0, .int .i64 0] 37)) (VecP a (w.alloc (.cells #[.int .i64 0, .int .i64 0] 37)))) at HV
  change Hid (∀ e w1, VecP a (w.alloc (.cells #[.int .i64 0, .int .i64 0] 37)) e w1 → _) at HVA
  rw [hw0] at HV HVA
  have HW0 := Lib.hid hw0
  obtain ⟨m, hm⟩ : ∃ m, 32 + 320 * k = m := ⟨_, rfl⟩
  have HWW : Hid (IntKind.i64.wrap (320 * (k : Int)) = 320 * (k : Int) ∧ IntKind.i64.wrap (32 + 320 * (k : Int)) = (m : Int) ∧ 32 + 320 * (k : Int) = (m : Int)) := Lib.hid ⟨by rw [IntKind.wrap_i64]; omega, by rw [IntKind.wrap_i64]; omega, by omega⟩
  have HM := Lib.hid hm
  clear hm hw0
  go_enter Tryz.func15, Tryz.ntmps15
  go_upto_region 1 with (fail)
  rw [HW0.out]
  try rw [hg]
  clear HW0 hg
  go_wp2_with fail
  refine HV.out.mono ?_
  intro e w1 h
  obtain ⟨b, rfl, hrb, hp1, hrg⟩ := HVA.out e w1 h
  have HP1 := Lib.hid hp1
  have HR1 := Lib.hid hrg
  have k0 : w1.cell? ⟨b, 0, none⟩ = some (.int .i64 (k : Int)) := by rw [hrb.cell]; rfl
  clear h hp1 hrg hrb HV HVA
  by_cases h0 : k = 0
  · have HE : Hid (R = (8, 0)) := Lib.hid (by rw [HX.out, if_pos h0])
    have hk0 : (k : Int) = 0 := by omega
    rw [hk0] at k0
    clear h0 hk0 HWW HM HX hk
    have hr1 := HR1.out
    have hi2 := inf15 (8, 0)
    have ho2 : (resC (8, 0)).all (·.oneCell') = true := by simp [resC, Value.oneCell']
    go_wp2_with (refine wpList_store_row rfl 37 _ _ rfl g _ rfl rfl _ _ hr1 hi2 (by rfl) ho2 ?_)
    refine bodyPost_ret (results_cell_row rfl _ _ g _ (resC (8, 0)) (0, 0) _ rfl (setRow_heap _ g _ (resC (8, 0)) _ _ hr1) Tryz.underlying37 rfl hi2) (by rfl) ?_
    exact ⟨by rw [HE.out], below_setRow HP1.out HGS.out _⟩
  · have hk0 : ¬ (k : Int) = 0 := by omega
    obtain ⟨h1, h2, h3⟩ := HWW.out
    have hE := HX.out
    rw [if_neg h0, h3] at hE
    by_cases hnm : (n : Int) = (m : Int)
    · rw [if_neg (by omega)] at hE
      have HE := Lib.hid hE
      clear h0 hE h3 HX hk
      have hr1 := HR1.out
      have hi2 := inf15 (0, 0)
      have ho2 : (resC (0, 0)).all (·.oneCell') = true := by simp [resC, Value.oneCell']
      go_wp2_with (refine wpList_store_row rfl 37 _ _ rfl g _ rfl rfl _ _ hr1 hi2 (by rfl) ho2 ?_)
      refine bodyPost_ret (results_cell_row rfl _ _ g _ (resC (0, 0)) (0, 0) _ rfl (setRow_heap _ g _ (resC (0, 0)) _ _ hr1) Tryz.underlying37 rfl hi2) (by rfl) ?_
      exact ⟨by rw [HE.out], below_setRow HP1.out HGS.out _⟩
    · rw [if_pos hnm] at hE
      have HE := Lib.hid hE
      clear h0 hE h3 HX hk
      have hr1 := HR1.out
      have hi2 := inf15 (6, 0)
      have ho2 : (resC (6, 0)).all (·.oneCell') = true := by simp [resC, Value.oneCell']
      go_wp2_with (refine wpList_store_row rfl 37 _ _ rfl g _ rfl rfl _ _ hr1 hi2 (by rfl) ho2 ?_)
      refine bodyPost_ret (results_cell_row rfl _ _ g _ (resC (6, 0)) (0, 0) _ rfl (setRow_heap _ g _ (resC (6, 0)) _ _ hr1) Tryz.underlying37 rfl hi2) (by rfl) ?_
      exact ⟨by rw [HE.out], below_setRow HP1.out HGS.out _⟩

theorem zero256 (w : World) : (zeroValue 56).run Tryz.prog w = .ok (.agg (arr .u32 256 fun _ => 0)) w := by kernel_rfl
theorem inf256 (f : Nat → Int) : (Tryz.prog.info? 56).map (·.size) = some (arr .u32 256 f).size := by rw [arr_size]; kernel_rfl
theorem load_256 (w : World) (g : Nat) (cs : Array Value) (hg : w.heap[g]? = some (.cells cs 56)) (h : (Tryz.prog.info? 56).map (·.size) = some cs.size) : (loadVar 56 ⟨g, 0, none⟩).run Tryz.prog w = .ok (.agg cs) w :=
  run_loadVar_row w g 56 56 cs (0, 0) _ hg Tryz.underlying56 rfl h
/-- Two new blocks: the result's, and one that is written to. -/
def TwoZ (w wx : World) (g : Nat) (F : Nat → Int) : Prop := Past w wx ∧ LM .u32 wx g 56 256 (fun _ => 0) ∧ LM .u32 wx (g + 1) 56 256 F
theorem TwoZ.new (w : World) : TwoZ w ((w.alloc (.cells (arr .u32 256 fun _ => 0) 56)).alloc (.cells (arr .u32 256 fun _ => 0) 56)) w.heap.size fun _ => 0 := by
  refine ⟨((Below.refl _ _).alloc (Nat.le_refl _) _).alloc (by simp) _, (Row.new w _ _).alloc _, ?_⟩
  have := Row.new (w.alloc (.cells (arr .u32 256 fun _ => 0) 56)) 56 (arr .u32 256 fun _ => 0)
  simpa using this
theorem TwoZ.past {w wx wy : World} {g : Nat} {F : Nat → Int} (h : TwoZ w wx g F) (hp : Past wx wy) : TwoZ w wy g F := ⟨h.1.trans' hp, Row.past h.2.1 hp, Row.past h.2.2 hp⟩
theorem TwoZ.put {w wx : World} {g : Nat} {F : Nat → Int} (h : TwoZ w wx g F) (hg : w.heap.size ≤ g) (i : Nat) (hi : i < 256) (v : Int) : TwoZ w (wx.setCell ⟨g + 1, i, none⟩ (.int .u32 v)) g (upd F i v) :=
  ⟨h.1.set (by show _ ≤ g + 1; omega) _, Row.setOther h.2.1 (by omega) _ _, h.2.2.put i hi v⟩
theorem SlK.setOther {w : World} {b o n c g i : Nat} {k : IntKind} {ls : List Int} (h : SlK k w (some ⟨b, o, none⟩) n c ls) (hne : b ≠ g) (v : Value) : SlK k (w.setCell ⟨g, i, none⟩ v) (some ⟨b, o, none⟩) n c ls :=
  ⟨h.len, h.cap, h.big, fun hn => by
    obtain ⟨b', o', e, hc⟩ := h.cells hn
    simp only [Option.some.injEq, Addr.mk.injEq, and_true] at e
    obtain ⟨rfl, rfl⟩ := e
    exact ⟨b, o, rfl, fun j hj => by
      rw [World.cell?_setCell_other]
      · exact hc j hj
      · intro e2
        injection e2 with e2
        exact hne e2.symm⟩, h.nil0⟩
set_option maxHeartbeats 4000000 in
theorem runpack18_any (D : Nat) (d1 : 1 ≤ D) (d2 : D ≤ 20) (top : Int) (t0 : 0 ≤ top) (t1 : top ≤ 1048576) (A : Option Addr) (L c : Nat) (xs : List Int) (w : World) (hS : Sl w A L c xs) (hL : L ≤ 10000) :
    Calls Tryz.prog 23 #[.slice A L c, .int .i64 top, .int .i64 (D : Int)] w fun e w' => e = .returned (.tuple #[.agg (arr .u32 256 (unpF D top xs)), .bool (decide (xs.length = 32 * D))]) ∧ Past w w' := by
  obtain ⟨g, hg⟩ : ∃ g, w.heap.size = g := ⟨_, rfl⟩
  obtain ⟨w0, hw0⟩ : ∃ W, W = (w.alloc (.cells (arr .u32 256 fun _ => 0) 56)).alloc (.cells (arr .u32 256 fun _ => 0) 56) := ⟨_, rfl⟩
  have H0 : Hid (TwoZ w w0 g fun _ => 0) := Lib.hid (by
    have h := TwoZ.new w
    rw [hg, ← hw0] at h
    exact h)
  have HU := Lib.hid (runpack_own (D : Int) 256 A L c xs w0 (hS.past H0.out.1) hL)
  rw [unpackW D d1 (by omega) xs] at HU
  have HGE : Hid (w.heap.size = g) := Lib.hid hg
  have HW0 := Lib.hid hw0
  have HGS : Hid (w.heap.size ≤ g) := Lib.hid (by omega)
  have HD := Lib.hid (And.intro d1 d2)
  have HTB := Lib.hid (And.intro t0 t1)
  have HI := Lib.hid inf256
  have HO := Lib.hid (arr_one .u32 256)
  have HZ := Lib.hid zero256
  obtain ⟨zs, hzs⟩ : ∃ zs, arr .u32 256 (fun _ => (0 : Int)) = zs := ⟨_, rfl⟩
  have HZS := Lib.hid hzs
  rw [hzs] at HZ
  clear hw0 hS hL d1 d2 t0 t1 hzs
  go_enter Tryz.func23, Tryz.ntmps23
  have hz := HZ.out
  go_upto_region 2 with (fail)
  clear hz HZ
  rw [← HZS.out, ← HW0.out]
  try rw [hg]
  clear HW0 hg
  go_wp2_with fail
  refine HU.out.mono ?_
  intro e w1 h
  clear HU
  by_cases hl : xs.length = 32 * D
  · rw [if_pos hl] at h
    obtain ⟨A2, n2, c2, rfl, hown, hp2⟩ := h
    have hn2 : 256 = n2 := by
      have := (SlK.of_own hown).len
      rw [nums_len] at this
      exact this
    subst hn2
    obtain ⟨b2, c2', hA2, hb2, _, _⟩ := own_some hown (by decide)
    simp only [Value.slice.injEq, true_and] at hA2
    obtain ⟨rfl, rfl⟩ := hA2
    have HS2 := Lib.hid (SlK.of_own hown)
    have H1 := Lib.hid (H0.out.past hp2)
    have HNE : Hid (b2 ≠ g + 1) := Lib.hid (by have := H0.out.2.2.lt; omega)
    have HPL : Hid (∀ j, j < 256 → (nums D xs 256).getD j 0 = nW D xs j) := Lib.hid (fun j hj => numsW D xs 256 j hj)
    have HNB : Hid (∀ j, 0 ≤ nW D xs j ∧ nW D xs j < 1048576) := Lib.hid (fun j => by
      have h1 := nW_rng D xs j
      have h2 := pow_le2 HD.out.2
      omega)
    have HUF : Hid (unpF D top xs = plyD D top xs) := Lib.hid (by unfold unpF; rw [if_pos hl])
    have HDC : Hid (decide (xs.length = 32 * D) = true) := Lib.hid (decide_eq_true hl)
    clear hown hp2 hl hb2 H0
    go_wp2_with fail
    go_loopg [11] 256 (fun q s11 wx => ∃ i : Nat, i ≤ 256 ∧ q = 256 - i ∧ s11 = .int .i64 (i : Int) ∧ Hid (∃ F, TwoZ w wx g F ∧ SlK .u32 wx (some ⟨b2, 0, none⟩) 256 c2 (nums D xs 256) ∧ ∀ j, j < i → F j = plyD D top xs j))
    case atStart => exact ⟨0, Nat.zero_le _, rfl, rfl, Lib.hid ⟨_, H1.out, HS2.out, fun j hj => absurd hj (Nat.not_lt_zero _)⟩⟩
    case round =>
      clear H1 HS2
      obtain ⟨i, hi, hq, rfl, HQ⟩ := hrel
      have HGQ := Lib.hid hq
      clear hq
      have hi0 : (0 : Int) ≤ (i : Int) := by omega
      by_cases hlt : i < 256
      · have hii : (i : Int) < 256 := by omega
        have HLT := Lib.hid hlt
        obtain ⟨F, hT, hSK, hF⟩ := HQ.out
        obtain ⟨b3, o3, e3, hc3⟩ := hSK.cells (by decide)
        simp only [Option.some.injEq, Addr.mk.injEq, and_true] at e3
        obtain ⟨rfl, rfl⟩ := e3
        have hx := hc3 i hlt
        rw [HPL.out i hlt, Nat.zero_add] at hx
        obtain ⟨p0, p1⟩ := HNB.out i
        obtain ⟨p, hp⟩ : ∃ p, nW D xs i = p := ⟨_, rfl⟩
        rw [hp] at hx p0 p1
        obtain ⟨t0, t1⟩ := HTB.out
        obtain ⟨z, hz⟩ : ∃ z, top - p = z := ⟨_, rfl⟩
        obtain ⟨z2, hz2⟩ : ∃ z2, z + 8380417 = z2 := ⟨_, rfl⟩
        obtain ⟨y, hy⟩ : ∃ y, z2 % 8380417 = y := ⟨_, rfl⟩
        have HWW : Hid (IntKind.i64.wrap p = p ∧ IntKind.i64.wrap (top - p) = z ∧ wrap64 z = z ∧ IntKind.i64.wrap (z + 8380417) = z2 ∧ wrap64 z2 = z2 ∧ z2.tmod 8380417 = y ∧ z2 % 8380417 = y ∧ IntKind.u32.wrap y = y ∧ IntKind.i64.wrap y = y) := Lib.hid
          ⟨by rw [IntKind.wrap_i64]; omega, by rw [IntKind.wrap_i64]; omega, IntWalk.wrap64_in _ (by omega), by rw [IntKind.wrap_i64]; omega, IntWalk.wrap64_in _ (by omega), by rw [Int.tmod_eq_emod_of_nonneg (by omega)]; exact hy, hy, by rw [IntKind.wrap_u32]; omega, by rw [IntKind.wrap_i64]; omega⟩
        have HY : Hid (plyD D top xs i = y) := Lib.hid (by unfold plyD blw; rw [hp]; omega)
        have hc := hT.2.2.at i (by omega)
        have hfr := hT.2.2.fr i
        have HN : Hid (∃ F', TwoZ w (wr.setCell ⟨g + 1, i, none⟩ (.int .u32 y)) g F' ∧ SlK .u32 (wr.setCell ⟨g + 1, i, none⟩ (.int .u32 y)) (some ⟨b2, 0, none⟩) 256 c2 (nums D xs 256) ∧ ∀ j, j < i + 1 → F' j = plyD D top xs j) := Lib.hid ⟨_, hT.put HGS.out i hlt y, hSK.setOther HNE.out _, fun j hj => by
          by_cases e : j = i
          · subst e
            rw [upd_at]
            exact HY.out.symm
          · rw [upd_ne _ _ e]
            exact hF j (by omega)⟩
        have HM : Hid (256 - (i + 1) < 256 - i) := Lib.hid (by omega)
        clear hT hF hz hz2 hy hp HQ hlt hi p0 p1 t0 t1 hSK hc3
        obtain ⟨q1, q2, q3, q4, q5, q6, q7, q8, q9⟩ := HWW.out
        go_wp2_with fail
        clear q1 q2 q3 q4 q5 q6 q7 q8 q9
        go_roundg (256 - (i + 1))
        case rel => exact ⟨i + 1, HLT.out, rfl, by go_num, HN⟩
        case measure => rw [HGQ.out]; exact HM.out
      · obtain rfl : i = 256 := by omega
        have hii : ¬ (256 : Int) < 256 := by omega
        obtain ⟨F, hT, hSK, hF⟩ := HQ.out
        have he : arr .u32 256 F = arr .u32 256 (plyD D top xs) := arr_ext fun j hj => hF j hj
        have hr2 := hT.2.2
        have hr3 := hT.2.1
        unfold LM at hr2 hr3
        rw [he] at hr2
        have hi2 := HI.out (plyD D top xs)
        have hs2 : (arr .u32 256 fun _ => (0 : Int)).size = (arr .u32 256 (plyD D top xs)).size := by rw [arr_size, arr_size]
        have ho2 := HO.out (plyD D top xs)
        have HP := Lib.hid hT.1
        clear hT hF he HQ hSK
        generalize hcc : arr .u32 256 (plyD D top xs) = cz at *
        have HCC := Lib.hid hcc
        clear hcc
        go_wp2_with (first | (refine wpList_load_row rfl 56 _ rfl (g + 1) rfl _ _ (0, 0) _ hr2 Tryz.underlying56 rfl hi2 ?_) | (refine wpList_store_row rfl 56 _ _ rfl g _ rfl rfl _ _ hr3 hi2 hs2 ho2 ?_))
        refine bodyPost_ret (results_cr rfl _ _ ⟨g, 0, none⟩ _ rfl (load_256 _ g _ (setRow_heap _ g _ _ _ _ hr3) hi2)) (by rfl) ?_
        exact ⟨by rw [HUF.out, HDC.out, HCC.out]; rfl, below_setRow HP.out HGS.out _⟩
  · rw [if_neg hl] at h
    obtain ⟨rfl, hp2⟩ := h
    have H1 := H0.out.past hp2
    have hr2 := H1.2.2
    have hr3 := H1.2.1
    unfold LM at hr2 hr3
    have hi2 := HI.out fun _ => 0
    have ho2 := HO.out fun _ => 0
    have HUF : Hid (unpF D top xs = fun _ => 0) := Lib.hid (by unfold unpF; rw [if_neg hl])
    have HDC : Hid (decide (xs.length = 32 * D) = false) := Lib.hid (decide_eq_false hl)
    have HP := Lib.hid H1.1
    rw [HZS.out] at hr2 hr3 hi2 ho2
    clear H1 hp2 hl H0
    go_wp2_with fail
    go_loopg [11] 1 (fun q s11 wx => q = 1 ∧ s11 = .int .i64 0 ∧ Hid (wx = w1))
    case atStart => exact ⟨rfl, rfl, Lib.hid rfl⟩
    case round =>
      obtain ⟨hq, rfl, HW⟩ := hrel
      rw [HW.out]
      clear hq
      go_wp2_with (first | (refine wpList_load_row rfl 56 _ rfl (g + 1) rfl _ _ (0, 0) _ hr2 Tryz.underlying56 rfl hi2 ?_) | (refine wpList_store_row rfl 56 _ _ rfl g _ rfl rfl _ _ hr3 hi2 rfl ho2 ?_))
      refine bodyPost_ret (results_cr rfl _ _ ⟨g, 0, none⟩ _ rfl (load_256 _ g _ (setRow_heap _ g _ _ _ _ hr3) hi2)) (by rfl) ?_
      exact ⟨by rw [HUF.out, HDC.out, HZS.out]; rfl, below_setRow HP.out HGS.out _⟩
end Go.Proofs.YteflpbkdnebopaaGreatDoor
