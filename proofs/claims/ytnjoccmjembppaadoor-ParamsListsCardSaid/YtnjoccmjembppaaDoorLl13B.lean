/- The walk of the law ParamsLists. -/
import Derived.Test.YtnjoccmjembppaaDoorLl13A
namespace Go.Proofs.YtnjoccmjembppaaDoor.paramsLists
open Go.RowKit
set_option linter.unusedVariables false

theorem alg_all : ∀ i : Fin 25, (row13 ((i.val : Int) + 1)).alg = (i.val : Int) + 1 := by decide +kernel
theorem alg_in {k : Nat} (h : k < 25) : (row13 ((k : Int) + 1)).alg = (k : Int) + 1 := alg_all ⟨k, h⟩
theorem algs_step {p : Int → Bool} {k : Nat} {c : Bool} (h : p ((k : Int) + 1) = c) : algs p (k + 1) = if c = true then algs p k ++ [(k : Int) + 1] else algs p k := by
  rw [algs_succ, h]
  cases c <;> simp
set_option maxHeartbeats 8000000 in
set_option maxRecDepth 100000 in
theorem walk_long (A : Option Addr) (N c : Nat) (f s : Int) (w : World) (hz : 100 < N) (hG : Glob13 w) : Calls Tryd.prog 5 #[.slice A N c, .int .i64 f, .int .i64 s] w fun e w' => e = .returned (.bool true) ∧ Past w w' := by
  have HG := Lib.hid hG
  have hzi : (100 : Int) < (N : Int) := by omega
  clear hG
  go_enter Tryd.func5, Tryd.ntmps5
  go_wp2_with fail
  refine (awake13 w HG.out).mono ?_
  rintro e w1 ⟨rfl, hp⟩
  have H1 := Lib.hid hp
  clear hp
  go_wp2_with fail
  refine (awake13 w1 (HG.out.past H1.out)).mono ?_
  rintro e w2 ⟨rfl, hp⟩
  have H2 := Lib.hid (H1.out.trans' hp)
  clear hp
  go_wp2_with fail
  go_ret
  exact ⟨rfl, H2.out⟩
set_option maxHeartbeats 16000000 in
set_option maxRecDepth 100000 in
theorem walk_short (A : Option Addr) (N c : Nat) (l : List Int) (f s : Int) (w : World) (hz : N ≤ 100) (hS : SlK .u32 w A N c l) (hr : ∀ x ∈ l, 0 ≤ x ∧ x < 4294967296) (hG : Glob13 w) : Calls Tryd.prog 5 #[.slice A N c, .int .i64 f, .int .i64 s] w fun e w' => e = .returned (.bool true) ∧ Past w w' := by
  have HG := Lib.hid hG
  have HSL := Lib.hid hS
  have hzi : ¬ (100 : Int) < (N : Int) := by omega
  have HV := Lib.hid (fun w h => rvalid_any A N c l w h hr)
  have HT := Lib.hid (fun w h => rtext_any A N c l w h hr)
  have HBO := Lib.hid (fun w hG h => byOid_any A N c l w hG h hr (by omega))
  have HBS := Lib.hid (fun w hG => bySize_any f s w hG)
  rw [← lists_oid l] at HBO
  have HEQ := Lib.hid (fun A B c d w p h1 h2 => eq_any A B c d (algs p 25) w (Nat.le_trans (algs_len p 25) (by decide)) h1 h2)
  unfold IntsP at HBO HBS
  obtain ⟨i0, hi, hz0, hz1, hz2⟩ := info_parts info64
  generalize okL l = v at *
  generalize textS l = T at *
  clear hG hS hr hz
  go_enter Tryd.func5, Tryd.ntmps5
  go_wp2_with fail
  refine (awake13 w HG.out).mono ?_
  rintro e w1 ⟨rfl, hp⟩
  have H1 := Lib.hid hp
  clear hp
  go_wp2_with fail
  refine (table_any w1).mono ?_
  rintro e wb ⟨rfl, hcl, hp⟩
  obtain ⟨u, hu⟩ : ∃ g, w1.heap.size = g := ⟨_, rfl⟩
  rw [hu] at hcl ⊢
  have HTB : Hid (∀ (k : Nat) w', k < 25 → Past wb w' → ∀ j v, (refC (row13 ((k : Int) + 1)))[j]? = some v → w'.cell? ⟨u, k * 10 + j, none⟩ = some v) := Lib.hid (fun k w' hk hp j v hj => by
    have hj10 : j < 10 := by
      rcases Nat.lt_or_ge j 10 with h | h2
      · exact h
      · rw [List.getElem?_eq_none (show (refC (row13 ((k : Int) + 1))).length ≤ j from h2)] at hj
        cases hj
    have h1 := hcl (k * 10 + j) (by omega)
    rw [refT_cell k j hk v hj] at h1
    rw [Below.cell hp (cell_lt h1)]
    exact h1)
  have HWB : Hid (Past w wb) := Lib.hid (H1.out.trans' hp)
  have H0 := Lib.hid (Two.nil wb)
  clear hcl hp hu H1
  go_wp2_with fail
  go_loopg [7, 8, 10] 25 (fun q s7 s8 s10 wx => ∃ (k : Nat) (A1 A2 : Option Addr) (c1 c2 : Nat), k ≤ 25 ∧ q = 25 - k ∧ s7 = .slice A1 (algs (pO v T) k).length c1 ∧ s8 = .slice A2 (algs (pSize f s) k).length c2 ∧ s10 = .int .i64 (k : Int) ∧ Hid (Two wb wx (.slice A1 (algs (pO v T) k).length c1) (algs (pO v T) k) (.slice A2 (algs (pSize f s) k).length c2) (algs (pSize f s) k)))
  case atStart => exact ⟨0, none, none, 0, 0, Nat.zero_le _, rfl, rfl, rfl, rfl, H0⟩
  case round =>
    clear H0
    obtain ⟨k, A1, A2, c1, c2, hk, hq, rfl, rfl, rfl, HO⟩ := hrel
    have HQ := Lib.hid hq
    have hk0 : (0 : Int) ≤ (k : Int) := by omega
    clear hq
    by_cases hlt : k < 25
    · have HLT := Lib.hid hlt
      have hin : (k : Int) < 25 := by omega
      have hk1 : (k : Int) + 1 ≤ 26 := by omega
      have HAX := Lib.hid (fun c (h : (v && ((row13 ((k : Int) + 1)).text.toList == T.toList)) = c) => algs_step (p := pO v T) (k := k) (c := c) h)
      have HAY := Lib.hid (fun c (h : (((row13 ((k : Int) + 1)).fam == f) && ((row13 ((k : Int) + 1)).sig == s) && (s != 0)) = c) => algs_step (p := pSize f s) (k := k) (c := c) h)
      have HLD : Hid (∀ w', Past wb w' → w'.cell? ⟨u, k * 10, none⟩ = some (.int .i64 (row13 ((k : Int) + 1)).alg) ∧ w'.cell? ⟨u, k * 10 + 1, none⟩ = some (.int .i64 (row13 ((k : Int) + 1)).fam) ∧ w'.cell? ⟨u, k * 10 + 6, none⟩ = some (.int .i64 (row13 ((k : Int) + 1)).sig) ∧ w'.cell? ⟨u, k * 10 + 7, none⟩ = some (.string (row13 ((k : Int) + 1)).text)) := Lib.hid (fun w' h => ⟨HTB.out k w' hlt h 0 _ rfl, HTB.out k w' hlt h 1 _ rfl, HTB.out k w' hlt h 6 _ rfl, HTB.out k w' hlt h 7 _ rfl⟩)
      have HAL : Hid ((row13 ((k : Int) + 1)).alg = (k : Int) + 1) := Lib.hid (alg_in hlt)
      have hsx : (algs (pO v T) k).length ≤ 25 := Nat.le_trans (algs_len _ k) hk
      have hsy : (algs (pSize f s) k).length ≤ 25 := Nat.le_trans (algs_len _ k) hk
      generalize row13 ((k : Int) + 1) = r at *
      generalize algs (pO v T) k = LX at *
      generalize algs (pSize f s) k = LY at *
      obtain ⟨nx, hnx⟩ : ∃ n, LX.length = n := ⟨_, rfl⟩
      obtain ⟨ny, hny⟩ : ∃ n, LY.length = n := ⟨_, rfl⟩
      have HNX := Lib.hid hnx
      have HNY := Lib.hid hny
      rw [hnx] at HO hsx ⊢
      rw [hny] at HO hsy ⊢
      clear hlt hk hnx hny
      go_upto_region 9 with (fail)
      cases v with
      | false =>
        have HXE : Hid (algs (pO false T) (k + 1) = LX) := Lib.hid (by rw [HAX.out false rfl]; rfl)
        clear HAX
        obtain ⟨wd, hwd⟩ : ∃ w', w' = wr.drew := ⟨_, rfl⟩
        have HPD : Hid (Past wr wd) := Lib.hid (by rw [hwd]; exact Past.drewN (Below.refl _ wr) 1)
        have HWD := Lib.hid hwd
        clear hwd
        have hU : undef = Value.tuple #[] := rfl
        refine wp_region_any (by kernel_rfl) ?_
        change wpAny _ _ _ _ _ _ _ (World.drew _)
        rw [← HWD.out]
        clear HWD
        refine wpAny_take (i := 0) (v := .slice A N c) rfl (by kernel_rfl) (by kernel_rfl) (by kernel_rfl) (fun _ _ _ h => h) (Or.inl ⟨by kernel_rfl, fun w => by kernel_rfl⟩) ?_; (try dsimp only [Act.put])
        refine wpAny_ready (rs := [1]) (by kernel_rfl) (by simp) ?_
        refine AllReady.cons rfl (fun K hK => ?_) AllReady.nil
        go_simp
        refine (HV.out _ (HSL.out.past (HWB.out.trans' (HO.out.past.trans' HPD.out)))).mono ?_
        rintro e7 w7 ⟨rfl, rfl⟩
        obtain ⟨d0, d1, d6, d7⟩ := HLD.out _ (HO.out.past.trans' HPD.out)
        refine hK _ _ ?_
        clear hK K
        (try dsimp only [Act.put])
        refine wpAny_take (i := 2) (v := .bool false) rfl (by kernel_rfl) (by kernel_rfl) (by kernel_rfl) (fun _ _ _ h => h) (Or.inl ⟨by kernel_rfl, fun w => by kernel_rfl⟩) ?_; (try dsimp only [Act.put])
        refine wpAny_skips (fuel := 1) (by kernel_rfl) [3, 4, 5, 6, 7, 8, 9, 10] _ _ (by repeat (first | exact trivial | refine ⟨fun _ _ _ h => h, ?_⟩)) (by kernel_rfl) ?_; dsimp only [skipL, skipA]; (try dsimp only [Act.put])
        refine wpAny_take (i := 11) (v := .bool false) rfl (by kernel_rfl) (by kernel_rfl) (by kernel_rfl) (fun _ _ _ h => h) (Or.inl ⟨by kernel_rfl, fun w => by kernel_rfl⟩) ?_; (try dsimp only [Act.put])
        refine wpAny_done (by kernel_rfl) ?_ _
        go_simp
        have HO2 := Lib.hid (HO.out.next HPD.out)
        clear HO
        have HO := HO2
        clear HO2
        go_upto_region 11 with (fail)
        rcases (show s = 0 ∨ (¬ s = 0 ∧ ¬ r.fam = f) ∨ (¬ s = 0 ∧ r.fam = f ∧ ¬ r.sig = s) ∨ (¬ s = 0 ∧ r.fam = f ∧ r.sig = s) by omega) with hv | hv | hv | hv
        · have hb1 : (s != 0) = false := by simp [hv]
          have hb2 : (s == 0) = true := by simp [hv]
          have hb3 : decide (s = 0) = true := by simp [hv]
          have HYE : Hid (algs (pSize f s) (k + 1) = LY) := Lib.hid (by rw [HAY.out false (by simp [hv])]; rfl)
          clear hv
          obtain ⟨q0, q1, q6, q7⟩ := HLD.out _ HO.out.past
          go_wp2_with fail
          go_roundg (25 - (k + 1))
          case rel =>
            have e1 : algs (pO false T) (k + 1) = LX := by rw [HXE.out]
            have e2 : algs (pSize f s) (k + 1) = LY := by rw [HYE.out]
            have e3 : LX.length = nx := by first | exact HNX.out | (rw [List.length_append, HNX.out]; rfl)
            have e4 : LY.length = ny := by first | exact HNY.out | (rw [List.length_append, HNY.out]; rfl)
            exact ⟨k + 1, A1, A2, c1, c2, HLT.out, rfl, by rw [e1, e3], by rw [e2, e4], by go_num, by rw [e1, e2, e3, e4]; exact HO⟩
          case measure => have := HQ.out; have := HLT.out; omega
        · obtain ⟨hv0, hv1⟩ := hv
          have hb1 : (s != 0) = true := by simp [hv0]
          have hb2 : (s == 0) = false := by simp [hv0]
          have hb4 : (r.fam == f) = false := by simp [hv1]
          have HYE : Hid (algs (pSize f s) (k + 1) = LY) := Lib.hid (by rw [HAY.out false (by simp [hv1])]; rfl)
          obtain ⟨q0, q1, q6, q7⟩ := HLD.out _ HO.out.past
          go_wp2_with fail
          go_roundg (25 - (k + 1))
          case rel =>
            have e1 : algs (pO false T) (k + 1) = LX := by rw [HXE.out]
            have e2 : algs (pSize f s) (k + 1) = LY := by rw [HYE.out]
            have e3 : LX.length = nx := by first | exact HNX.out | (rw [List.length_append, HNX.out]; rfl)
            have e4 : LY.length = ny := by first | exact HNY.out | (rw [List.length_append, HNY.out]; rfl)
            exact ⟨k + 1, A1, A2, c1, c2, HLT.out, rfl, by rw [e1, e3], by rw [e2, e4], by go_num, by rw [e1, e2, e3, e4]; exact HO⟩
          case measure => have := HQ.out; have := HLT.out; omega
        · obtain ⟨hv0, hv1, hv2⟩ := hv
          have hb1 : (s != 0) = true := by simp [hv0]
          have hb2 : (s == 0) = false := by simp [hv0]
          have hb4 : (r.fam == f) = true := by simp [hv1]
          have hb5 : (r.sig == s) = false := by simp [hv2]
          have HYE : Hid (algs (pSize f s) (k + 1) = LY) := Lib.hid (by rw [HAY.out false (by simp [hv2])]; rfl)
          have HV1 := Lib.hid hv1
          clear hv1
          obtain ⟨q0, q1, q6, q7⟩ := HLD.out _ HO.out.past
          go_wp2_with fail
          go_roundg (25 - (k + 1))
          case rel =>
            have e1 : algs (pO false T) (k + 1) = LX := by rw [HXE.out]
            have e2 : algs (pSize f s) (k + 1) = LY := by rw [HYE.out]
            have e3 : LX.length = nx := by first | exact HNX.out | (rw [List.length_append, HNX.out]; rfl)
            have e4 : LY.length = ny := by first | exact HNY.out | (rw [List.length_append, HNY.out]; rfl)
            exact ⟨k + 1, A1, A2, c1, c2, HLT.out, rfl, by rw [e1, e3], by rw [e2, e4], by go_num, by rw [e1, e2, e3, e4]; exact HO⟩
          case measure => have := HQ.out; have := HLT.out; omega
        · obtain ⟨hv0, hv1, hv2⟩ := hv
          have hb1 : (s != 0) = true := by simp [hv0]
          have hb2 : (s == 0) = false := by simp [hv0]
          have hb4 : (r.fam == f) = true := by simp [hv1]
          have hb5 : (r.sig == s) = true := by simp [hv2]
          have HYE : Hid (algs (pSize f s) (k + 1) = LY ++ [r.alg]) := Lib.hid (by rw [HAY.out true (by simp [hv0, hv1, hv2]), HAL.out]; rfl)
          have HV1 := Lib.hid hv1
          have HV2 := Lib.hid hv2
          clear hv1 hv2
          obtain ⟨q0, q1, q6, q7⟩ := HLD.out _ HO.out.past
          have howx : wd.ownsRow wb.heap.size 3 1 (.slice A2 ny c2) ny (LY.map (Value.int .i64)) := by have h := HO.out.y; rw [HNY.out] at h; exact h
          go_wp2_with (at_builtin; refine wpList_append_own_at _ rfl _ _ 40 rfl wb.heap.size 3 i0 (.int .i64 0) 1 8 Tryd.underlying40 hi hz0 hz1 hz2 rfl (by decide) _ ny _ rfl (howx.alloc _) ⟨wd.heap.size, 0, none⟩ 1 1 [.int .i64 r.alg] rfl rfl ?c1 ?c2 ?c3 ?c4 ?c5 ?_)
          case c1 =>
            intro j z hj
            cases j with
            | zero =>
              simp at hj
              subst hj
              rw [add_none, World.cell?_alloc_new]
              rfl
            | succ j => simp at hj
          case c2 => simp [Value.oneCell']
          case c3 => unfold maxLen; omega
          case c4 => omega
          case c5 => exact Nat.le_trans HO.out.past.size (by simp)
          intro v' wm hown1 hgrow1 _ hat1
          obtain ⟨B4, d4, rfl⟩ := own_slice hown1
          have HO2 : Hid (Two wb wm (.slice A1 (nx) c1) LX (.slice B4 (ny + 1) d4) (LY ++ [r.alg])) := Lib.hid (((HO.out.next ((Below.refl _ _).alloc (Nat.le_refl _) _)).swap.grow r.alg (by rw [HNY.out]; exact hown1) hgrow1 (by rw [World.size_alloc]; exact hat1)).swap)
          clear hown1 hgrow1 hat1 HO howx q0 q1 q6 q7
          have HO := HO2
          clear HO2
          go_wp2_with fail
          go_roundg (25 - (k + 1))
          case rel =>
            have e1 : algs (pO false T) (k + 1) = LX := by rw [HXE.out]
            have e2 : algs (pSize f s) (k + 1) = (LY ++ [r.alg]) := by rw [HYE.out]
            have e3 : LX.length = nx := by first | exact HNX.out | (rw [List.length_append, HNX.out]; rfl)
            have e4 : (LY ++ [r.alg]).length = ny + 1 := by first | exact HNY.out | (rw [List.length_append, HNY.out]; rfl)
            exact ⟨k + 1, A1, B4, c1, d4, HLT.out, rfl, by rw [e1, e3], by rw [e2, e4], by go_num, by rw [e1, e2, e3, e4]; exact HO⟩
          case measure => have := HQ.out; have := HLT.out; omega
      | true =>
        cases hbt : (r.text.toList == T.toList) with
        | false =>
          have HXE : Hid (algs (pO true T) (k + 1) = LX) := Lib.hid (by rw [HAX.out false (by rw [hbt]; rfl)]; rfl)
          clear HAX
          obtain ⟨wd, hwd⟩ : ∃ w', w' = wr.drew := ⟨_, rfl⟩
          have HPD : Hid (Past wr wd) := Lib.hid (by rw [hwd]; exact Past.drewN (Below.refl _ wr) 1)
          have HWD := Lib.hid hwd
          clear hwd
          have hU : undef = Value.tuple #[] := rfl
          refine wp_region_any (by kernel_rfl) ?_
          change wpAny _ _ _ _ _ _ _ (World.drew _)
          rw [← HWD.out]
          clear HWD
          refine wpAny_take (i := 0) (v := .slice A N c) rfl (by kernel_rfl) (by kernel_rfl) (by kernel_rfl) (fun _ _ _ h => h) (Or.inl ⟨by kernel_rfl, fun w => by kernel_rfl⟩) ?_; (try dsimp only [Act.put])
          refine wpAny_ready (rs := [1]) (by kernel_rfl) (by simp) ?_
          refine AllReady.cons rfl (fun K hK => ?_) AllReady.nil
          go_simp
          refine (HV.out _ (HSL.out.past (HWB.out.trans' (HO.out.past.trans' HPD.out)))).mono ?_
          rintro e7 w7 ⟨rfl, rfl⟩
          obtain ⟨d0, d1, d6, d7⟩ := HLD.out _ (HO.out.past.trans' HPD.out)
          refine hK _ _ ?_
          clear hK K
          (try dsimp only [Act.put])
          refine wpAny_take (i := 2) (v := .bool true) rfl (by kernel_rfl) (by kernel_rfl) (by kernel_rfl) (fun _ _ _ h => h) (Or.inl ⟨by kernel_rfl, fun w => by kernel_rfl⟩) ?_; (try dsimp only [Act.put])
          refine wpAny_take (i := 3) (v := .slice (some ⟨u, 0, none⟩) 25 25) rfl (by kernel_rfl) (by kernel_rfl) (by kernel_rfl) (fun _ _ _ h => h) (Or.inl ⟨by kernel_rfl, fun w => by kernel_rfl⟩) ?_; (try dsimp only [Act.put])
          refine wpAny_take (i := 4) (v := .int .i64 (k : Int)) rfl (by kernel_rfl) (by kernel_rfl) (by kernel_rfl) (fun _ _ _ h => h) (Or.inl ⟨by kernel_rfl, fun w => by kernel_rfl⟩) ?_; (try dsimp only [Act.put])
          refine wpAny_take (i := 5) (v := .pointer (some ⟨u, k * 10, none⟩)) rfl (by kernel_rfl) (by kernel_rfl) (by kernel_rfl) (fun _ _ _ h => h) (Or.inl ⟨by kernel_rfl, fun w => by go_simp⟩) ?_; (try dsimp only [Act.put])
          refine wpAny_take (i := 6) (v := .pointer (some ⟨u, k * 10 + 7, none⟩)) rfl (by kernel_rfl) (by kernel_rfl) (by kernel_rfl) (fun _ _ _ h => h) (Or.inl ⟨by kernel_rfl, fun w => by go_simp⟩) ?_; (try dsimp only [Act.put])
          refine wpAny_take (i := 8) (v := .slice A N c) rfl (by kernel_rfl) (by kernel_rfl) (by kernel_rfl) (fun _ _ _ h => h) (Or.inl ⟨by kernel_rfl, fun w => by kernel_rfl⟩) ?_; (try dsimp only [Act.put])
          refine wpAny_ready (rs := [7, 9]) (by kernel_rfl) (by simp) ?_
          refine AllReady.cons rfl (fun K hK => ?_) (AllReady.cons rfl (fun K hK => ?_) AllReady.nil)
          · go_simp
            refine hK _ _ ?_
            clear hK K
            (try dsimp only [Act.put])
            refine wpAny_ready (rs := [9]) (by kernel_rfl) (by simp) ?_
            refine AllReady.cons rfl (fun K hK => ?_) AllReady.nil
            go_simp
            refine (HT.out _ (HSL.out.past (HWB.out.trans' (HO.out.past.trans' HPD.out)))).mono ?_
            rintro e8 w8 ⟨rfl, hp8⟩
            have HP8 : Hid (Past wr w8) := Lib.hid (HPD.out.trans' hp8)
            obtain ⟨f0, f1, f6, f7⟩ := HLD.out _ (HO.out.past.trans' HP8.out)
            clear hp8
            refine hK _ _ ?_
            clear hK K
            (try dsimp only [Act.put])
            refine wpAny_take (i := 10) (v := .bool false) rfl (by kernel_rfl) (by kernel_rfl) (by kernel_rfl) (fun _ _ _ h => h) (Or.inl ⟨by kernel_rfl, fun w => by go_simp⟩) ?_; (try dsimp only [Act.put])
            refine wpAny_take (i := 11) (v := .bool false) rfl (by kernel_rfl) (by kernel_rfl) (by kernel_rfl) (fun _ _ _ h => h) (Or.inl ⟨by kernel_rfl, fun w => by kernel_rfl⟩) ?_; (try dsimp only [Act.put])
            refine wpAny_done (by kernel_rfl) ?_ _
            go_simp
            have HO2 := Lib.hid (HO.out.next HP8.out)
            clear HO
            have HO := HO2
            clear HO2
            go_upto_region 11 with (fail)
            rcases (show s = 0 ∨ (¬ s = 0 ∧ ¬ r.fam = f) ∨ (¬ s = 0 ∧ r.fam = f ∧ ¬ r.sig = s) ∨ (¬ s = 0 ∧ r.fam = f ∧ r.sig = s) by omega) with hv | hv | hv | hv
            · have hb1 : (s != 0) = false := by simp [hv]
              have hb2 : (s == 0) = true := by simp [hv]
              have hb3 : decide (s = 0) = true := by simp [hv]
              have HYE : Hid (algs (pSize f s) (k + 1) = LY) := Lib.hid (by rw [HAY.out false (by simp [hv])]; rfl)
              clear hv
              obtain ⟨q0, q1, q6, q7⟩ := HLD.out _ HO.out.past
              go_wp2_with fail
              go_roundg (25 - (k + 1))
              case rel =>
                have e1 : algs (pO true T) (k + 1) = LX := by rw [HXE.out]
                have e2 : algs (pSize f s) (k + 1) = LY := by rw [HYE.out]
                have e3 : LX.length = nx := by first | exact HNX.out | (rw [List.length_append, HNX.out]; rfl)
                have e4 : LY.length = ny := by first | exact HNY.out | (rw [List.length_append, HNY.out]; rfl)
                exact ⟨k + 1, A1, A2, c1, c2, HLT.out, rfl, by rw [e1, e3], by rw [e2, e4], by go_num, by rw [e1, e2, e3, e4]; exact HO⟩
              case measure => have := HQ.out; have := HLT.out; omega
            · obtain ⟨hv0, hv1⟩ := hv
              have hb1 : (s != 0) = true := by simp [hv0]
              have hb2 : (s == 0) = false := by simp [hv0]
              have hb4 : (r.fam == f) = false := by simp [hv1]
              have HYE : Hid (algs (pSize f s) (k + 1) = LY) := Lib.hid (by rw [HAY.out false (by simp [hv1])]; rfl)
              obtain ⟨q0, q1, q6, q7⟩ := HLD.out _ HO.out.past
              go_wp2_with fail
              go_roundg (25 - (k + 1))
              case rel =>
                have e1 : algs (pO true T) (k + 1) = LX := by rw [HXE.out]
                have e2 : algs (pSize f s) (k + 1) = LY := by rw [HYE.out]
                have e3 : LX.length = nx := by first | exact HNX.out | (rw [List.length_append, HNX.out]; rfl)
                have e4 : LY.length = ny := by first | exact HNY.out | (rw [List.length_append, HNY.out]; rfl)
                exact ⟨k + 1, A1, A2, c1, c2, HLT.out, rfl, by rw [e1, e3], by rw [e2, e4], by go_num, by rw [e1, e2, e3, e4]; exact HO⟩
              case measure => have := HQ.out; have := HLT.out; omega
            · obtain ⟨hv0, hv1, hv2⟩ := hv
              have hb1 : (s != 0) = true := by simp [hv0]
              have hb2 : (s == 0) = false := by simp [hv0]
              have hb4 : (r.fam == f) = true := by simp [hv1]
              have hb5 : (r.sig == s) = false := by simp [hv2]
              have HYE : Hid (algs (pSize f s) (k + 1) = LY) := Lib.hid (by rw [HAY.out false (by simp [hv2])]; rfl)
              have HV1 := Lib.hid hv1
              clear hv1
              obtain ⟨q0, q1, q6, q7⟩ := HLD.out _ HO.out.past
              go_wp2_with fail
              go_roundg (25 - (k + 1))
              case rel =>
                have e1 : algs (pO true T) (k + 1) = LX := by rw [HXE.out]
                have e2 : algs (pSize f s) (k + 1) = LY := by rw [HYE.out]
                have e3 : LX.length = nx := by first | exact HNX.out | (rw [List.length_append, HNX.out]; rfl)
                have e4 : LY.length = ny := by first | exact HNY.out | (rw [List.length_append, HNY.out]; rfl)
                exact ⟨k + 1, A1, A2, c1, c2, HLT.out, rfl, by rw [e1, e3], by rw [e2, e4], by go_num, by rw [e1, e2, e3, e4]; exact HO⟩
              case measure => have := HQ.out; have := HLT.out; omega
            · obtain ⟨hv0, hv1, hv2⟩ := hv
              have hb1 : (s != 0) = true := by simp [hv0]
              have hb2 : (s == 0) = false := by simp [hv0]
              have hb4 : (r.fam == f) = true := by simp [hv1]
              have hb5 : (r.sig == s) = true := by simp [hv2]
              have HYE : Hid (algs (pSize f s) (k + 1) = LY ++ [r.alg]) := Lib.hid (by rw [HAY.out true (by simp [hv0, hv1, hv2]), HAL.out]; rfl)
              have HV1 := Lib.hid hv1
              have HV2 := Lib.hid hv2
              clear hv1 hv2
              obtain ⟨q0, q1, q6, q7⟩ := HLD.out _ HO.out.past
              have howx : w8.ownsRow wb.heap.size 3 1 (.slice A2 ny c2) ny (LY.map (Value.int .i64)) := by have h := HO.out.y; rw [HNY.out] at h; exact h
              go_wp2_with (at_builtin; refine wpList_append_own_at _ rfl _ _ 40 rfl wb.heap.size 3 i0 (.int .i64 0) 1 8 Tryd.underlying40 hi hz0 hz1 hz2 rfl (by decide) _ ny _ rfl (howx.alloc _) ⟨w8.heap.size, 0, none⟩ 1 1 [.int .i64 r.alg] rfl rfl ?c1 ?c2 ?c3 ?c4 ?c5 ?_)
              case c1 =>
                intro j z hj
                cases j with
                | zero =>
                  simp at hj
                  subst hj
                  rw [add_none, World.cell?_alloc_new]
                  rfl
                | succ j => simp at hj
              case c2 => simp [Value.oneCell']
              case c3 => unfold maxLen; omega
              case c4 => omega
              case c5 => exact Nat.le_trans HO.out.past.size (by simp)
              intro v' wm hown1 hgrow1 _ hat1
              obtain ⟨B4, d4, rfl⟩ := own_slice hown1
              have HO2 : Hid (Two wb wm (.slice A1 (nx) c1) LX (.slice B4 (ny + 1) d4) (LY ++ [r.alg])) := Lib.hid (((HO.out.next ((Below.refl _ _).alloc (Nat.le_refl _) _)).swap.grow r.alg (by rw [HNY.out]; exact hown1) hgrow1 (by rw [World.size_alloc]; exact hat1)).swap)
              clear hown1 hgrow1 hat1 HO howx q0 q1 q6 q7
              have HO := HO2
              clear HO2
              go_wp2_with fail
              go_roundg (25 - (k + 1))
              case rel =>
                have e1 : algs (pO true T) (k + 1) = LX := by rw [HXE.out]
                have e2 : algs (pSize f s) (k + 1) = (LY ++ [r.alg]) := by rw [HYE.out]
                have e3 : LX.length = nx := by first | exact HNX.out | (rw [List.length_append, HNX.out]; rfl)
                have e4 : (LY ++ [r.alg]).length = ny + 1 := by first | exact HNY.out | (rw [List.length_append, HNY.out]; rfl)
                exact ⟨k + 1, A1, B4, c1, d4, HLT.out, rfl, by rw [e1, e3], by rw [e2, e4], by go_num, by rw [e1, e2, e3, e4]; exact HO⟩
              case measure => have := HQ.out; have := HLT.out; omega
          · go_simp
            refine (HT.out _ (HSL.out.past (HWB.out.trans' (HO.out.past.trans' HPD.out)))).mono ?_
            rintro e8 w8 ⟨rfl, hp8⟩
            have HP8 : Hid (Past wr w8) := Lib.hid (HPD.out.trans' hp8)
            obtain ⟨f0, f1, f6, f7⟩ := HLD.out _ (HO.out.past.trans' HP8.out)
            clear hp8
            refine hK _ _ ?_
            clear hK K
            (try dsimp only [Act.put])
            refine wpAny_ready (rs := [7]) (by kernel_rfl) (by simp) ?_
            refine AllReady.cons rfl (fun K hK => ?_) AllReady.nil
            go_simp
            refine hK _ _ ?_
            clear hK K
            (try dsimp only [Act.put])
            refine wpAny_take (i := 10) (v := .bool false) rfl (by kernel_rfl) (by kernel_rfl) (by kernel_rfl) (fun _ _ _ h => h) (Or.inl ⟨by kernel_rfl, fun w => by go_simp⟩) ?_; (try dsimp only [Act.put])
            refine wpAny_take (i := 11) (v := .bool false) rfl (by kernel_rfl) (by kernel_rfl) (by kernel_rfl) (fun _ _ _ h => h) (Or.inl ⟨by kernel_rfl, fun w => by kernel_rfl⟩) ?_; (try dsimp only [Act.put])
            refine wpAny_done (by kernel_rfl) ?_ _
            go_simp
            have HO2 := Lib.hid (HO.out.next HP8.out)
            clear HO
            have HO := HO2
            clear HO2
            go_upto_region 11 with (fail)
            rcases (show s = 0 ∨ (¬ s = 0 ∧ ¬ r.fam = f) ∨ (¬ s = 0 ∧ r.fam = f ∧ ¬ r.sig = s) ∨ (¬ s = 0 ∧ r.fam = f ∧ r.sig = s) by omega) with hv | hv | hv | hv
            · have hb1 : (s != 0) = false := by simp [hv]
              have hb2 : (s == 0) = true := by simp [hv]
              have hb3 : decide (s = 0) = true := by simp [hv]
              have HYE : Hid (algs (pSize f s) (k + 1) = LY) := Lib.hid (by rw [HAY.out false (by simp [hv])]; rfl)
              clear hv
              obtain ⟨q0, q1, q6, q7⟩ := HLD.out _ HO.out.past
              go_wp2_with fail
              go_roundg (25 - (k + 1))
              case rel =>
                have e1 : algs (pO true T) (k + 1) = LX := by rw [HXE.out]
                have e2 : algs (pSize f s) (k + 1) = LY := by rw [HYE.out]
                have e3 : LX.length = nx := by first | exact HNX.out | (rw [List.length_append, HNX.out]; rfl)
                have e4 : LY.length = ny := by first | exact HNY.out | (rw [List.length_append, HNY.out]; rfl)
                exact ⟨k + 1, A1, A2, c1, c2, HLT.out, rfl, by rw [e1, e3], by rw [e2, e4], by go_num, by rw [e1, e2, e3, e4]; exact HO⟩
              case measure => have := HQ.out; have := HLT.out; omega
            · obtain ⟨hv0, hv1⟩ := hv
              have hb1 : (s != 0) = true := by simp [hv0]
              have hb2 : (s == 0) = false := by simp [hv0]
              have hb4 : (r.fam == f) = false := by simp [hv1]
              have HYE : Hid (algs (pSize f s) (k + 1) = LY) := Lib.hid (by rw [HAY.out false (by simp [hv1])]; rfl)
              obtain ⟨q0, q1, q6, q7⟩ := HLD.out _ HO.out.past
              go_wp2_with fail
              go_roundg (25 - (k + 1))
              case rel =>
                have e1 : algs (pO true T) (k + 1) = LX := by rw [HXE.out]
                have e2 : algs (pSize f s) (k + 1) = LY := by rw [HYE.out]
                have e3 : LX.length = nx := by first | exact HNX.out | (rw [List.length_append, HNX.out]; rfl)
                have e4 : LY.length = ny := by first | exact HNY.out | (rw [List.length_append, HNY.out]; rfl)
                exact ⟨k + 1, A1, A2, c1, c2, HLT.out, rfl, by rw [e1, e3], by rw [e2, e4], by go_num, by rw [e1, e2, e3, e4]; exact HO⟩
              case measure => have := HQ.out; have := HLT.out; omega
            · obtain ⟨hv0, hv1, hv2⟩ := hv
              have hb1 : (s != 0) = true := by simp [hv0]
              have hb2 : (s == 0) = false := by simp [hv0]
              have hb4 : (r.fam == f) = true := by simp [hv1]
              have hb5 : (r.sig == s) = false := by simp [hv2]
              have HYE : Hid (algs (pSize f s) (k + 1) = LY) := Lib.hid (by rw [HAY.out false (by simp [hv2])]; rfl)
              have HV1 := Lib.hid hv1
              clear hv1
              obtain ⟨q0, q1, q6, q7⟩ := HLD.out _ HO.out.past
              go_wp2_with fail
              go_roundg (25 - (k + 1))
              case rel =>
                have e1 : algs (pO true T) (k + 1) = LX := by rw [HXE.out]
                have e2 : algs (pSize f s) (k + 1) = LY := by rw [HYE.out]
                have e3 : LX.length = nx := by first | exact HNX.out | (rw [List.length_append, HNX.out]; rfl)
                have e4 : LY.length = ny := by first | exact HNY.out | (rw [List.length_append, HNY.out]; rfl)
                exact ⟨k + 1, A1, A2, c1, c2, HLT.out, rfl, by rw [e1, e3], by rw [e2, e4], by go_num, by rw [e1, e2, e3, e4]; exact HO⟩
              case measure => have := HQ.out; have := HLT.out; omega
            · obtain ⟨hv0, hv1, hv2⟩ := hv
              have hb1 : (s != 0) = true := by simp [hv0]
              have hb2 : (s == 0) = false := by simp [hv0]
              have hb4 : (r.fam == f) = true := by simp [hv1]
              have hb5 : (r.sig == s) = true := by simp [hv2]
              have HYE : Hid (algs (pSize f s) (k + 1) = LY ++ [r.alg]) := Lib.hid (by rw [HAY.out true (by simp [hv0, hv1, hv2]), HAL.out]; rfl)
              have HV1 := Lib.hid hv1
              have HV2 := Lib.hid hv2
              clear hv1 hv2
              obtain ⟨q0, q1, q6, q7⟩ := HLD.out _ HO.out.past
              have howx : w8.ownsRow wb.heap.size 3 1 (.slice A2 ny c2) ny (LY.map (Value.int .i64)) := by have h := HO.out.y; rw [HNY.out] at h; exact h
              go_wp2_with (at_builtin; refine wpList_append_own_at _ rfl _ _ 40 rfl wb.heap.size 3 i0 (.int .i64 0) 1 8 Tryd.underlying40 hi hz0 hz1 hz2 rfl (by decide) _ ny _ rfl (howx.alloc _) ⟨w8.heap.size, 0, none⟩ 1 1 [.int .i64 r.alg] rfl rfl ?c1 ?c2 ?c3 ?c4 ?c5 ?_)
              case c1 =>
                intro j z hj
                cases j with
                | zero =>
                  simp at hj
                  subst hj
                  rw [add_none, World.cell?_alloc_new]
                  rfl
                | succ j => simp at hj
              case c2 => simp [Value.oneCell']
              case c3 => unfold maxLen; omega
              case c4 => omega
              case c5 => exact Nat.le_trans HO.out.past.size (by simp)
              intro v' wm hown1 hgrow1 _ hat1
              obtain ⟨B4, d4, rfl⟩ := own_slice hown1
              have HO2 : Hid (Two wb wm (.slice A1 (nx) c1) LX (.slice B4 (ny + 1) d4) (LY ++ [r.alg])) := Lib.hid (((HO.out.next ((Below.refl _ _).alloc (Nat.le_refl _) _)).swap.grow r.alg (by rw [HNY.out]; exact hown1) hgrow1 (by rw [World.size_alloc]; exact hat1)).swap)
              clear hown1 hgrow1 hat1 HO howx q0 q1 q6 q7
              have HO := HO2
              clear HO2
              go_wp2_with fail
              go_roundg (25 - (k + 1))
              case rel =>
                have e1 : algs (pO true T) (k + 1) = LX := by rw [HXE.out]
                have e2 : algs (pSize f s) (k + 1) = (LY ++ [r.alg]) := by rw [HYE.out]
                have e3 : LX.length = nx := by first | exact HNX.out | (rw [List.length_append, HNX.out]; rfl)
                have e4 : (LY ++ [r.alg]).length = ny + 1 := by first | exact HNY.out | (rw [List.length_append, HNY.out]; rfl)
                exact ⟨k + 1, A1, B4, c1, d4, HLT.out, rfl, by rw [e1, e3], by rw [e2, e4], by go_num, by rw [e1, e2, e3, e4]; exact HO⟩
              case measure => have := HQ.out; have := HLT.out; omega
        | true =>
          have HXE : Hid (algs (pO true T) (k + 1) = LX ++ [r.alg]) := Lib.hid (by rw [HAX.out true (by rw [hbt]; rfl), HAL.out]; rfl)
          clear HAX
          obtain ⟨wd, hwd⟩ : ∃ w', w' = wr.drew := ⟨_, rfl⟩
          have HPD : Hid (Past wr wd) := Lib.hid (by rw [hwd]; exact Past.drewN (Below.refl _ wr) 1)
          have HWD := Lib.hid hwd
          clear hwd
          have hU : undef = Value.tuple #[] := rfl
          refine wp_region_any (by kernel_rfl) ?_
          change wpAny _ _ _ _ _ _ _ (World.drew _)
          rw [← HWD.out]
          clear HWD
          refine wpAny_take (i := 0) (v := .slice A N c) rfl (by kernel_rfl) (by kernel_rfl) (by kernel_rfl) (fun _ _ _ h => h) (Or.inl ⟨by kernel_rfl, fun w => by kernel_rfl⟩) ?_; (try dsimp only [Act.put])
          refine wpAny_ready (rs := [1]) (by kernel_rfl) (by simp) ?_
          refine AllReady.cons rfl (fun K hK => ?_) AllReady.nil
          go_simp
          refine (HV.out _ (HSL.out.past (HWB.out.trans' (HO.out.past.trans' HPD.out)))).mono ?_
          rintro e7 w7 ⟨rfl, rfl⟩
          obtain ⟨d0, d1, d6, d7⟩ := HLD.out _ (HO.out.past.trans' HPD.out)
          refine hK _ _ ?_
          clear hK K
          (try dsimp only [Act.put])
          refine wpAny_take (i := 2) (v := .bool true) rfl (by kernel_rfl) (by kernel_rfl) (by kernel_rfl) (fun _ _ _ h => h) (Or.inl ⟨by kernel_rfl, fun w => by kernel_rfl⟩) ?_; (try dsimp only [Act.put])
          refine wpAny_take (i := 3) (v := .slice (some ⟨u, 0, none⟩) 25 25) rfl (by kernel_rfl) (by kernel_rfl) (by kernel_rfl) (fun _ _ _ h => h) (Or.inl ⟨by kernel_rfl, fun w => by kernel_rfl⟩) ?_; (try dsimp only [Act.put])
          refine wpAny_take (i := 4) (v := .int .i64 (k : Int)) rfl (by kernel_rfl) (by kernel_rfl) (by kernel_rfl) (fun _ _ _ h => h) (Or.inl ⟨by kernel_rfl, fun w => by kernel_rfl⟩) ?_; (try dsimp only [Act.put])
          refine wpAny_take (i := 5) (v := .pointer (some ⟨u, k * 10, none⟩)) rfl (by kernel_rfl) (by kernel_rfl) (by kernel_rfl) (fun _ _ _ h => h) (Or.inl ⟨by kernel_rfl, fun w => by go_simp⟩) ?_; (try dsimp only [Act.put])
          refine wpAny_take (i := 6) (v := .pointer (some ⟨u, k * 10 + 7, none⟩)) rfl (by kernel_rfl) (by kernel_rfl) (by kernel_rfl) (fun _ _ _ h => h) (Or.inl ⟨by kernel_rfl, fun w => by go_simp⟩) ?_; (try dsimp only [Act.put])
          refine wpAny_take (i := 8) (v := .slice A N c) rfl (by kernel_rfl) (by kernel_rfl) (by kernel_rfl) (fun _ _ _ h => h) (Or.inl ⟨by kernel_rfl, fun w => by kernel_rfl⟩) ?_; (try dsimp only [Act.put])
          refine wpAny_ready (rs := [7, 9]) (by kernel_rfl) (by simp) ?_
          refine AllReady.cons rfl (fun K hK => ?_) (AllReady.cons rfl (fun K hK => ?_) AllReady.nil)
          · go_simp
            refine hK _ _ ?_
            clear hK K
            (try dsimp only [Act.put])
            refine wpAny_ready (rs := [9]) (by kernel_rfl) (by simp) ?_
            refine AllReady.cons rfl (fun K hK => ?_) AllReady.nil
            go_simp
            refine (HT.out _ (HSL.out.past (HWB.out.trans' (HO.out.past.trans' HPD.out)))).mono ?_
            rintro e8 w8 ⟨rfl, hp8⟩
            have HP8 : Hid (Past wr w8) := Lib.hid (HPD.out.trans' hp8)
            obtain ⟨f0, f1, f6, f7⟩ := HLD.out _ (HO.out.past.trans' HP8.out)
            clear hp8
            refine hK _ _ ?_
            clear hK K
            (try dsimp only [Act.put])
            refine wpAny_take (i := 10) (v := .bool true) rfl (by kernel_rfl) (by kernel_rfl) (by kernel_rfl) (fun _ _ _ h => h) (Or.inl ⟨by kernel_rfl, fun w => by go_simp⟩) ?_; (try dsimp only [Act.put])
            refine wpAny_take (i := 11) (v := .bool true) rfl (by kernel_rfl) (by kernel_rfl) (by kernel_rfl) (fun _ _ _ h => h) (Or.inl ⟨by kernel_rfl, fun w => by kernel_rfl⟩) ?_; (try dsimp only [Act.put])
            refine wpAny_done (by kernel_rfl) ?_ _
            go_simp
            have HO2 := Lib.hid (HO.out.next HP8.out)
            clear HO
            have HO := HO2
            clear HO2
            obtain ⟨q0, q1, q6, q7⟩ := HLD.out _ HO.out.past
            have howx : w8.ownsRow wb.heap.size 3 1 (.slice A1 nx c1) nx (LX.map (Value.int .i64)) := by have h := HO.out.x; rw [HNX.out] at h; exact h
            go_upto_region 11 with (at_builtin; refine wpList_append_own_at _ rfl _ _ 40 rfl wb.heap.size 3 i0 (.int .i64 0) 1 8 Tryd.underlying40 hi hz0 hz1 hz2 rfl (by decide) _ nx _ rfl (howx.alloc _) ⟨w8.heap.size, 0, none⟩ 1 1 [.int .i64 r.alg] rfl rfl ?c1 ?c2 ?c3 ?c4 ?c5 ?_)
            case c1 =>
              intro j z hj
              cases j with
              | zero =>
                simp at hj
                subst hj
                rw [add_none, World.cell?_alloc_new]
                rfl
              | succ j => simp at hj
            case c2 => simp [Value.oneCell']
            case c3 => unfold maxLen; omega
            case c4 => omega
            case c5 => exact Nat.le_trans HO.out.past.size (by simp)
            intro v' wn hown1 hgrow1 _ hat1
            obtain ⟨B3, d3, rfl⟩ := own_slice hown1
            have HO2 : Hid (Two wb wn (.slice B3 (nx + 1) d3) (LX ++ [r.alg]) (.slice A2 ny c2) LY) := Lib.hid ((HO.out.next ((Below.refl _ _).alloc (Nat.le_refl _) _)).grow r.alg (by rw [HNX.out]; exact hown1) hgrow1 (by rw [World.size_alloc]; exact hat1))
            clear hown1 hgrow1 hat1 HO howx q0 q1 q6 q7
            have HO := HO2
            clear HO2
            go_upto_region 11 with (fail)
            rcases (show s = 0 ∨ (¬ s = 0 ∧ ¬ r.fam = f) ∨ (¬ s = 0 ∧ r.fam = f ∧ ¬ r.sig = s) ∨ (¬ s = 0 ∧ r.fam = f ∧ r.sig = s) by omega) with hv | hv | hv | hv
            · have hb1 : (s != 0) = false := by simp [hv]
              have hb2 : (s == 0) = true := by simp [hv]
              have hb3 : decide (s = 0) = true := by simp [hv]
              have HYE : Hid (algs (pSize f s) (k + 1) = LY) := Lib.hid (by rw [HAY.out false (by simp [hv])]; rfl)
              clear hv
              obtain ⟨q0, q1, q6, q7⟩ := HLD.out _ HO.out.past
              go_wp2_with fail
              go_roundg (25 - (k + 1))
              case rel =>
                have e1 : algs (pO true T) (k + 1) = (LX ++ [r.alg]) := by rw [HXE.out]
                have e2 : algs (pSize f s) (k + 1) = LY := by rw [HYE.out]
                have e3 : (LX ++ [r.alg]).length = nx + 1 := by first | exact HNX.out | (rw [List.length_append, HNX.out]; rfl)
                have e4 : LY.length = ny := by first | exact HNY.out | (rw [List.length_append, HNY.out]; rfl)
                exact ⟨k + 1, B3, A2, d3, c2, HLT.out, rfl, by rw [e1, e3], by rw [e2, e4], by go_num, by rw [e1, e2, e3, e4]; exact HO⟩
              case measure => have := HQ.out; have := HLT.out; omega
            · obtain ⟨hv0, hv1⟩ := hv
              have hb1 : (s != 0) = true := by simp [hv0]
              have hb2 : (s == 0) = false := by simp [hv0]
              have hb4 : (r.fam == f) = false := by simp [hv1]
              have HYE : Hid (algs (pSize f s) (k + 1) = LY) := Lib.hid (by rw [HAY.out false (by simp [hv1])]; rfl)
              obtain ⟨q0, q1, q6, q7⟩ := HLD.out _ HO.out.past
              go_wp2_with fail
              go_roundg (25 - (k + 1))
              case rel =>
                have e1 : algs (pO true T) (k + 1) = (LX ++ [r.alg]) := by rw [HXE.out]
                have e2 : algs (pSize f s) (k + 1) = LY := by rw [HYE.out]
                have e3 : (LX ++ [r.alg]).length = nx + 1 := by first | exact HNX.out | (rw [List.length_append, HNX.out]; rfl)
                have e4 : LY.length = ny := by first | exact HNY.out | (rw [List.length_append, HNY.out]; rfl)
                exact ⟨k + 1, B3, A2, d3, c2, HLT.out, rfl, by rw [e1, e3], by rw [e2, e4], by go_num, by rw [e1, e2, e3, e4]; exact HO⟩
              case measure => have := HQ.out; have := HLT.out; omega
            · obtain ⟨hv0, hv1, hv2⟩ := hv
              have hb1 : (s != 0) = true := by simp [hv0]
              have hb2 : (s == 0) = false := by simp [hv0]
              have hb4 : (r.fam == f) = true := by simp [hv1]
              have hb5 : (r.sig == s) = false := by simp [hv2]
              have HYE : Hid (algs (pSize f s) (k + 1) = LY) := Lib.hid (by rw [HAY.out false (by simp [hv2])]; rfl)
              have HV1 := Lib.hid hv1
              clear hv1
              obtain ⟨q0, q1, q6, q7⟩ := HLD.out _ HO.out.past
              go_wp2_with fail
              go_roundg (25 - (k + 1))
              case rel =>
                have e1 : algs (pO true T) (k + 1) = (LX ++ [r.alg]) := by rw [HXE.out]
                have e2 : algs (pSize f s) (k + 1) = LY := by rw [HYE.out]
                have e3 : (LX ++ [r.alg]).length = nx + 1 := by first | exact HNX.out | (rw [List.length_append, HNX.out]; rfl)
                have e4 : LY.length = ny := by first | exact HNY.out | (rw [List.length_append, HNY.out]; rfl)
                exact ⟨k + 1, B3, A2, d3, c2, HLT.out, rfl, by rw [e1, e3], by rw [e2, e4], by go_num, by rw [e1, e2, e3, e4]; exact HO⟩
              case measure => have := HQ.out; have := HLT.out; omega
            · obtain ⟨hv0, hv1, hv2⟩ := hv
              have hb1 : (s != 0) = true := by simp [hv0]
              have hb2 : (s == 0) = false := by simp [hv0]
              have hb4 : (r.fam == f) = true := by simp [hv1]
              have hb5 : (r.sig == s) = true := by simp [hv2]
              have HYE : Hid (algs (pSize f s) (k + 1) = LY ++ [r.alg]) := Lib.hid (by rw [HAY.out true (by simp [hv0, hv1, hv2]), HAL.out]; rfl)
              have HV1 := Lib.hid hv1
              have HV2 := Lib.hid hv2
              clear hv1 hv2
              obtain ⟨q0, q1, q6, q7⟩ := HLD.out _ HO.out.past
              have howx : wn.ownsRow wb.heap.size 3 1 (.slice A2 ny c2) ny (LY.map (Value.int .i64)) := by have h := HO.out.y; rw [HNY.out] at h; exact h
              go_wp2_with (at_builtin; refine wpList_append_own_at _ rfl _ _ 40 rfl wb.heap.size 3 i0 (.int .i64 0) 1 8 Tryd.underlying40 hi hz0 hz1 hz2 rfl (by decide) _ ny _ rfl (howx.alloc _) ⟨wn.heap.size, 0, none⟩ 1 1 [.int .i64 r.alg] rfl rfl ?c1 ?c2 ?c3 ?c4 ?c5 ?_)
              case c1 =>
                intro j z hj
                cases j with
                | zero =>
                  simp at hj
                  subst hj
                  rw [add_none, World.cell?_alloc_new]
                  rfl
                | succ j => simp at hj
              case c2 => simp [Value.oneCell']
              case c3 => unfold maxLen; omega
              case c4 => omega
              case c5 => exact Nat.le_trans HO.out.past.size (by simp)
              intro v' wm hown1 hgrow1 _ hat1
              obtain ⟨B4, d4, rfl⟩ := own_slice hown1
              have HO2 : Hid (Two wb wm (.slice B3 (nx + 1) d3) (LX ++ [r.alg]) (.slice B4 (ny + 1) d4) (LY ++ [r.alg])) := Lib.hid (((HO.out.next ((Below.refl _ _).alloc (Nat.le_refl _) _)).swap.grow r.alg (by rw [HNY.out]; exact hown1) hgrow1 (by rw [World.size_alloc]; exact hat1)).swap)
              clear hown1 hgrow1 hat1 HO howx q0 q1 q6 q7
              have HO := HO2
              clear HO2
              go_wp2_with fail
              go_roundg (25 - (k + 1))
              case rel =>
                have e1 : algs (pO true T) (k + 1) = (LX ++ [r.alg]) := by rw [HXE.out]
                have e2 : algs (pSize f s) (k + 1) = (LY ++ [r.alg]) := by rw [HYE.out]
                have e3 : (LX ++ [r.alg]).length = nx + 1 := by first | exact HNX.out | (rw [List.length_append, HNX.out]; rfl)
                have e4 : (LY ++ [r.alg]).length = ny + 1 := by first | exact HNY.out | (rw [List.length_append, HNY.out]; rfl)
                exact ⟨k + 1, B3, B4, d3, d4, HLT.out, rfl, by rw [e1, e3], by rw [e2, e4], by go_num, by rw [e1, e2, e3, e4]; exact HO⟩
              case measure => have := HQ.out; have := HLT.out; omega
          · go_simp
            refine (HT.out _ (HSL.out.past (HWB.out.trans' (HO.out.past.trans' HPD.out)))).mono ?_
            rintro e8 w8 ⟨rfl, hp8⟩
            have HP8 : Hid (Past wr w8) := Lib.hid (HPD.out.trans' hp8)
            obtain ⟨f0, f1, f6, f7⟩ := HLD.out _ (HO.out.past.trans' HP8.out)
            clear hp8
            refine hK _ _ ?_
            clear hK K
            (try dsimp only [Act.put])
            refine wpAny_ready (rs := [7]) (by kernel_rfl) (by simp) ?_
            refine AllReady.cons rfl (fun K hK => ?_) AllReady.nil
            go_simp
            refine hK _ _ ?_
            clear hK K
            (try dsimp only [Act.put])
            refine wpAny_take (i := 10) (v := .bool true) rfl (by kernel_rfl) (by kernel_rfl) (by kernel_rfl) (fun _ _ _ h => h) (Or.inl ⟨by kernel_rfl, fun w => by go_simp⟩) ?_; (try dsimp only [Act.put])
            refine wpAny_take (i := 11) (v := .bool true) rfl (by kernel_rfl) (by kernel_rfl) (by kernel_rfl) (fun _ _ _ h => h) (Or.inl ⟨by kernel_rfl, fun w => by kernel_rfl⟩) ?_; (try dsimp only [Act.put])
            refine wpAny_done (by kernel_rfl) ?_ _
            go_simp
            have HO2 := Lib.hid (HO.out.next HP8.out)
            clear HO
            have HO := HO2
            clear HO2
            obtain ⟨q0, q1, q6, q7⟩ := HLD.out _ HO.out.past
            have howx : w8.ownsRow wb.heap.size 3 1 (.slice A1 nx c1) nx (LX.map (Value.int .i64)) := by have h := HO.out.x; rw [HNX.out] at h; exact h
            go_upto_region 11 with (at_builtin; refine wpList_append_own_at _ rfl _ _ 40 rfl wb.heap.size 3 i0 (.int .i64 0) 1 8 Tryd.underlying40 hi hz0 hz1 hz2 rfl (by decide) _ nx _ rfl (howx.alloc _) ⟨w8.heap.size, 0, none⟩ 1 1 [.int .i64 r.alg] rfl rfl ?c1 ?c2 ?c3 ?c4 ?c5 ?_)
            case c1 =>
              intro j z hj
              cases j with
              | zero =>
                simp at hj
                subst hj
                rw [add_none, World.cell?_alloc_new]
                rfl
              | succ j => simp at hj
            case c2 => simp [Value.oneCell']
            case c3 => unfold maxLen; omega
            case c4 => omega
            case c5 => exact Nat.le_trans HO.out.past.size (by simp)
            intro v' wn hown1 hgrow1 _ hat1
            obtain ⟨B3, d3, rfl⟩ := own_slice hown1
            have HO2 : Hid (Two wb wn (.slice B3 (nx + 1) d3) (LX ++ [r.alg]) (.slice A2 ny c2) LY) := Lib.hid ((HO.out.next ((Below.refl _ _).alloc (Nat.le_refl _) _)).grow r.alg (by rw [HNX.out]; exact hown1) hgrow1 (by rw [World.size_alloc]; exact hat1))
            clear hown1 hgrow1 hat1 HO howx q0 q1 q6 q7
            have HO := HO2
            clear HO2
            go_upto_region 11 with (fail)
            rcases (show s = 0 ∨ (¬ s = 0 ∧ ¬ r.fam = f) ∨ (¬ s = 0 ∧ r.fam = f ∧ ¬ r.sig = s) ∨ (¬ s = 0 ∧ r.fam = f ∧ r.sig = s) by omega) with hv | hv | hv | hv
            · have hb1 : (s != 0) = false := by simp [hv]
              have hb2 : (s == 0) = true := by simp [hv]
              have hb3 : decide (s = 0) = true := by simp [hv]
              have HYE : Hid (algs (pSize f s) (k + 1) = LY) := Lib.hid (by rw [HAY.out false (by simp [hv])]; rfl)
              clear hv
              obtain ⟨q0, q1, q6, q7⟩ := HLD.out _ HO.out.past
              go_wp2_with fail
              go_roundg (25 - (k + 1))
              case rel =>
                have e1 : algs (pO true T) (k + 1) = (LX ++ [r.alg]) := by rw [HXE.out]
                have e2 : algs (pSize f s) (k + 1) = LY := by rw [HYE.out]
                have e3 : (LX ++ [r.alg]).length = nx + 1 := by first | exact HNX.out | (rw [List.length_append, HNX.out]; rfl)
                have e4 : LY.length = ny := by first | exact HNY.out | (rw [List.length_append, HNY.out]; rfl)
                exact ⟨k + 1, B3, A2, d3, c2, HLT.out, rfl, by rw [e1, e3], by rw [e2, e4], by go_num, by rw [e1, e2, e3, e4]; exact HO⟩
              case measure => have := HQ.out; have := HLT.out; omega
            · obtain ⟨hv0, hv1⟩ := hv
              have hb1 : (s != 0) = true := by simp [hv0]
              have hb2 : (s == 0) = false := by simp [hv0]
              have hb4 : (r.fam == f) = false := by simp [hv1]
              have HYE : Hid (algs (pSize f s) (k + 1) = LY) := Lib.hid (by rw [HAY.out false (by simp [hv1])]; rfl)
              obtain ⟨q0, q1, q6, q7⟩ := HLD.out _ HO.out.past
              go_wp2_with fail
              go_roundg (25 - (k + 1))
              case rel =>
                have e1 : algs (pO true T) (k + 1) = (LX ++ [r.alg]) := by rw [HXE.out]
                have e2 : algs (pSize f s) (k + 1) = LY := by rw [HYE.out]
                have e3 : (LX ++ [r.alg]).length = nx + 1 := by first | exact HNX.out | (rw [List.length_append, HNX.out]; rfl)
                have e4 : LY.length = ny := by first | exact HNY.out | (rw [List.length_append, HNY.out]; rfl)
                exact ⟨k + 1, B3, A2, d3, c2, HLT.out, rfl, by rw [e1, e3], by rw [e2, e4], by go_num, by rw [e1, e2, e3, e4]; exact HO⟩
              case measure => have := HQ.out; have := HLT.out; omega
            · obtain ⟨hv0, hv1, hv2⟩ := hv
              have hb1 : (s != 0) = true := by simp [hv0]
              have hb2 : (s == 0) = false := by simp [hv0]
              have hb4 : (r.fam == f) = true := by simp [hv1]
              have hb5 : (r.sig == s) = false := by simp [hv2]
              have HYE : Hid (algs (pSize f s) (k + 1) = LY) := Lib.hid (by rw [HAY.out false (by simp [hv2])]; rfl)
              have HV1 := Lib.hid hv1
              clear hv1
              obtain ⟨q0, q1, q6, q7⟩ := HLD.out _ HO.out.past
              go_wp2_with fail
              go_roundg (25 - (k + 1))
              case rel =>
                have e1 : algs (pO true T) (k + 1) = (LX ++ [r.alg]) := by rw [HXE.out]
                have e2 : algs (pSize f s) (k + 1) = LY := by rw [HYE.out]
                have e3 : (LX ++ [r.alg]).length = nx + 1 := by first | exact HNX.out | (rw [List.length_append, HNX.out]; rfl)
                have e4 : LY.length = ny := by first | exact HNY.out | (rw [List.length_append, HNY.out]; rfl)
                exact ⟨k + 1, B3, A2, d3, c2, HLT.out, rfl, by rw [e1, e3], by rw [e2, e4], by go_num, by rw [e1, e2, e3, e4]; exact HO⟩
              case measure => have := HQ.out; have := HLT.out; omega
            · obtain ⟨hv0, hv1, hv2⟩ := hv
              have hb1 : (s != 0) = true := by simp [hv0]
              have hb2 : (s == 0) = false := by simp [hv0]
              have hb4 : (r.fam == f) = true := by simp [hv1]
              have hb5 : (r.sig == s) = true := by simp [hv2]
              have HYE : Hid (algs (pSize f s) (k + 1) = LY ++ [r.alg]) := Lib.hid (by rw [HAY.out true (by simp [hv0, hv1, hv2]), HAL.out]; rfl)
              have HV1 := Lib.hid hv1
              have HV2 := Lib.hid hv2
              clear hv1 hv2
              obtain ⟨q0, q1, q6, q7⟩ := HLD.out _ HO.out.past
              have howx : wn.ownsRow wb.heap.size 3 1 (.slice A2 ny c2) ny (LY.map (Value.int .i64)) := by have h := HO.out.y; rw [HNY.out] at h; exact h
              go_wp2_with (at_builtin; refine wpList_append_own_at _ rfl _ _ 40 rfl wb.heap.size 3 i0 (.int .i64 0) 1 8 Tryd.underlying40 hi hz0 hz1 hz2 rfl (by decide) _ ny _ rfl (howx.alloc _) ⟨wn.heap.size, 0, none⟩ 1 1 [.int .i64 r.alg] rfl rfl ?c1 ?c2 ?c3 ?c4 ?c5 ?_)
              case c1 =>
                intro j z hj
                cases j with
                | zero =>
                  simp at hj
                  subst hj
                  rw [add_none, World.cell?_alloc_new]
                  rfl
                | succ j => simp at hj
              case c2 => simp [Value.oneCell']
              case c3 => unfold maxLen; omega
              case c4 => omega
              case c5 => exact Nat.le_trans HO.out.past.size (by simp)
              intro v' wm hown1 hgrow1 _ hat1
              obtain ⟨B4, d4, rfl⟩ := own_slice hown1
              have HO2 : Hid (Two wb wm (.slice B3 (nx + 1) d3) (LX ++ [r.alg]) (.slice B4 (ny + 1) d4) (LY ++ [r.alg])) := Lib.hid (((HO.out.next ((Below.refl _ _).alloc (Nat.le_refl _) _)).swap.grow r.alg (by rw [HNY.out]; exact hown1) hgrow1 (by rw [World.size_alloc]; exact hat1)).swap)
              clear hown1 hgrow1 hat1 HO howx q0 q1 q6 q7
              have HO := HO2
              clear HO2
              go_wp2_with fail
              go_roundg (25 - (k + 1))
              case rel =>
                have e1 : algs (pO true T) (k + 1) = (LX ++ [r.alg]) := by rw [HXE.out]
                have e2 : algs (pSize f s) (k + 1) = (LY ++ [r.alg]) := by rw [HYE.out]
                have e3 : (LX ++ [r.alg]).length = nx + 1 := by first | exact HNX.out | (rw [List.length_append, HNX.out]; rfl)
                have e4 : (LY ++ [r.alg]).length = ny + 1 := by first | exact HNY.out | (rw [List.length_append, HNY.out]; rfl)
                exact ⟨k + 1, B3, B4, d3, d4, HLT.out, rfl, by rw [e1, e3], by rw [e2, e4], by go_num, by rw [e1, e2, e3, e4]; exact HO⟩
              case measure => have := HQ.out; have := HLT.out; omega
    · obtain rfl : k = 25 := by omega
      have HSX : Hid (SlK .i64 wr A1 (algs (pO v T) 25).length c1 (algs (pO v T) 25)) := Lib.hid (slK_of_own HO.out.x)
      have HSY : Hid (SlK .i64 wr A2 (algs (pSize f s) 25).length c2 (algs (pSize f s) 25)) := Lib.hid (slK_of_own HO.out.y)
      have HPW : Hid (Past w wr) := Lib.hid (HWB.out.trans' HO.out.past)
      have HE1 := Lib.hid (fun A B c d w h1 h2 => HEQ.out A B c d w (pO v T) h1 h2)
      have HE2 := Lib.hid (fun A B c d w h1 h2 => HEQ.out A B c d w (pSize f s) h1 h2)
      clear hlt hk HO hk0 HEQ HTB
      generalize algs (pO v T) 25 = LX at *
      generalize algs (pSize f s) 25 = LY at *
      go_wp2_with fail
      refine (HBO.out wr (HG.out.past HPW.out) (HSL.out.past HPW.out)).mono ?_
      rintro e wA ⟨B1, e1, rfl, hs, hp⟩
      have HA := Lib.hid hp
      have HSA := Lib.hid hs
      clear hp hs
      go_wp2_with fail
      refine (HE1.out B1 A1 e1 c1 wA HSA.out (HSX.out.past HA.out)).mono ?_
      rintro e wB ⟨rfl, hp⟩
      have HB := Lib.hid (HA.out.trans' hp)
      clear hp HSA HA
      go_wp2_with fail
      refine (HBS.out wB (HG.out.past (HPW.out.trans' HB.out))).mono ?_
      rintro e wC ⟨B2, e2, rfl, hs, hp⟩
      have HC := Lib.hid (HB.out.trans' hp)
      have HSC := Lib.hid hs
      clear hp hs HB
      go_wp2_with fail
      refine (HE2.out B2 A2 e2 c2 wC HSC.out (HSY.out.past HC.out)).mono ?_
      rintro e wD ⟨rfl, hp⟩
      have HD := Lib.hid (HC.out.trans' hp)
      clear hp HSC HC
      go_wp2_with fail
      go_ret
      exact ⟨rfl, HPW.out.trans' HD.out⟩
end Go.Proofs.YtnjoccmjembppaaDoor.paramsLists

