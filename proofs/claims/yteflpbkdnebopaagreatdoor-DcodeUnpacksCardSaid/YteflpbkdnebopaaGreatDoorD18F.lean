/- The closures that take the parts of a key in turn. -/
import Derived.Test.YteflpbkdnebopaaGreatDoorD18E
namespace Go.Proofs.YteflpbkdnebopaaGreatDoor
open Go.RowKit
set_option linter.unusedVariables false
set_option maxRecDepth 100000

theorem Row.ne {w : World} {g h : Nat} {t u : TypeId} {cs ds : Array Value} (r : Row w g t cs) (s : Row w h u ds) (ht : t ≠ u) : g ≠ h := by
  intro e
  subst e
  unfold Row at r s
  rw [r] at s
  injection s with s
  injection s with _ s
  exact ht s
set_option maxHeartbeats 2000000 in
theorem take_any (hk ha b o n c L H m : Nat) (w : World) (hK : Row w hk 25 #[.slice (some ⟨b, o, none⟩) n c]) (hA : Row w ha 3 #[.int .i64 (L : Int)]) (hm : L + m = H) (hH : H ≤ n) (hnc : n ≤ c) (h0 : 0 < m) (hn : n ≤ 10000) :
    Calls Tryz.prog 34 #[.int .i64 (m : Int), .pointer (some ⟨hk, 0, none⟩), .pointer (some ⟨ha, 0, none⟩)] w fun e w' =>
      e = .returned (.slice (some ⟨b, o + L, none⟩) (H - L) (c - L)) ∧ w' = w.setCell ⟨ha, 0, none⟩ (.int .i64 (H : Int)) := by
  have k0 := hK.cell 0
  have a0 := hA.cell 0
  have f0 := hA.fr 0
  simp only [List.getElem?_toArray, List.getElem?_cons_zero] at k0 a0
  have hw1 : IntKind.i64.wrap ((L : Int) + (m : Int)) = (H : Int) := by rw [IntKind.wrap_i64]; omega
  have hw2 : wrap64 (H : Int) = (H : Int) := IntWalk.wrap64_in _ (by omega)
  have hb1 : (L : Int) ≤ (H : Int) := by omega
  have hb2 : (H : Int) ≤ (c : Int) := by omega
  have hb3 : ¬ c = L := by omega
  have hb4 : (0 : Int) ≤ (L : Int) := by omega
  clear hK hA hm hH hnc h0 hn
  go_enter Tryz.func34, Tryz.ntmps34
  go_wp2_with fail
  go_ret
  exact ⟨rfl, rfl⟩
theorem grown_setRow18 {a w : World} {row : Option Nat} (h : a.grownBy w row) {u : Nat} (hu : a.heap.size ≤ u) (cs : Array Value) : a.grownBy (w.setRow u cs) row :=
  ⟨h.os, h.tape, h.output, by simpa using h.size, fun i hi hne => (setRow_other w u i cs (by omega)).trans (h.block i hi hne)⟩
/-- What the closures find in memory: the key, the place in it, the closure that takes, and a packing. -/
structure NxP (w : World) (hk ha ht hh b o n c : Nat) (xs : List Int) (top : Int) (D : Nat) : Prop where
  key : Row w hk 25 #[.slice (some ⟨b, o, none⟩) n c]
  tak : Row w ht 83 #[.func (.func 34) #[] #[.pointer (some ⟨hk, 0, none⟩), .pointer (some ⟨ha, 0, none⟩)]]
  how : Row w hh 85 (pkV top (D : Int))
  sl : Sl w (some ⟨b, o, none⟩) n c xs
  hkn : hk ≠ ha
  htn : ht ≠ ha
  hhn : hh ≠ ha
  bn : b ≠ ha
theorem NxP.grown {w w' : World} {hk ha ht hh b o n c : Nat} {xs : List Int} {top : Int} {D : Nat} (h : NxP w hk ha ht hh b o n c xs top D) (hg : w.grownBy w' (some ha)) : NxP w' hk ha ht hh b o n c xs top D :=
  ⟨h.key.grown hg (by simpa using h.hkn), h.tak.grown hg (by simpa using h.htn), h.how.grown hg (by simpa using h.hhn), h.sl.far hg (by simpa using h.bn), h.hkn, h.htn, h.hhn, h.bn⟩
/-- What the closure of a packing returns for a polynomial P. -/
def nxE (P : Nat → Int) (top L : Int) : Int × Int := if nrmQ P 256 ≤ top then (0, 0) else (9, L)
def NxR (P : Nat → Int) (top L : Int) (e : Ending) : Prop := ∃ G, R32 G ∧ e = .returned (.tuple #[.agg (arr .u32 256 G), errV (nxE P top L)]) ∧ (nrmQ P 256 ≤ top → G = P)
set_option maxHeartbeats 4000000 in
theorem next1_any (hk ha ht hh b o n c L H D : Nat) (xs : List Int) (top : Int) (w : World) (hN : NxP w hk ha ht hh b o n c xs top D) (hA : Row w ha 3 #[.int .i64 (L : Int)]) (hm : L + 32 * D = H) (hH : H ≤ n) (hn : n ≤ 10000) (d1 : 1 ≤ D) (d2 : D ≤ 20) (t0 : 0 ≤ top) (t1 : top < 4294967296) :
    Calls Tryz.prog 36 #[.pointer (some ⟨ha, 0, none⟩), .pointer (some ⟨hh, 0, none⟩), .pointer (some ⟨ht, 0, none⟩)] w fun e w' =>
      NxR (plyD D top (seg xs L (32 * D))) top (L : Int) e ∧
        w.grownBy w' (some ha) ∧ Row w' ha 3 #[.int .i64 (H : Int)] := by
  obtain ⟨m, hmd⟩ : ∃ m, 32 * D = m := ⟨_, rfl⟩
  have hsz : sizeI (D : Int) 256 = (m : Int) := by rw [sizeW D d1 (by omega), hmd]
  rw [hmd] at hm
  obtain ⟨g, hg⟩ : ∃ g, w.heap.size = g := ⟨_, rfl⟩
  obtain ⟨w1, hw1⟩ : ∃ W, w.alloc (.cells (arr .u32 256 fun _ => 0) 57) = W := ⟨_, rfl⟩
  have hp1 : Past w w1 := by rw [← hw1]; exact (Below.refl _ _).alloc (Nat.le_refl _) _
  have HR1 : Hid (Row w1 g 57 (arr .u32 256 fun _ => 0)) := Lib.hid (by rw [← hw1, ← hg]; exact Row.new _ _ _)
  have HPW := Lib.hid hp1
  have HN1 := Lib.hid (hN.grown (only_of_past hp1 _))
  have HA1 := Lib.hid (hA.past hp1)
  have HGA : Hid (ha < g) := Lib.hid (by rw [← hg]; exact hA.lt)
  have hcap := hN.sl.cap
  have hlen := hN.sl.len
  have HSZ := Lib.hid (fun w => pksize_any top (D : Int) w)
  rw [hsz] at HSZ
  have HTK := Lib.hid (fun W (h : w1.grownBy W (some ha)) (h2 : Row W ha 3 #[.int .i64 (L : Int)]) => take_any hk ha b o n c L H m W (HN1.out.grown h).key h2 hm hH hcap (by omega) hn)
  have HUN := Lib.hid (fun W (h : w1.grownBy W (some ha)) => punpackM_any D d1 (by omega) top t0 t1 (some ⟨b, o + L, none⟩) (H - L) (c - L) (seg xs L m) W ((HN1.out.grown h).sl.at2 hm hH (by omega)) (by omega) (by rw [seg_len (by omega)]; exact hmd.symm))
  rw [hmd]
  have HRP : Hid (R32 (plyD D top (seg xs L m))) := Lib.hid (R32.of_low fun j => plyD_rng D top _ j)
  have HZ0 : Hid (R32 fun _ => 0) := Lib.hid (fun j => ⟨Int.le_refl _, show (0 : Int) < 4294967296 by decide⟩)
  generalize plyD D top (seg xs L m) = P at *
  obtain ⟨q, hq⟩ : ∃ q, nrmQ P 256 = q := ⟨_, rfl⟩
  rw [hq] at HUN
  have HQ := Lib.hid hq
  have HW1 := Lib.hid hw1
  have HGW := Lib.hid hg
  have HZ := Lib.hid zeroP
  have HI := Lib.hid infP
  have HO := Lib.hid (fun f => arr_one .u32 256 f)
  have HSA := Lib.hid (fun f => arr_size .u32 256 f)
  obtain ⟨zs, hzs⟩ : ∃ zs, arr .u32 256 (fun _ => (0 : Int)) = zs := ⟨_, rfl⟩
  have HZS := Lib.hid hzs
  rw [hzs] at HZ HR1
  obtain ⟨F, hF⟩ : ∃ F, (if q ≤ top then P else fun _ => 0) = F := ⟨_, rfl⟩
  rw [hF] at HUN
  have HF := Lib.hid hF
  obtain ⟨ok, hok⟩ : ∃ ok, decide (q ≤ top) = ok := ⟨_, rfl⟩
  rw [hok] at HUN
  have HOK := Lib.hid hok
  have HZC : Hid (Tryz.zeroCells57 = zs) := Lib.hid (by rw [← hzs]; kernel_rfl)
  have HS1 : Hid (zs.size = 256) := Lib.hid (by rw [← hzs]; exact HSA.out _)
  have HFS := Lib.hid (HSA.out F)
  have HFI := Lib.hid (HI.out F)
  have HFO := Lib.hid (HO.out F)
  obtain ⟨cF, hcF⟩ : ∃ cF, arr .u32 256 F = cF := ⟨_, rfl⟩
  rw [hcF] at HUN HFS HFI HFO
  have HCF := Lib.hid hcF
  have HPK : Hid ((Tryz.prog.info? 85).map (·.size) = some (pkV top (D : Int)).toList.length) := Lib.hid (infK top (D : Int))
  have HSS : Hid (∀ W, w1.grownBy W (some ha) → W.rangeAt hh 0 (pkV top (D : Int)).toList ∧ W.cell? ⟨ht, 0, none⟩ = some (.func (.func 34) #[] #[.pointer (some ⟨hk, 0, none⟩), .pointer (some ⟨ha, 0, none⟩)])) := Lib.hid (fun W h => ⟨fun j v hj => by
    rw [Nat.zero_add, (HN1.out.grown h).how.cell]
    simpa using hj, by rw [(HN1.out.grown h).tak.cell]; rfl⟩)
  have HPT : Hid ((pkV top (D : Int)).toList.toArray = pkV top (D : Int)) := Lib.hid (by simp)
  have HEN : Hid (∀ args w, (callFunc 34 args).run Tryz.prog w = .ok (.enter 34 args) w) := Lib.hid (enters_of Tryz.func34 (by kernel_rfl) rfl)
  generalize hlk : (pkV top (D : Int)).toList = lk at *
  generalize pkV top (D : Int) = ck at *
  clear hlk
  rw [← HPT.out] at HSZ HUN
  have a0 := HA1.out.cell 0
  simp only [List.getElem?_toArray, List.getElem?_cons_zero] at a0
  clear hN hA hm hH hn d1 d2 t0 t1 hw1 hp1 hg hzs hq hF hok hcF hcap hlen hsz hmd
  go_enter Tryz.func36, Tryz.ntmps36
  have hz := HZ.out
  go_upto_region 1 with (fail)
  rw [← HZS.out] at hz ⊢
  rw [HW1.out]
  try rw [HGW.out]
  clear hz
  go_upto_region 2 with (fail)
  obtain ⟨w2, hw2⟩ : ∃ W, W = w1.drew := ⟨_, rfl⟩
  have HN2 : Hid (w1.grownBy w2 (some ha) ∧ Row w2 ha 3 #[.int .i64 (L : Int)]) := Lib.hid (by rw [hw2]; exact ⟨only_drewN (World.grownBy.refl w1 _) 1, HA1.out.drewN 1⟩)
  refine wp_region_held_drew (S := fun W => W.rangeAt hh 0 lk ∧ W.cell? ⟨ht, 0, none⟩ = some (.func (.func 34) #[] #[.pointer (some ⟨hk, 0, none⟩), .pointer (some ⟨ha, 0, none⟩)])) (by kernel_rfl) (by rw [← hw2]; exact HSS.out _ HN2.out.1) (fun hH => ?_)
  change wpAnyH _ _ _ _ _ _ _ _ (World.drew _)
  rw [← hw2]
  clear hH hw2 a0
  have hH := HSS.out _ HN2.out.1
  refine held_take 0 10 rfl rfl (by kernel_rfl) (by kernel_rfl) (by kernel_rfl) (fun _ _ _ h => h) (yieldsIf_load_mid (by kernel_rfl) 85 (.tmp 1) rfl hh 0 rfl lk _ (fun _ h => h.1) Tryz.underlying85 rfl HPK.out) hH ?_
  (try simp only [List.setIfInBounds_toArray, List.set_cons_zero, List.set_cons_succ])
  refine held_take 1 11 (v := .func (.func 34) #[] #[.pointer (some ⟨hk, 0, none⟩), .pointer (some ⟨ha, 0, none⟩)]) rfl rfl (by kernel_rfl) (by kernel_rfl) (by kernel_rfl) (fun _ _ _ h => h) (Or.inl ⟨by kernel_rfl, fun w hSw => by
    have hcell := hSw.2
    go_simp⟩) hH ?_
  (try simp only [List.setIfInBounds_toArray, List.set_cons_zero, List.set_cons_succ])
  refine held_take 2 12 rfl rfl (by kernel_rfl) (by kernel_rfl) (by kernel_rfl) (fun _ _ _ h => h) (yieldsIf_load_mid (by kernel_rfl) 85 (.tmp 1) rfl hh 0 rfl lk _ (fun _ h => h.1) Tryz.underlying85 rfl HPK.out) hH ?_
  (try simp only [List.setIfInBounds_toArray, List.set_cons_zero, List.set_cons_succ])
  refine wpAnyH_ready (rs := [3, 9]) (by kernel_rfl) (by simp) ?_
  refine AllReadyH.cons (by simp only [List.getElem?_toArray, List.getElem?_cons_succ, List.getElem?_cons_zero]; rfl) (fun K hK => ?_) (AllReadyH.cons (by simp only [List.getElem?_toArray, List.getElem?_cons_succ, List.getElem?_cons_zero]; rfl) (fun K hK => ?_) AllReadyH.nil)
  · go_simp
    refine (HSZ.out _).mono ?_
    rintro e1 wc1 ⟨rfl, hp⟩
    have HNc1 : Hid (w1.grownBy wc1 (some ha) ∧ Row wc1 ha 3 #[.int .i64 (L : Int)]) := Lib.hid ⟨only_trans HN2.out.1 (only_of_past hp _), HN2.out.2.past hp⟩
    clear hp
    refine hK.out _ _ (HSS.out _ HNc1.out.1) (fun hH => ?_)
    clear hK K
    (try dsimp only [Act.put])
    (try simp only [List.setIfInBounds_toArray, List.set_cons_zero, List.set_cons_succ])
    refine wpAnyH_ready (rs := [4, 9]) (by kernel_rfl) (by simp) ?_
    refine AllReadyH.cons (by simp only [List.getElem?_toArray, List.getElem?_cons_succ, List.getElem?_cons_zero]; rfl) (fun K hK => ?_) (AllReadyH.cons (by simp only [List.getElem?_toArray, List.getElem?_cons_succ, List.getElem?_cons_zero]; rfl) (fun K hK => ?_) AllReadyH.nil)
    · go_simp
      have hen := HEN.out
      go_simp
      refine (HTK.out _ HNc1.out.1 HNc1.out.2).mono ?_
      rintro e2 wc2 ⟨rfl, hw⟩
      clear hen
      have HNc2 : Hid (w1.grownBy wc2 (some ha) ∧ Row wc2 ha 3 #[.int .i64 (H : Int)]) := Lib.hid (by rw [hw]; exact ⟨only_setCell HNc1.out.1 (.inl rfl) _, Row.set HNc1.out.2 0 _⟩)
      clear hw
      refine hK.out _ _ (HSS.out _ HNc2.out.1) (fun hH => ?_)
      clear hK K
      (try dsimp only [Act.put])
      (try simp only [List.setIfInBounds_toArray, List.set_cons_zero, List.set_cons_succ])
      refine wpAnyH_ready (rs := [5, 9]) (by kernel_rfl) (by simp) ?_
      refine AllReadyH.cons (by simp only [List.getElem?_toArray, List.getElem?_cons_succ, List.getElem?_cons_zero]; rfl) (fun K hK => ?_) (AllReadyH.cons (by simp only [List.getElem?_toArray, List.getElem?_cons_succ, List.getElem?_cons_zero]; rfl) (fun K hK => ?_) AllReadyH.nil)
      · go_simp
        refine (HUN.out _ HNc2.out.1).mono ?_
        rintro e3 wc3 ⟨rfl, hp⟩
        have HNc3 : Hid (w1.grownBy wc3 (some ha) ∧ Row wc3 ha 3 #[.int .i64 (H : Int)]) := Lib.hid ⟨only_trans HNc2.out.1 (only_of_past hp _), HNc2.out.2.past hp⟩
        clear hp
        refine hK.out _ _ (HSS.out _ HNc3.out.1) (fun hH => ?_)
        clear hK K
        (try dsimp only [Act.put])
        (try simp only [List.setIfInBounds_toArray, List.set_cons_zero, List.set_cons_succ])
        refine held_take 6 9 (v := .tuple #[.agg cF, .bool ok]) rfl rfl (by kernel_rfl) (by kernel_rfl) (by kernel_rfl) (fun _ _ _ h => h) (Or.inl ⟨by kernel_rfl, fun w _ => by kernel_rfl⟩) hH ?_
        (try simp only [List.setIfInBounds_toArray, List.set_cons_zero, List.set_cons_succ])
        refine held_take 7 16 (v := .agg cF) rfl rfl (by kernel_rfl) (by kernel_rfl) (by kernel_rfl) (fun _ _ _ h => h) (Or.inl ⟨by kernel_rfl, fun w _ => by kernel_rfl⟩) hH ?_
        (try simp only [List.setIfInBounds_toArray, List.set_cons_zero, List.set_cons_succ])
        refine held_take 8 17 (v := .bool ok) rfl rfl (by kernel_rfl) (by kernel_rfl) (by kernel_rfl) (fun _ _ _ h => h) (Or.inl ⟨by kernel_rfl, fun w _ => by kernel_rfl⟩) hH ?_
        (try simp only [List.setIfInBounds_toArray, List.set_cons_zero, List.set_cons_succ])
        refine wpAnyH_ready (rs := [9]) (by kernel_rfl) (by simp) ?_
        refine AllReadyH.cons (by simp only [List.getElem?_toArray, List.getElem?_cons_succ, List.getElem?_cons_zero]; rfl) (fun K hK => ?_) AllReadyH.nil
        go_simp
        rw [HZC.out]
        obtain ⟨u, hu⟩ : ∃ u, wc3.heap.size = u := ⟨_, rfl⟩
        obtain ⟨wc4, hwc⟩ : ∃ w', wc3.alloc (.cells zs 57) = w' := ⟨_, rfl⟩
        have hpc : Past wc3 wc4 := by rw [← hwc]; exact (Below.refl _ _).alloc (Nat.le_refl _) _
        have HNc4 : Hid (w1.grownBy wc4 (some ha) ∧ Row wc4 ha 3 #[.int .i64 (H : Int)]) := Lib.hid ⟨only_trans HNc3.out.1 (only_of_past hpc _), HNc3.out.2.past hpc⟩
        have HRc4 : Hid (Row wc4 u 57 zs ∧ w1.heap.size ≤ u) := Lib.hid ⟨by rw [← hwc, ← hu]; exact Row.new _ _ _, by rw [← hu]; exact HNc3.out.1.size⟩
        try rw [hwc]
        try rw [hu]
        clear hwc hu hpc
        refine hK.out _ _ (HSS.out _ HNc4.out.1) (fun hH => ?_)
        clear hK K
        (try dsimp only [Act.put])
        (try simp only [List.setIfInBounds_toArray, List.set_cons_zero, List.set_cons_succ])
        refine wpAnyH_ready (rs := [10]) (by kernel_rfl) (by simp) ?_
        refine AllReadyH.cons (by simp only [List.getElem?_toArray, List.getElem?_cons_succ, List.getElem?_cons_zero]; rfl) (fun K hK => ?_) AllReadyH.nil
        refine step_wanted18 rfl ?_
        refine wp_store_row 57 (.tmp 6) (.tmp 16) rfl u cF rfl rfl _ _ HRc4.out.1 HFI.out (by rw [HS1.out, HFS.out]) HFO.out ?_
        obtain ⟨wc5, hwc⟩ : ∃ w', wc4.setRow u cF = w' := ⟨_, rfl⟩
        have HNc5 : Hid (w1.grownBy wc5 (some ha) ∧ Row wc5 ha 3 #[.int .i64 (H : Int)]) := Lib.hid (by rw [← hwc]; exact ⟨grown_setRow18 HNc4.out.1 HRc4.out.2 _, (setRow_other _ u ha _ (by have := HRc4.out.2; have := HA1.out.lt; omega)).trans HNc4.out.2⟩)
        have HRc5 : Hid (Row wc5 u 57 cF ∧ w1.heap.size ≤ u) := Lib.hid ⟨by rw [← hwc]; exact setRow_heap _ _ _ _ _ _ HRc4.out.1, HRc4.out.2⟩
        rw [hwc]
        clear hwc
        refine hK.out _ _ (HSS.out _ HNc5.out.1) (fun hH => ?_)
        clear hK K
        (try dsimp only [Act.put])
        (try simp only [List.setIfInBounds_toArray, List.set_cons_zero, List.set_cons_succ])
        refine held_take 11 7 (v := .bool ok) rfl rfl (by kernel_rfl) (by kernel_rfl) (by kernel_rfl) (fun _ _ _ h => h) (Or.inl ⟨by kernel_rfl, fun w _ => by kernel_rfl⟩) hH ?_
        (try simp only [List.setIfInBounds_toArray, List.set_cons_zero, List.set_cons_succ])
        refine wpAnyH_done (by kernel_rfl) ?_ _
        go_simp
        have HRG : Hid (Row wc5 g 57 zs) := Lib.hid (HR1.out.grown HNc5.out.1 (by have := HGA.out; simp; omega))
        clear hH
        cases ok with
        | true =>
          have hqt : q ≤ top := of_decide_eq_true HOK.out
          have HFP : Hid (F = P) := Lib.hid (by rw [← HF.out, if_pos hqt])
          have HE0 : Hid (nxE P top (L : Int) = (0, 0)) := Lib.hid (by unfold nxE; rw [HQ.out]; exact if_pos hqt)
          have hru := HRc5.out.1
          have hrg := HRG.out
          have hi2 := HFI.out
          have ho2 := HFO.out
          have hs2 : zs.size = cF.size := by rw [HS1.out, HFS.out]
          clear hqt
          go_wp2_with (first | (refine wpList_load_row rfl 57 _ rfl u rfl _ _ (0, 0) _ hru Tryz.underlying57 rfl hi2 ?_) | (refine wpList_store_row rfl 57 _ _ rfl g _ rfl rfl _ _ hrg hi2 hs2 ho2 ?_))
          refine bodyPost_ret (results_cr rfl _ _ ⟨g, 0, none⟩ _ rfl (load_poly _ g _ (setRow_heap _ g _ _ _ _ hrg) hi2)) (by rfl) ?_
          refine ⟨⟨P, HRP.out, ?_, fun _ => rfl⟩, ?_, (setRow_other _ g ha _ (by have := HGA.out; omega)).trans HNc5.out.2⟩
          · rw [HE0.out, ← HFP.out, HCF.out]
            rfl
          · exact grown_setRow18 (only_trans (only_of_past HPW.out _) HNc5.out.1) (by rw [HGW.out]; exact Nat.le_refl _) _
        | false =>
          have hqt : ¬ q ≤ top := of_decide_eq_false HOK.out
          have HE0 : Hid (nxE P top (L : Int) = (9, (L : Int))) := Lib.hid (by unfold nxE; rw [HQ.out]; exact if_neg hqt)
          have HNQ := Lib.hid hqt
          have hz := HZ.out
          clear hqt
          go_wp2_with fail
          refine (new_any 9 (L : Int) _).mono ?_
          rintro e9 w9 ⟨rfl, hp9⟩
          have hrg := HRG.out.past hp9
          have HN9 : Hid (w1.grownBy w9 (some ha) ∧ Row w9 ha 3 #[.int .i64 (H : Int)]) := Lib.hid ⟨only_trans HNc5.out.1 (only_of_past hp9 _), HNc5.out.2.past hp9⟩
          obtain ⟨V, hV⟩ : ∃ V, (Ch.flt 9 (L : Int)).val = V := ⟨_, rfl⟩
          have HV := Lib.hid hV
          rw [hV]
          have hiz : (Tryz.prog.info? 57).map (·.size) = some zs.size := by rw [← HZS.out]; exact HI.out _
          have hoz : zs.all (·.oneCell') = true := by rw [← HZS.out]; exact HO.out _
          clear hp9 hV
          go_wp2_with (refine wpList_store_row rfl 57 _ _ rfl g _ rfl rfl _ _ hrg hiz rfl hoz ?_)
          refine bodyPost_ret (results_cr rfl _ _ ⟨g, 0, none⟩ _ rfl (load_poly _ g _ (setRow_heap _ g _ _ _ _ hrg) hiz)) (by rfl) ?_
          refine ⟨⟨fun _ => 0, HZ0.out, ?_, fun h => by
            have h1 := HQ.out
            have h2 := HNQ.out
            omega⟩, ?_, (setRow_other _ g ha _ (by have := HGA.out; omega)).trans HN9.out.2⟩
          · rw [HE0.out, HZS.out]
            exact congrArg (fun x => Ending.returned (Value.tuple #[Value.agg zs, x])) HV.out.symm
          · exact grown_setRow18 (only_trans (only_of_past HPW.out _) HN9.out.1) (by rw [HGW.out]; exact Nat.le_refl _) _
      · go_simp
        rw [HZC.out]
        obtain ⟨u, hu⟩ : ∃ u, wc2.heap.size = u := ⟨_, rfl⟩
        obtain ⟨wc6, hwc⟩ : ∃ w', wc2.alloc (.cells zs 57) = w' := ⟨_, rfl⟩
        have hpc : Past wc2 wc6 := by rw [← hwc]; exact (Below.refl _ _).alloc (Nat.le_refl _) _
        have HNc6 : Hid (w1.grownBy wc6 (some ha) ∧ Row wc6 ha 3 #[.int .i64 (H : Int)]) := Lib.hid ⟨only_trans HNc2.out.1 (only_of_past hpc _), HNc2.out.2.past hpc⟩
        have HRc6 : Hid (Row wc6 u 57 zs ∧ w1.heap.size ≤ u) := Lib.hid ⟨by rw [← hwc, ← hu]; exact Row.new _ _ _, by rw [← hu]; exact HNc2.out.1.size⟩
        try rw [hwc]
        try rw [hu]
        clear hwc hu hpc
        refine hK.out _ _ (HSS.out _ HNc6.out.1) (fun hH => ?_)
        clear hK K
        (try dsimp only [Act.put])
        (try simp only [List.setIfInBounds_toArray, List.set_cons_zero, List.set_cons_succ])
        refine wpAnyH_ready (rs := [5]) (by kernel_rfl) (by simp) ?_
        refine AllReadyH.cons (by simp only [List.getElem?_toArray, List.getElem?_cons_succ, List.getElem?_cons_zero]; rfl) (fun K hK => ?_) AllReadyH.nil
        go_simp
        refine (HUN.out _ HNc6.out.1).mono ?_
        rintro e7 wc7 ⟨rfl, hp⟩
        have HNc7 : Hid (w1.grownBy wc7 (some ha) ∧ Row wc7 ha 3 #[.int .i64 (H : Int)]) := Lib.hid ⟨only_trans HNc6.out.1 (only_of_past hp _), HNc6.out.2.past hp⟩
        have HRc7 : Hid (Row wc7 u 57 zs ∧ w1.heap.size ≤ u) := Lib.hid ⟨HRc6.out.1.past hp, HRc6.out.2⟩
        clear hp
        refine hK.out _ _ (HSS.out _ HNc7.out.1) (fun hH => ?_)
        clear hK K
        (try dsimp only [Act.put])
        (try simp only [List.setIfInBounds_toArray, List.set_cons_zero, List.set_cons_succ])
        refine held_take 6 9 (v := .tuple #[.agg cF, .bool ok]) rfl rfl (by kernel_rfl) (by kernel_rfl) (by kernel_rfl) (fun _ _ _ h => h) (Or.inl ⟨by kernel_rfl, fun w _ => by kernel_rfl⟩) hH ?_
        (try simp only [List.setIfInBounds_toArray, List.set_cons_zero, List.set_cons_succ])
        refine held_take 7 16 (v := .agg cF) rfl rfl (by kernel_rfl) (by kernel_rfl) (by kernel_rfl) (fun _ _ _ h => h) (Or.inl ⟨by kernel_rfl, fun w _ => by kernel_rfl⟩) hH ?_
        (try simp only [List.setIfInBounds_toArray, List.set_cons_zero, List.set_cons_succ])
        refine held_take 8 17 (v := .bool ok) rfl rfl (by kernel_rfl) (by kernel_rfl) (by kernel_rfl) (fun _ _ _ h => h) (Or.inl ⟨by kernel_rfl, fun w _ => by kernel_rfl⟩) hH ?_
        (try simp only [List.setIfInBounds_toArray, List.set_cons_zero, List.set_cons_succ])
        refine wpAnyH_ready (rs := [10]) (by kernel_rfl) (by simp) ?_
        refine AllReadyH.cons (by simp only [List.getElem?_toArray, List.getElem?_cons_succ, List.getElem?_cons_zero]; rfl) (fun K hK => ?_) AllReadyH.nil
        refine step_wanted18 rfl ?_
        refine wp_store_row 57 (.tmp 6) (.tmp 16) rfl u cF rfl rfl _ _ HRc7.out.1 HFI.out (by rw [HS1.out, HFS.out]) HFO.out ?_
        obtain ⟨wc8, hwc⟩ : ∃ w', wc7.setRow u cF = w' := ⟨_, rfl⟩
        have HNc8 : Hid (w1.grownBy wc8 (some ha) ∧ Row wc8 ha 3 #[.int .i64 (H : Int)]) := Lib.hid (by rw [← hwc]; exact ⟨grown_setRow18 HNc7.out.1 HRc7.out.2 _, (setRow_other _ u ha _ (by have := HRc7.out.2; have := HA1.out.lt; omega)).trans HNc7.out.2⟩)
        have HRc8 : Hid (Row wc8 u 57 cF ∧ w1.heap.size ≤ u) := Lib.hid ⟨by rw [← hwc]; exact setRow_heap _ _ _ _ _ _ HRc7.out.1, HRc7.out.2⟩
        rw [hwc]
        clear hwc
        refine hK.out _ _ (HSS.out _ HNc8.out.1) (fun hH => ?_)
        clear hK K
        (try dsimp only [Act.put])
        (try simp only [List.setIfInBounds_toArray, List.set_cons_zero, List.set_cons_succ])
        refine held_take 11 7 (v := .bool ok) rfl rfl (by kernel_rfl) (by kernel_rfl) (by kernel_rfl) (fun _ _ _ h => h) (Or.inl ⟨by kernel_rfl, fun w _ => by kernel_rfl⟩) hH ?_
        (try simp only [List.setIfInBounds_toArray, List.set_cons_zero, List.set_cons_succ])
        refine wpAnyH_done (by kernel_rfl) ?_ _
        go_simp
        have HRG : Hid (Row wc8 g 57 zs) := Lib.hid (HR1.out.grown HNc8.out.1 (by have := HGA.out; simp; omega))
        clear hH
        cases ok with
        | true =>
          have hqt : q ≤ top := of_decide_eq_true HOK.out
          have HFP : Hid (F = P) := Lib.hid (by rw [← HF.out, if_pos hqt])
          have HE0 : Hid (nxE P top (L : Int) = (0, 0)) := Lib.hid (by unfold nxE; rw [HQ.out]; exact if_pos hqt)
          have hru := HRc8.out.1
          have hrg := HRG.out
          have hi2 := HFI.out
          have ho2 := HFO.out
          have hs2 : zs.size = cF.size := by rw [HS1.out, HFS.out]
          clear hqt
          go_wp2_with (first | (refine wpList_load_row rfl 57 _ rfl u rfl _ _ (0, 0) _ hru Tryz.underlying57 rfl hi2 ?_) | (refine wpList_store_row rfl 57 _ _ rfl g _ rfl rfl _ _ hrg hi2 hs2 ho2 ?_))
          refine bodyPost_ret (results_cr rfl _ _ ⟨g, 0, none⟩ _ rfl (load_poly _ g _ (setRow_heap _ g _ _ _ _ hrg) hi2)) (by rfl) ?_
          refine ⟨⟨P, HRP.out, ?_, fun _ => rfl⟩, ?_, (setRow_other _ g ha _ (by have := HGA.out; omega)).trans HNc8.out.2⟩
          · rw [HE0.out, ← HFP.out, HCF.out]
            rfl
          · exact grown_setRow18 (only_trans (only_of_past HPW.out _) HNc8.out.1) (by rw [HGW.out]; exact Nat.le_refl _) _
        | false =>
          have hqt : ¬ q ≤ top := of_decide_eq_false HOK.out
          have HE0 : Hid (nxE P top (L : Int) = (9, (L : Int))) := Lib.hid (by unfold nxE; rw [HQ.out]; exact if_neg hqt)
          have HNQ := Lib.hid hqt
          have hz := HZ.out
          clear hqt
          go_wp2_with fail
          refine (new_any 9 (L : Int) _).mono ?_
          rintro e9 w9 ⟨rfl, hp9⟩
          have hrg := HRG.out.past hp9
          have HN9 : Hid (w1.grownBy w9 (some ha) ∧ Row w9 ha 3 #[.int .i64 (H : Int)]) := Lib.hid ⟨only_trans HNc8.out.1 (only_of_past hp9 _), HNc8.out.2.past hp9⟩
          obtain ⟨V, hV⟩ : ∃ V, (Ch.flt 9 (L : Int)).val = V := ⟨_, rfl⟩
          have HV := Lib.hid hV
          rw [hV]
          have hiz : (Tryz.prog.info? 57).map (·.size) = some zs.size := by rw [← HZS.out]; exact HI.out _
          have hoz : zs.all (·.oneCell') = true := by rw [← HZS.out]; exact HO.out _
          clear hp9 hV
          go_wp2_with (refine wpList_store_row rfl 57 _ _ rfl g _ rfl rfl _ _ hrg hiz rfl hoz ?_)
          refine bodyPost_ret (results_cr rfl _ _ ⟨g, 0, none⟩ _ rfl (load_poly _ g _ (setRow_heap _ g _ _ _ _ hrg) hiz)) (by rfl) ?_
          refine ⟨⟨fun _ => 0, HZ0.out, ?_, fun h => by
            have h1 := HQ.out
            have h2 := HNQ.out
            omega⟩, ?_, (setRow_other _ g ha _ (by have := HGA.out; omega)).trans HN9.out.2⟩
          · rw [HE0.out, HZS.out]
            exact congrArg (fun x => Ending.returned (Value.tuple #[Value.agg zs, x])) HV.out.symm
          · exact grown_setRow18 (only_trans (only_of_past HPW.out _) HN9.out.1) (by rw [HGW.out]; exact Nat.le_refl _) _
    · go_simp
      rw [HZC.out]
      obtain ⟨u, hu⟩ : ∃ u, wc1.heap.size = u := ⟨_, rfl⟩
      obtain ⟨wc9, hwc⟩ : ∃ w', wc1.alloc (.cells zs 57) = w' := ⟨_, rfl⟩
      have hpc : Past wc1 wc9 := by rw [← hwc]; exact (Below.refl _ _).alloc (Nat.le_refl _) _
      have HNc9 : Hid (w1.grownBy wc9 (some ha) ∧ Row wc9 ha 3 #[.int .i64 (L : Int)]) := Lib.hid ⟨only_trans HNc1.out.1 (only_of_past hpc _), HNc1.out.2.past hpc⟩
      have HRc9 : Hid (Row wc9 u 57 zs ∧ w1.heap.size ≤ u) := Lib.hid ⟨by rw [← hwc, ← hu]; exact Row.new _ _ _, by rw [← hu]; exact HNc1.out.1.size⟩
      try rw [hwc]
      try rw [hu]
      clear hwc hu hpc
      refine hK.out _ _ (HSS.out _ HNc9.out.1) (fun hH => ?_)
      clear hK K
      (try dsimp only [Act.put])
      (try simp only [List.setIfInBounds_toArray, List.set_cons_zero, List.set_cons_succ])
      refine wpAnyH_ready (rs := [4]) (by kernel_rfl) (by simp) ?_
      refine AllReadyH.cons (by simp only [List.getElem?_toArray, List.getElem?_cons_succ, List.getElem?_cons_zero]; rfl) (fun K hK => ?_) AllReadyH.nil
      go_simp
      have hen := HEN.out
      go_simp
      refine (HTK.out _ HNc9.out.1 HNc9.out.2).mono ?_
      rintro e10 wc10 ⟨rfl, hw⟩
      clear hen
      have HNc10 : Hid (w1.grownBy wc10 (some ha) ∧ Row wc10 ha 3 #[.int .i64 (H : Int)]) := Lib.hid (by rw [hw]; exact ⟨only_setCell HNc9.out.1 (.inl rfl) _, Row.set HNc9.out.2 0 _⟩)
      have HRc10 : Hid (Row wc10 u 57 zs ∧ w1.heap.size ≤ u) := Lib.hid ⟨by rw [hw]; exact HRc9.out.1.setOther (by have := HRc9.out.2; have := HA1.out.lt; omega) _ _, HRc9.out.2⟩
      clear hw
      refine hK.out _ _ (HSS.out _ HNc10.out.1) (fun hH => ?_)
      clear hK K
      (try dsimp only [Act.put])
      (try simp only [List.setIfInBounds_toArray, List.set_cons_zero, List.set_cons_succ])
      refine wpAnyH_ready (rs := [5]) (by kernel_rfl) (by simp) ?_
      refine AllReadyH.cons (by simp only [List.getElem?_toArray, List.getElem?_cons_succ, List.getElem?_cons_zero]; rfl) (fun K hK => ?_) AllReadyH.nil
      go_simp
      refine (HUN.out _ HNc10.out.1).mono ?_
      rintro e11 wc11 ⟨rfl, hp⟩
      have HNc11 : Hid (w1.grownBy wc11 (some ha) ∧ Row wc11 ha 3 #[.int .i64 (H : Int)]) := Lib.hid ⟨only_trans HNc10.out.1 (only_of_past hp _), HNc10.out.2.past hp⟩
      have HRc11 : Hid (Row wc11 u 57 zs ∧ w1.heap.size ≤ u) := Lib.hid ⟨HRc10.out.1.past hp, HRc10.out.2⟩
      clear hp
      refine hK.out _ _ (HSS.out _ HNc11.out.1) (fun hH => ?_)
      clear hK K
      (try dsimp only [Act.put])
      (try simp only [List.setIfInBounds_toArray, List.set_cons_zero, List.set_cons_succ])
      refine held_take 6 9 (v := .tuple #[.agg cF, .bool ok]) rfl rfl (by kernel_rfl) (by kernel_rfl) (by kernel_rfl) (fun _ _ _ h => h) (Or.inl ⟨by kernel_rfl, fun w _ => by kernel_rfl⟩) hH ?_
      (try simp only [List.setIfInBounds_toArray, List.set_cons_zero, List.set_cons_succ])
      refine held_take 7 16 (v := .agg cF) rfl rfl (by kernel_rfl) (by kernel_rfl) (by kernel_rfl) (fun _ _ _ h => h) (Or.inl ⟨by kernel_rfl, fun w _ => by kernel_rfl⟩) hH ?_
      (try simp only [List.setIfInBounds_toArray, List.set_cons_zero, List.set_cons_succ])
      refine held_take 8 17 (v := .bool ok) rfl rfl (by kernel_rfl) (by kernel_rfl) (by kernel_rfl) (fun _ _ _ h => h) (Or.inl ⟨by kernel_rfl, fun w _ => by kernel_rfl⟩) hH ?_
      (try simp only [List.setIfInBounds_toArray, List.set_cons_zero, List.set_cons_succ])
      refine wpAnyH_ready (rs := [10]) (by kernel_rfl) (by simp) ?_
      refine AllReadyH.cons (by simp only [List.getElem?_toArray, List.getElem?_cons_succ, List.getElem?_cons_zero]; rfl) (fun K hK => ?_) AllReadyH.nil
      refine step_wanted18 rfl ?_
      refine wp_store_row 57 (.tmp 6) (.tmp 16) rfl u cF rfl rfl _ _ HRc11.out.1 HFI.out (by rw [HS1.out, HFS.out]) HFO.out ?_
      obtain ⟨wc12, hwc⟩ : ∃ w', wc11.setRow u cF = w' := ⟨_, rfl⟩
      have HNc12 : Hid (w1.grownBy wc12 (some ha) ∧ Row wc12 ha 3 #[.int .i64 (H : Int)]) := Lib.hid (by rw [← hwc]; exact ⟨grown_setRow18 HNc11.out.1 HRc11.out.2 _, (setRow_other _ u ha _ (by have := HRc11.out.2; have := HA1.out.lt; omega)).trans HNc11.out.2⟩)
      have HRc12 : Hid (Row wc12 u 57 cF ∧ w1.heap.size ≤ u) := Lib.hid ⟨by rw [← hwc]; exact setRow_heap _ _ _ _ _ _ HRc11.out.1, HRc11.out.2⟩
      rw [hwc]
      clear hwc
      refine hK.out _ _ (HSS.out _ HNc12.out.1) (fun hH => ?_)
      clear hK K
      (try dsimp only [Act.put])
      (try simp only [List.setIfInBounds_toArray, List.set_cons_zero, List.set_cons_succ])
      refine held_take 11 7 (v := .bool ok) rfl rfl (by kernel_rfl) (by kernel_rfl) (by kernel_rfl) (fun _ _ _ h => h) (Or.inl ⟨by kernel_rfl, fun w _ => by kernel_rfl⟩) hH ?_
      (try simp only [List.setIfInBounds_toArray, List.set_cons_zero, List.set_cons_succ])
      refine wpAnyH_done (by kernel_rfl) ?_ _
      go_simp
      have HRG : Hid (Row wc12 g 57 zs) := Lib.hid (HR1.out.grown HNc12.out.1 (by have := HGA.out; simp; omega))
      clear hH
      cases ok with
      | true =>
        have hqt : q ≤ top := of_decide_eq_true HOK.out
        have HFP : Hid (F = P) := Lib.hid (by rw [← HF.out, if_pos hqt])
        have HE0 : Hid (nxE P top (L : Int) = (0, 0)) := Lib.hid (by unfold nxE; rw [HQ.out]; exact if_pos hqt)
        have hru := HRc12.out.1
        have hrg := HRG.out
        have hi2 := HFI.out
        have ho2 := HFO.out
        have hs2 : zs.size = cF.size := by rw [HS1.out, HFS.out]
        clear hqt
        go_wp2_with (first | (refine wpList_load_row rfl 57 _ rfl u rfl _ _ (0, 0) _ hru Tryz.underlying57 rfl hi2 ?_) | (refine wpList_store_row rfl 57 _ _ rfl g _ rfl rfl _ _ hrg hi2 hs2 ho2 ?_))
        refine bodyPost_ret (results_cr rfl _ _ ⟨g, 0, none⟩ _ rfl (load_poly _ g _ (setRow_heap _ g _ _ _ _ hrg) hi2)) (by rfl) ?_
        refine ⟨⟨P, HRP.out, ?_, fun _ => rfl⟩, ?_, (setRow_other _ g ha _ (by have := HGA.out; omega)).trans HNc12.out.2⟩
        · rw [HE0.out, ← HFP.out, HCF.out]
          rfl
        · exact grown_setRow18 (only_trans (only_of_past HPW.out _) HNc12.out.1) (by rw [HGW.out]; exact Nat.le_refl _) _
      | false =>
        have hqt : ¬ q ≤ top := of_decide_eq_false HOK.out
        have HE0 : Hid (nxE P top (L : Int) = (9, (L : Int))) := Lib.hid (by unfold nxE; rw [HQ.out]; exact if_neg hqt)
        have HNQ := Lib.hid hqt
        have hz := HZ.out
        clear hqt
        go_wp2_with fail
        refine (new_any 9 (L : Int) _).mono ?_
        rintro e9 w9 ⟨rfl, hp9⟩
        have hrg := HRG.out.past hp9
        have HN9 : Hid (w1.grownBy w9 (some ha) ∧ Row w9 ha 3 #[.int .i64 (H : Int)]) := Lib.hid ⟨only_trans HNc12.out.1 (only_of_past hp9 _), HNc12.out.2.past hp9⟩
        obtain ⟨V, hV⟩ : ∃ V, (Ch.flt 9 (L : Int)).val = V := ⟨_, rfl⟩
        have HV := Lib.hid hV
        rw [hV]
        have hiz : (Tryz.prog.info? 57).map (·.size) = some zs.size := by rw [← HZS.out]; exact HI.out _
        have hoz : zs.all (·.oneCell') = true := by rw [← HZS.out]; exact HO.out _
        clear hp9 hV
        go_wp2_with (refine wpList_store_row rfl 57 _ _ rfl g _ rfl rfl _ _ hrg hiz rfl hoz ?_)
        refine bodyPost_ret (results_cr rfl _ _ ⟨g, 0, none⟩ _ rfl (load_poly _ g _ (setRow_heap _ g _ _ _ _ hrg) hiz)) (by rfl) ?_
        refine ⟨⟨fun _ => 0, HZ0.out, ?_, fun h => by
          have h1 := HQ.out
          have h2 := HNQ.out
          omega⟩, ?_, (setRow_other _ g ha _ (by have := HGA.out; omega)).trans HN9.out.2⟩
        · rw [HE0.out, HZS.out]
          exact congrArg (fun x => Ending.returned (Value.tuple #[Value.agg zs, x])) HV.out.symm
        · exact grown_setRow18 (only_trans (only_of_past HPW.out _) HN9.out.1) (by rw [HGW.out]; exact Nat.le_refl _) _
  · go_simp
    rw [HZC.out]
    obtain ⟨u, hu⟩ : ∃ u, w2.heap.size = u := ⟨_, rfl⟩
    obtain ⟨wc13, hwc⟩ : ∃ w', w2.alloc (.cells zs 57) = w' := ⟨_, rfl⟩
    have hpc : Past w2 wc13 := by rw [← hwc]; exact (Below.refl _ _).alloc (Nat.le_refl _) _
    have HNc13 : Hid (w1.grownBy wc13 (some ha) ∧ Row wc13 ha 3 #[.int .i64 (L : Int)]) := Lib.hid ⟨only_trans HN2.out.1 (only_of_past hpc _), HN2.out.2.past hpc⟩
    have HRc13 : Hid (Row wc13 u 57 zs ∧ w1.heap.size ≤ u) := Lib.hid ⟨by rw [← hwc, ← hu]; exact Row.new _ _ _, by rw [← hu]; exact HN2.out.1.size⟩
    try rw [hwc]
    try rw [hu]
    clear hwc hu hpc
    refine hK.out _ _ (HSS.out _ HNc13.out.1) (fun hH => ?_)
    clear hK K
    (try dsimp only [Act.put])
    (try simp only [List.setIfInBounds_toArray, List.set_cons_zero, List.set_cons_succ])
    refine wpAnyH_ready (rs := [3]) (by kernel_rfl) (by simp) ?_
    refine AllReadyH.cons (by simp only [List.getElem?_toArray, List.getElem?_cons_succ, List.getElem?_cons_zero]; rfl) (fun K hK => ?_) AllReadyH.nil
    go_simp
    refine (HSZ.out _).mono ?_
    rintro e14 wc14 ⟨rfl, hp⟩
    have HNc14 : Hid (w1.grownBy wc14 (some ha) ∧ Row wc14 ha 3 #[.int .i64 (L : Int)]) := Lib.hid ⟨only_trans HNc13.out.1 (only_of_past hp _), HNc13.out.2.past hp⟩
    have HRc14 : Hid (Row wc14 u 57 zs ∧ w1.heap.size ≤ u) := Lib.hid ⟨HRc13.out.1.past hp, HRc13.out.2⟩
    clear hp
    refine hK.out _ _ (HSS.out _ HNc14.out.1) (fun hH => ?_)
    clear hK K
    (try dsimp only [Act.put])
    (try simp only [List.setIfInBounds_toArray, List.set_cons_zero, List.set_cons_succ])
    refine wpAnyH_ready (rs := [4]) (by kernel_rfl) (by simp) ?_
    refine AllReadyH.cons (by simp only [List.getElem?_toArray, List.getElem?_cons_succ, List.getElem?_cons_zero]; rfl) (fun K hK => ?_) AllReadyH.nil
    go_simp
    have hen := HEN.out
    go_simp
    refine (HTK.out _ HNc14.out.1 HNc14.out.2).mono ?_
    rintro e15 wc15 ⟨rfl, hw⟩
    clear hen
    have HNc15 : Hid (w1.grownBy wc15 (some ha) ∧ Row wc15 ha 3 #[.int .i64 (H : Int)]) := Lib.hid (by rw [hw]; exact ⟨only_setCell HNc14.out.1 (.inl rfl) _, Row.set HNc14.out.2 0 _⟩)
    have HRc15 : Hid (Row wc15 u 57 zs ∧ w1.heap.size ≤ u) := Lib.hid ⟨by rw [hw]; exact HRc14.out.1.setOther (by have := HRc14.out.2; have := HA1.out.lt; omega) _ _, HRc14.out.2⟩
    clear hw
    refine hK.out _ _ (HSS.out _ HNc15.out.1) (fun hH => ?_)
    clear hK K
    (try dsimp only [Act.put])
    (try simp only [List.setIfInBounds_toArray, List.set_cons_zero, List.set_cons_succ])
    refine wpAnyH_ready (rs := [5]) (by kernel_rfl) (by simp) ?_
    refine AllReadyH.cons (by simp only [List.getElem?_toArray, List.getElem?_cons_succ, List.getElem?_cons_zero]; rfl) (fun K hK => ?_) AllReadyH.nil
    go_simp
    refine (HUN.out _ HNc15.out.1).mono ?_
    rintro e16 wc16 ⟨rfl, hp⟩
    have HNc16 : Hid (w1.grownBy wc16 (some ha) ∧ Row wc16 ha 3 #[.int .i64 (H : Int)]) := Lib.hid ⟨only_trans HNc15.out.1 (only_of_past hp _), HNc15.out.2.past hp⟩
    have HRc16 : Hid (Row wc16 u 57 zs ∧ w1.heap.size ≤ u) := Lib.hid ⟨HRc15.out.1.past hp, HRc15.out.2⟩
    clear hp
    refine hK.out _ _ (HSS.out _ HNc16.out.1) (fun hH => ?_)
    clear hK K
    (try dsimp only [Act.put])
    (try simp only [List.setIfInBounds_toArray, List.set_cons_zero, List.set_cons_succ])
    refine held_take 6 9 (v := .tuple #[.agg cF, .bool ok]) rfl rfl (by kernel_rfl) (by kernel_rfl) (by kernel_rfl) (fun _ _ _ h => h) (Or.inl ⟨by kernel_rfl, fun w _ => by kernel_rfl⟩) hH ?_
    (try simp only [List.setIfInBounds_toArray, List.set_cons_zero, List.set_cons_succ])
    refine held_take 7 16 (v := .agg cF) rfl rfl (by kernel_rfl) (by kernel_rfl) (by kernel_rfl) (fun _ _ _ h => h) (Or.inl ⟨by kernel_rfl, fun w _ => by kernel_rfl⟩) hH ?_
    (try simp only [List.setIfInBounds_toArray, List.set_cons_zero, List.set_cons_succ])
    refine held_take 8 17 (v := .bool ok) rfl rfl (by kernel_rfl) (by kernel_rfl) (by kernel_rfl) (fun _ _ _ h => h) (Or.inl ⟨by kernel_rfl, fun w _ => by kernel_rfl⟩) hH ?_
    (try simp only [List.setIfInBounds_toArray, List.set_cons_zero, List.set_cons_succ])
    refine wpAnyH_ready (rs := [10]) (by kernel_rfl) (by simp) ?_
    refine AllReadyH.cons (by simp only [List.getElem?_toArray, List.getElem?_cons_succ, List.getElem?_cons_zero]; rfl) (fun K hK => ?_) AllReadyH.nil
    refine step_wanted18 rfl ?_
    refine wp_store_row 57 (.tmp 6) (.tmp 16) rfl u cF rfl rfl _ _ HRc16.out.1 HFI.out (by rw [HS1.out, HFS.out]) HFO.out ?_
    obtain ⟨wc17, hwc⟩ : ∃ w', wc16.setRow u cF = w' := ⟨_, rfl⟩
    have HNc17 : Hid (w1.grownBy wc17 (some ha) ∧ Row wc17 ha 3 #[.int .i64 (H : Int)]) := Lib.hid (by rw [← hwc]; exact ⟨grown_setRow18 HNc16.out.1 HRc16.out.2 _, (setRow_other _ u ha _ (by have := HRc16.out.2; have := HA1.out.lt; omega)).trans HNc16.out.2⟩)
    have HRc17 : Hid (Row wc17 u 57 cF ∧ w1.heap.size ≤ u) := Lib.hid ⟨by rw [← hwc]; exact setRow_heap _ _ _ _ _ _ HRc16.out.1, HRc16.out.2⟩
    rw [hwc]
    clear hwc
    refine hK.out _ _ (HSS.out _ HNc17.out.1) (fun hH => ?_)
    clear hK K
    (try dsimp only [Act.put])
    (try simp only [List.setIfInBounds_toArray, List.set_cons_zero, List.set_cons_succ])
    refine held_take 11 7 (v := .bool ok) rfl rfl (by kernel_rfl) (by kernel_rfl) (by kernel_rfl) (fun _ _ _ h => h) (Or.inl ⟨by kernel_rfl, fun w _ => by kernel_rfl⟩) hH ?_
    (try simp only [List.setIfInBounds_toArray, List.set_cons_zero, List.set_cons_succ])
    refine wpAnyH_done (by kernel_rfl) ?_ _
    go_simp
    have HRG : Hid (Row wc17 g 57 zs) := Lib.hid (HR1.out.grown HNc17.out.1 (by have := HGA.out; simp; omega))
    clear hH
    cases ok with
    | true =>
      have hqt : q ≤ top := of_decide_eq_true HOK.out
      have HFP : Hid (F = P) := Lib.hid (by rw [← HF.out, if_pos hqt])
      have HE0 : Hid (nxE P top (L : Int) = (0, 0)) := Lib.hid (by unfold nxE; rw [HQ.out]; exact if_pos hqt)
      have hru := HRc17.out.1
      have hrg := HRG.out
      have hi2 := HFI.out
      have ho2 := HFO.out
      have hs2 : zs.size = cF.size := by rw [HS1.out, HFS.out]
      clear hqt
      go_wp2_with (first | (refine wpList_load_row rfl 57 _ rfl u rfl _ _ (0, 0) _ hru Tryz.underlying57 rfl hi2 ?_) | (refine wpList_store_row rfl 57 _ _ rfl g _ rfl rfl _ _ hrg hi2 hs2 ho2 ?_))
      refine bodyPost_ret (results_cr rfl _ _ ⟨g, 0, none⟩ _ rfl (load_poly _ g _ (setRow_heap _ g _ _ _ _ hrg) hi2)) (by rfl) ?_
      refine ⟨⟨P, HRP.out, ?_, fun _ => rfl⟩, ?_, (setRow_other _ g ha _ (by have := HGA.out; omega)).trans HNc17.out.2⟩
      · rw [HE0.out, ← HFP.out, HCF.out]
        rfl
      · exact grown_setRow18 (only_trans (only_of_past HPW.out _) HNc17.out.1) (by rw [HGW.out]; exact Nat.le_refl _) _
    | false =>
      have hqt : ¬ q ≤ top := of_decide_eq_false HOK.out
      have HE0 : Hid (nxE P top (L : Int) = (9, (L : Int))) := Lib.hid (by unfold nxE; rw [HQ.out]; exact if_neg hqt)
      have HNQ := Lib.hid hqt
      have hz := HZ.out
      clear hqt
      go_wp2_with fail
      refine (new_any 9 (L : Int) _).mono ?_
      rintro e9 w9 ⟨rfl, hp9⟩
      have hrg := HRG.out.past hp9
      have HN9 : Hid (w1.grownBy w9 (some ha) ∧ Row w9 ha 3 #[.int .i64 (H : Int)]) := Lib.hid ⟨only_trans HNc17.out.1 (only_of_past hp9 _), HNc17.out.2.past hp9⟩
      obtain ⟨V, hV⟩ : ∃ V, (Ch.flt 9 (L : Int)).val = V := ⟨_, rfl⟩
      have HV := Lib.hid hV
      rw [hV]
      have hiz : (Tryz.prog.info? 57).map (·.size) = some zs.size := by rw [← HZS.out]; exact HI.out _
      have hoz : zs.all (·.oneCell') = true := by rw [← HZS.out]; exact HO.out _
      clear hp9 hV
      go_wp2_with (refine wpList_store_row rfl 57 _ _ rfl g _ rfl rfl _ _ hrg hiz rfl hoz ?_)
      refine bodyPost_ret (results_cr rfl _ _ ⟨g, 0, none⟩ _ rfl (load_poly _ g _ (setRow_heap _ g _ _ _ _ hrg) hiz)) (by rfl) ?_
      refine ⟨⟨fun _ => 0, HZ0.out, ?_, fun h => by
        have h1 := HQ.out
        have h2 := HNQ.out
        omega⟩, ?_, (setRow_other _ g ha _ (by have := HGA.out; omega)).trans HN9.out.2⟩
      · rw [HE0.out, HZS.out]
        exact congrArg (fun x => Ending.returned (Value.tuple #[Value.agg zs, x])) HV.out.symm
      · exact grown_setRow18 (only_trans (only_of_past HPW.out _) HN9.out.1) (by rw [HGW.out]; exact Nat.le_refl _) _
end Go.Proofs.YteflpbkdnebopaaGreatDoor
