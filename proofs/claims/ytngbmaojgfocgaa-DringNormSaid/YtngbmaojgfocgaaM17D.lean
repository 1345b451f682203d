/- The program's paired. -/
import Derived.Test.YtngbmaojgfocgaaM17C
namespace Go.Proofs.Ytngbmaojgfocgaa.dr
open Go.RowKit
set_option linter.unusedVariables false
set_option maxRecDepth 100000

theorem Fx.put2 {L : List (Nat × TypeId × Array Value)} {k : IntKind} {n : Nat} {w wx : World} {g : Nat} {t : TypeId} {f : Nat → Int} (h : Fx L k n w wx g t f) (hg : w.heap.size ≤ g) (hL : ∀ x ∈ L, x.1 ≠ g) (i : Nat) (hi : i < n) (v : Int) :
    Fx L k n w (wx.setCell ⟨g, i, none⟩ (.int k v)) g t (upd f i v) :=
  ⟨h.1.set hg _, fun x hx => (h.2.1 x hx).setOther (by have := hL x hx; omega) _ _, h.2.2.put i hi v⟩
theorem pair_fx (w : World) (t0 t1 : TypeId) (f : Nat → Int) (c1 : Array Value) :
    Fx [(w.heap.size + 1, t1, c1)] .u32 256 w ((w.alloc (.cells (arr .u32 256 f) t0)).alloc (.cells c1 t1)) w.heap.size t0 f := by
  refine ⟨((Below.refl _ _).alloc (Nat.le_refl _) _).alloc (by simp) _, ?_, (Row.new w t0 _).alloc _⟩
  intro x hx
  rcases List.mem_cons.1 hx with rfl | hx
  · have := Row.new (w.alloc (.cells (arr .u32 256 f) t0)) t1 c1
    simpa using this
  · cases hx
theorem blk_facts {s i s2 b d : Nat} (hs : Lay s) (h2 : 2 * s = s2) (hb : s2 * i = b) (hd : b + s = d) (hi : i < 128 / s) :
    b = 2 * s * i ∧ b + s + s ≤ 256 ∧ IntKind.i64.wrap ((s2 : Int) * (i : Int)) = (b : Int) ∧ wrap64 (b : Int) = (b : Int) ∧ IntKind.i64.wrap ((b : Int) + (s : Int)) = (d : Int) ∧ wrap64 (d : Int) = (d : Int) := by
  have h1 : b = 2 * s * i := by rw [h2, hb]
  have h3 : b + s + s ≤ 256 := by
    rw [h1]
    rcases hs with rfl | rfl | rfl | rfl | rfl | rfl | rfl | rfl <;> omega
  have h4 : (s2 : Int) * (i : Int) = (b : Int) := by rw [← hb]; exact (Int.natCast_mul _ _).symm
  clear hb
  refine ⟨h1, h3, ?_, IntWalk.wrap64_in _ (by omega), ?_, IntWalk.wrap64_in _ (by omega)⟩
  · rw [h4, IntKind.wrap_i64]
    clear h4 h1
    omega
  · rw [IntKind.wrap_i64]
    clear h4 h1
    omega
set_option maxHeartbeats 4000000 in
theorem paired_any (s : Nat) (hs : Lay s) (fn : FuncId) (more : Array Value) (f : Nat → Int) (hf : R32 f) (PP : Nat → Int) (A B : Nat → Int → Int → Int) (w : World)
    (hent : ∀ args w, (callFunc fn args).run Try.prog w = .ok (.enter fn args) w)
    (hP : ∀ i r, i < 128 / s → r < s → A i (f (2 * s * i + r)) (f (2 * s * i + r + s)) % 8380417 = PP (2 * s * i + r) ∧ B i (f (2 * s * i + r)) (f (2 * s * i + r + s)) % 8380417 = PP (2 * s * i + r + s))
    (hop : OkC fn s more A B w) :
    Calls Try.prog 27 #[.agg (arr .u32 256 f), .int .i64 (s : Int), .func (.func fn) #[] more] w fun e w' => e = .returned (.agg (arr .u32 256 PP)) ∧ Past w w' := by
  have HF := Lib.hid hf
  have HS := Lib.hid hs
  have HPP := Lib.hid hP
  have HOC := Lib.hid hop
  obtain ⟨m, hm⟩ : ∃ m, 128 / s = m := ⟨_, rfl⟩
  have HM := Lib.hid hm
  obtain ⟨hs0, hs128, hm1, hm128⟩ := lay_rng hs
  rw [hm] at hm1 hm128
  obtain ⟨g, hg⟩ : ∃ g, w.heap.size = g := ⟨_, rfl⟩
  obtain ⟨w3, hw3⟩ : ∃ w', w' = (w.alloc (.cells (arr .u32 256 f) 27)).alloc (.cells (arr .u32 256 fun _ => 0) 27) := ⟨_, rfl⟩
  have H0 : Hid (Fx [(g + 1, 27, arr .u32 256 fun _ => 0)] .u32 256 w w3 g 27 f) := Lib.hid (by
    have h := pair_fx w 27 27 f (arr .u32 256 fun _ => 0)
    rw [hg, ← hw3] at h
    exact h)
  have HGE : Hid (w.heap.size = g) := Lib.hid hg
  have HW3 := Lib.hid hw3
  have hsz : ¬ (s : Int) = 0 := by omega
  have hsp : (0 : Int) < (s : Int) := by omega
  have hsb : (s : Int) ≤ 128 := by omega
  have HDV : Hid ((128 : Int).tdiv (s : Int) = (m : Int) ∧ (128 : Int) / (s : Int) = (m : Int)) := Lib.hid ⟨by rw [← hm]; rfl, by rw [← hm]; rfl⟩
  have HWM : Hid (IntKind.i64.wrap (m : Int) = (m : Int) ∧ wrap64 (m : Int) = (m : Int)) := Lib.hid ⟨by rw [IntKind.wrap_i64]; omega, IntWalk.wrap64_in _ (by omega)⟩
  obtain ⟨s2, hs2⟩ : ∃ s2, 2 * s = s2 := ⟨_, rfl⟩
  have HS2 := Lib.hid hs2
  have HW2S : Hid (IntKind.i64.wrap (2 * (s : Int)) = (s2 : Int) ∧ wrap64 (s2 : Int) = (s2 : Int)) := Lib.hid ⟨by rw [IntKind.wrap_i64]; omega, IntWalk.wrap64_in _ (by omega)⟩
  clear hf hw3 hs hm hs2 hP hop
  generalize arr .u32 256 f = cf at *
  go_enter Try.func27, Try.ntmps27
  have hz := zeroP
  go_upto_region 1 with (fail)
  clear hz
  rw [← HW3.out]
  try rw [hg]
  clear HW3 hg
  obtain ⟨hd, hd2⟩ := HDV.out
  obtain ⟨hwm, hwm2⟩ := HWM.out
  go_wp2_with fail
  go_loopg [13] m (fun q s13 wx => ∃ i : Nat, i ≤ m ∧ q = m - i ∧ s13 = .int .i64 (i : Int) ∧ Hid (∃ F, Fx [(g + 1, 27, arr .u32 256 fun _ => 0)] .u32 256 w wx g 27 F ∧ ∀ k, k < 256 → F k = prt PP s f i 0 k))
  case atStart => exact ⟨0, Nat.zero_le _, rfl, rfl, Lib.hid ⟨f, H0.out, fun k _ => (prt_zero _ s f k).symm⟩⟩
  case round =>
    clear H0 hd hd2 hwm hwm2 hsz
    obtain ⟨i, hi, hq, rfl, HQ⟩ := hrel
    have HGQ := Lib.hid hq
    clear hq
    have hi0 : (0 : Int) ≤ (i : Int) := by omega
    by_cases hlt : i < m
    · have hii : (i : Int) < (m : Int) := Int.ofNat_lt.2 hlt
      have HLT := Lib.hid hlt
      obtain ⟨b, hb⟩ : ∃ b, s2 * i = b := ⟨_, rfl⟩
      obtain ⟨d, hd0⟩ : ∃ d, b + s = d := ⟨_, rfl⟩
      obtain ⟨HB0, hb256, hwbd⟩ := blk_facts HS.out HS2.out hb hd0 (by rw [HM.out]; exact hlt)
      have HB := Lib.hid HB0
      have HWB := Lib.hid hwbd
      have HMS : Hid (m - (i + 1) < m - i) := Lib.hid (by omega)
      clear hb HB0 hwbd hlt hi
      obtain ⟨hw2s, hw2s2⟩ := HW2S.out
      obtain ⟨hwb, hwb2, hwd, hwd2⟩ := HWB.out
      go_wp2_with fail
      go_loopg [8] s (fun q s8 wx => ∃ r t : Nat, r ≤ s ∧ q = s - r ∧ b + r = t ∧ s8 = .int .i64 (t : Int) ∧ Hid (∃ F, Fx [(g + 1, 27, arr .u32 256 fun _ => 0)] .u32 256 w wx g 27 F ∧ ∀ k, k < 256 → F k = prt PP s f i r k))
      case atStart => exact ⟨0, b, Nat.zero_le _, rfl, rfl, rfl, HQ⟩
      case round =>
        rename_i wo
        obtain ⟨r, t, hr, hq, ht, rfl, HQ2⟩ := hrel
        clear HQ hw2s hw2s2 hwb hwb2 hwd hwd2
        have HGQ2 := Lib.hid hq
        clear hq
        have ht0 : (0 : Int) ≤ (t : Int) := by omega
        by_cases hlt2 : r < s
        · have htd : (t : Int) < (d : Int) := by omega
          have HLT2 := Lib.hid hlt2
          have hte : t = 2 * s * i + r := by rw [← HB.out]; exact ht.symm
          obtain ⟨u, hu⟩ : ∃ u, t + s = u := ⟨_, rfl⟩
          have hue : u = 2 * s * i + r + s := by rw [← hte]; exact hu.symm
          have hu256 : u < 256 := by omega
          have hu0 : (0 : Int) ≤ (u : Int) := by omega
          have hu1 : (u : Int) < 256 := by omega
          have ht1 : (t : Int) < 256 := by omega
          have htu : ¬ t = u := by omega
          have HWU : Hid (IntKind.i64.wrap ((t : Int) + (s : Int)) = (u : Int) ∧ wrap64 (u : Int) = (u : Int)) := Lib.hid ⟨by rw [IntKind.wrap_i64]; omega, IntWalk.wrap64_in _ (by omega)⟩
          obtain ⟨F, hT, hF⟩ := HQ2.out
          have hX : F t = f t := by
            rw [hF t (by omega), hte]
            exact prt_low _ HS.out f i r hlt2
          have hY : F u = f u := by
            rw [hF u hu256, hue]
            exact prt_high _ HS.out f i r hlt2
          obtain ⟨x0, x1⟩ := HF.out t
          obtain ⟨y0, y1⟩ := HF.out u
          rw [← hX] at x0 x1
          rw [← hY] at y0 y1
          obtain ⟨hp1, hp2⟩ := HPP.out i r (by rw [HM.out]; exact HLT.out) hlt2
          rw [← hue, ← hte, ← hX, ← hY] at hp1 hp2
          obtain ⟨X, hXe⟩ : ∃ X, F t = X := ⟨_, rfl⟩
          obtain ⟨Y, hYe⟩ : ∃ Y, F u = Y := ⟨_, rfl⟩
          rw [hXe] at x0 x1 hp1 hp2
          rw [hYe] at y0 y1 hp1 hp2
          obtain ⟨⟨a0, a1, b0, b1⟩, hcl⟩ := HOC.out i X Y (by rw [HM.out]; exact HLT.out) x0 x1 y0 y1
          obtain ⟨E1, hE1⟩ : ∃ E, A i X Y = E := ⟨_, rfl⟩
          obtain ⟨E2, hE2⟩ : ∃ E, B i X Y = E := ⟨_, rfl⟩
          rw [hE1] at a0 a1 hp1 hcl
          rw [hE2] at b0 b1 hp2 hcl
          have HOP := Lib.hid hcl
          have HWX : Hid (IntKind.i64.wrap X = X) := Lib.hid (by rw [IntKind.wrap_i64]; omega)
          have HWY : Hid (IntKind.i64.wrap Y = Y) := Lib.hid (by rw [IntKind.wrap_i64]; omega)
          obtain ⟨P1, hPe1⟩ : ∃ P, PP t = P := ⟨_, rfl⟩
          obtain ⟨P2, hPe2⟩ : ∃ P, PP u = P := ⟨_, rfl⟩
          have HR1 := Lib.hid (fun w => reduce_any E1 w a0 a1)
          have HR2 := Lib.hid (fun w => reduce_any E2 w b0 b1)
          rw [hp1, hPe1] at HR1
          rw [hp2, hPe2] at HR2
          obtain ⟨wd8, hwd8⟩ : ∃ w', w' = wr.drew := ⟨_, rfl⟩
          obtain ⟨wd9, hwd9⟩ : ∃ w', w' = wd8.drew := ⟨_, rfl⟩
          have HWD8 := Lib.hid hwd8
          have HWD9 := Lib.hid hwd9
          have hT8 : Fx _ _ _ _ _ _ _ F := hT.drewN 1
          change Fx _ _ _ _ wr.drew _ _ _ at hT8
          rw [← hwd8] at hT8
          have HPW8 : Hid (Past w wd8) := Lib.hid hT8.1
          have hT9 : Fx _ _ _ _ _ _ _ F := hT8.drewN 1
          change Fx _ _ _ _ wd8.drew _ _ _ at hT9
          rw [← hwd9] at hT9
          have HS8 : Hid (wd8.cell? ⟨g, t, none⟩ = some (.int .u32 X) ∧ wd8.cell? ⟨g, u, none⟩ = some (.int .u32 Y)) := Lib.hid (by
            have h1 := hT8.2.2.at t (by omega)
            have h2 := hT8.2.2.at u hu256
            rw [hXe] at h1
            rw [hYe] at h2
            exact ⟨h1, h2⟩)
          have hc9 := hT9.2.2.at t (by omega)
          have hf9 := hT9.2.2.fr t
          have hT10 := hT9.put2 (by have := HGE.out; omega) (by intro x hx; simp at hx; rcases hx with rfl; simp) t (by omega) P1
          have hc10 := hT10.2.2.at u hu256
          have hf10 := hT10.2.2.fr u
          have hT11 := hT10.put2 (by have := HGE.out; omega) (by intro x hx; simp at hx; rcases hx with rfl; simp) u hu256 P2
          have HT : Hid (∃ F', Fx _ _ _ _ _ _ _ F' ∧ ∀ k, k < 256 → F' k = prt PP s f i (r + 1) k) := Lib.hid ⟨_, hT11, fun k hk => by
            have h := prt_step PP HS.out f i r hlt2 k
            rw [← hue, ← hte] at h
            rw [← h]
            by_cases k1 : k = u
            · subst k1
              rw [upd_at, if_pos rfl]
              exact hPe2.symm
            · rw [upd_ne _ _ k1, if_neg k1]
              by_cases k2 : k = t
              · subst k2
                rw [upd_at, if_pos rfl]
                exact hPe1.symm
              · rw [upd_ne _ _ k2, if_neg k2]
                exact hF k hk⟩
          have HTN : Hid (b + (r + 1) = t + 1) := Lib.hid (by omega)
          have HMS2 : Hid (s - (r + 1) < s - r) := Lib.hid (by omega)
          clear hT hT8 hT10 hT11 hF hX hY hXe hYe hp1 hp2 hPe1 hPe2 hE1 hE2 hte hue hlt2 hr ht hu hd0 hb256 hwd8 hwd9 hT9 hcl a0 a1 b0 b1
          obtain ⟨hw2s, hw2s2⟩ := HW2S.out
          obtain ⟨hwb, hwb2, hwd, hwd2⟩ := HWB.out
          go_upto_region 7 with (fail)
          clear hw2s hw2s2 hwb hwb2 hwd hwd2
          refine wp_region_held_drew (S := fun w' => w'.cell? ⟨g, t, none⟩ = some (.int .u32 X) ∧ w'.cell? ⟨g, u, none⟩ = some (.int .u32 Y)) (by kernel_rfl) (by rw [← HWD8.out]; exact HS8.out) (fun hH => ?_)
          change wpAnyH _ _ _ _ _ _ _ _ (World.drew _)
          rw [← HWD8.out]
          clear hH
          have hH := HS8.out
          clear HWD8
          refine held_take 0 31 (v := .func (.func fn) #[] more) rfl rfl (by kernel_rfl) (by kernel_rfl) (by kernel_rfl) (fun _ _ _ h => h) (Or.inl ⟨by kernel_rfl, fun w _ => by kernel_rfl⟩) hH ?_
          (try simp only [List.setIfInBounds_toArray, List.set_cons_zero, List.set_cons_succ])
          refine held_take 1 32 (v := .int .i64 (i : Int)) rfl rfl (by kernel_rfl) (by kernel_rfl) (by kernel_rfl) (fun _ _ _ h => h) (Or.inl ⟨by kernel_rfl, fun w _ => by kernel_rfl⟩) hH ?_
          (try simp only [List.setIfInBounds_toArray, List.set_cons_zero, List.set_cons_succ])
          refine held_take 2 33 (v := .int .i64 (t : Int)) rfl rfl (by kernel_rfl) (by kernel_rfl) (by kernel_rfl) (fun _ _ _ h => h) (Or.inl ⟨by kernel_rfl, fun w _ => by kernel_rfl⟩) hH ?_
          (try simp only [List.setIfInBounds_toArray, List.set_cons_zero, List.set_cons_succ])
          refine held_take 3 34 (v := .pointer (some ⟨g, t, none⟩)) rfl rfl (by kernel_rfl) (by kernel_rfl) (by kernel_rfl) (fun _ _ _ h => h) (Or.inl ⟨by kernel_rfl, fun w _ => by go_simp⟩) hH ?_
          (try simp only [List.setIfInBounds_toArray, List.set_cons_zero, List.set_cons_succ])
          refine held_take 4 35 (v := .int .u32 X) rfl rfl (by kernel_rfl) (by kernel_rfl) (by kernel_rfl) (fun _ _ _ h => h) (Or.inl ⟨by kernel_rfl, fun w hSw => by
            have hcell := hSw.1
            go_simp⟩) hH ?_
          (try simp only [List.setIfInBounds_toArray, List.set_cons_zero, List.set_cons_succ])
          refine held_take 5 36 (v := .int .i64 X) rfl rfl (by kernel_rfl) (by kernel_rfl) (by kernel_rfl) (fun _ _ _ h => h) (Or.inl ⟨by kernel_rfl, fun w _ => by have hwX := HWX.out; go_simp⟩) hH ?_
          (try simp only [List.setIfInBounds_toArray, List.set_cons_zero, List.set_cons_succ])
          refine held_take 6 37 (v := .int .i64 (t : Int)) rfl rfl (by kernel_rfl) (by kernel_rfl) (by kernel_rfl) (fun _ _ _ h => h) (Or.inl ⟨by kernel_rfl, fun w _ => by kernel_rfl⟩) hH ?_
          (try simp only [List.setIfInBounds_toArray, List.set_cons_zero, List.set_cons_succ])
          refine held_take 7 38 (v := .int .i64 (s : Int)) rfl rfl (by kernel_rfl) (by kernel_rfl) (by kernel_rfl) (fun _ _ _ h => h) (Or.inl ⟨by kernel_rfl, fun w _ => by kernel_rfl⟩) hH ?_
          (try simp only [List.setIfInBounds_toArray, List.set_cons_zero, List.set_cons_succ])
          refine held_take 8 39 (v := .int .i64 (u : Int)) rfl rfl (by kernel_rfl) (by kernel_rfl) (by kernel_rfl) (fun _ _ _ h => h) (Or.inl ⟨by kernel_rfl, fun w _ => by have hwu := HWU.out.1; have hwu2 := HWU.out.2; go_simp⟩) hH ?_
          (try simp only [List.setIfInBounds_toArray, List.set_cons_zero, List.set_cons_succ])
          refine held_take 9 40 (v := .pointer (some ⟨g, u, none⟩)) rfl rfl (by kernel_rfl) (by kernel_rfl) (by kernel_rfl) (fun _ _ _ h => h) (Or.inl ⟨by kernel_rfl, fun w _ => by go_simp⟩) hH ?_
          (try simp only [List.setIfInBounds_toArray, List.set_cons_zero, List.set_cons_succ])
          refine held_take 10 41 (v := .int .u32 Y) rfl rfl (by kernel_rfl) (by kernel_rfl) (by kernel_rfl) (fun _ _ _ h => h) (Or.inl ⟨by kernel_rfl, fun w hSw => by
            have hcell := hSw.2
            go_simp⟩) hH ?_
          (try simp only [List.setIfInBounds_toArray, List.set_cons_zero, List.set_cons_succ])
          refine held_take 11 42 (v := .int .i64 Y) rfl rfl (by kernel_rfl) (by kernel_rfl) (by kernel_rfl) (fun _ _ _ h => h) (Or.inl ⟨by kernel_rfl, fun w _ => by have hwY := HWY.out; go_simp⟩) hH ?_
          (try simp only [List.setIfInBounds_toArray, List.set_cons_zero, List.set_cons_succ])
          refine wpAnyH_ready (rs := [12]) (by kernel_rfl) (by simp) ?_
          refine AllReadyH.cons rfl (fun K hK => ?_) AllReadyH.nil
          go_simp
          refine (HOP.out wd8 HPW8.out).mono ?_
          rintro e9 w9 ⟨rfl, hw9⟩
          rw [hw9]
          clear hw9
          refine hK.out _ _ HS8.out (fun hH => ?_)
          clear hK K
          refine held_take 13 30 (v := .tuple #[.int .i64 E1, .int .i64 E2]) rfl rfl (by kernel_rfl) (by kernel_rfl) (by kernel_rfl) (fun _ _ _ h => h) (Or.inl ⟨by kernel_rfl, fun w _ => by kernel_rfl⟩) hH ?_
          (try simp only [List.setIfInBounds_toArray, List.set_cons_zero, List.set_cons_succ])
          refine held_take 14 44 (v := .int .i64 E1) rfl rfl (by kernel_rfl) (by kernel_rfl) (by kernel_rfl) (fun _ _ _ h => h) (Or.inl ⟨by kernel_rfl, fun w _ => by kernel_rfl⟩) hH ?_
          (try simp only [List.setIfInBounds_toArray, List.set_cons_zero, List.set_cons_succ])
          refine held_take 15 45 (v := .int .i64 E2) rfl rfl (by kernel_rfl) (by kernel_rfl) (by kernel_rfl) (fun _ _ _ h => h) (Or.inl ⟨by kernel_rfl, fun w _ => by kernel_rfl⟩) hH ?_
          (try simp only [List.setIfInBounds_toArray, List.set_cons_zero, List.set_cons_succ])
          refine held_take 16 9 (v := .int .i64 E1) rfl rfl (by kernel_rfl) (by kernel_rfl) (by kernel_rfl) (fun _ _ _ h => h) (Or.inl ⟨by kernel_rfl, fun w _ => by kernel_rfl⟩) hH ?_
          (try simp only [List.setIfInBounds_toArray, List.set_cons_zero, List.set_cons_succ])
          refine held_take 17 10 (v := .int .i64 E2) rfl rfl (by kernel_rfl) (by kernel_rfl) (by kernel_rfl) (fun _ _ _ h => h) (Or.inl ⟨by kernel_rfl, fun w _ => by kernel_rfl⟩) hH ?_
          (try simp only [List.setIfInBounds_toArray, List.set_cons_zero, List.set_cons_succ])
          refine wpAnyH_done (by kernel_rfl) ?_ _
          go_simp
          clear hH HS8
          go_upto_region 8 with (fail)
          refine wp_region_held_drew (S := fun _ => True) (by kernel_rfl) trivial (fun hH => ?_)
          change wpAnyH _ _ _ _ _ _ _ _ (World.drew _)
          rw [← HWD9.out]
          clear hH
          have hH : True := trivial
          clear HWD9
          refine held_take 0 46 (v := .int .i64 (t : Int)) rfl rfl (by kernel_rfl) (by kernel_rfl) (by kernel_rfl) (fun _ _ _ h => h) (Or.inl ⟨by kernel_rfl, fun w _ => by kernel_rfl⟩) hH ?_
          (try simp only [List.setIfInBounds_toArray, List.set_cons_zero, List.set_cons_succ])
          refine held_take 1 47 (v := .int .i64 (t : Int)) rfl rfl (by kernel_rfl) (by kernel_rfl) (by kernel_rfl) (fun _ _ _ h => h) (Or.inl ⟨by kernel_rfl, fun w _ => by kernel_rfl⟩) hH ?_
          (try simp only [List.setIfInBounds_toArray, List.set_cons_zero, List.set_cons_succ])
          refine held_take 2 48 (v := .int .i64 (s : Int)) rfl rfl (by kernel_rfl) (by kernel_rfl) (by kernel_rfl) (fun _ _ _ h => h) (Or.inl ⟨by kernel_rfl, fun w _ => by kernel_rfl⟩) hH ?_
          (try simp only [List.setIfInBounds_toArray, List.set_cons_zero, List.set_cons_succ])
          refine held_take 3 49 (v := .int .i64 (u : Int)) rfl rfl (by kernel_rfl) (by kernel_rfl) (by kernel_rfl) (fun _ _ _ h => h) (Or.inl ⟨by kernel_rfl, fun w _ => by have hwu := HWU.out.1; have hwu2 := HWU.out.2; go_simp⟩) hH ?_
          (try simp only [List.setIfInBounds_toArray, List.set_cons_zero, List.set_cons_succ])
          refine held_take 4 50 (v := .int .i64 E1) rfl rfl (by kernel_rfl) (by kernel_rfl) (by kernel_rfl) (fun _ _ _ h => h) (Or.inl ⟨by kernel_rfl, fun w _ => by kernel_rfl⟩) hH ?_
          (try simp only [List.setIfInBounds_toArray, List.set_cons_zero, List.set_cons_succ])
          refine held_take 6 52 (v := .int .i64 E2) rfl rfl (by kernel_rfl) (by kernel_rfl) (by kernel_rfl) (fun _ _ _ h => h) (Or.inl ⟨by kernel_rfl, fun w _ => by kernel_rfl⟩) hH ?_
          (try simp only [List.setIfInBounds_toArray, List.set_cons_zero, List.set_cons_succ])
          refine wpAnyH_ready (rs := [5]) (by kernel_rfl) (by simp) ?_
          refine AllReadyH.cons rfl (fun K hK => ?_) AllReadyH.nil
          go_simp
          refine (HR1.out wd9).mono ?_
          rintro e9 w9 ⟨rfl, hw9⟩
          rw [hw9]
          clear hw9
          refine hK.out _ _ trivial (fun hH => ?_)
          clear hK K
          refine held_take 8 54 (v := .pointer (some ⟨g, t, none⟩)) rfl rfl (by kernel_rfl) (by kernel_rfl) (by kernel_rfl) (fun _ _ _ h => h) (Or.inl ⟨by kernel_rfl, fun w _ => by go_simp⟩) hH ?_
          (try simp only [List.setIfInBounds_toArray, List.set_cons_zero, List.set_cons_succ])
          refine wpAnyH_ready (rs := [7]) (by kernel_rfl) (by simp) ?_
          refine AllReadyH.cons rfl (fun K hK => ?_) AllReadyH.nil
          go_simp
          refine (HR2.out wd9).mono ?_
          rintro e9 w9 ⟨rfl, hw9⟩
          rw [hw9]
          clear hw9
          refine hK.out _ _ trivial (fun hH => ?_)
          clear hK K
          refine wpAnyH_ready (rs := [9]) (by kernel_rfl) (by simp) ?_
          refine AllReadyH.cons rfl (fun K hK => ?_) AllReadyH.nil
          go_simp
          refine hK.out _ _ trivial (fun hH => ?_)
          clear hK K
          refine held_take 10 55 (v := .pointer (some ⟨g, u, none⟩)) rfl rfl (by kernel_rfl) (by kernel_rfl) (by kernel_rfl) (fun _ _ _ h => h) (Or.inl ⟨by kernel_rfl, fun w _ => by go_simp⟩) hH ?_
          (try simp only [List.setIfInBounds_toArray, List.set_cons_zero, List.set_cons_succ])
          refine wpAnyH_ready (rs := [11]) (by kernel_rfl) (by simp) ?_
          refine AllReadyH.cons rfl (fun K hK => ?_) AllReadyH.nil
          go_simp
          refine hK.out _ _ trivial (fun hH => ?_)
          clear hK K
          refine wpAnyH_done (by kernel_rfl) ?_ _
          go_simp
          go_wp2_with fail
          go_roundg (s - (r + 1))
          case rel => exact ⟨r + 1, t + 1, HLT2.out, rfl, HTN.out, by go_num, HT⟩
          case measure => rw [HGQ2.out]; exact HMS2.out
        · have htd : ¬ (t : Int) < (d : Int) := by omega
          have HE : Hid (∃ F, Fx [(g + 1, 27, arr .u32 256 fun _ => 0)] .u32 256 w wr g 27 F ∧ ∀ k, k < 256 → F k = prt PP s f (i + 1) 0 k) := Lib.hid (by
            obtain ⟨F, hT, hF⟩ := HQ2.out
            exact ⟨F, hT, fun k hk => by rw [hF k hk, show r = s by omega, prt_block _ HS.out]⟩)
          clear HQ2
          obtain ⟨hw2s, hw2s2⟩ := HW2S.out
          obtain ⟨hwb, hwb2, hwd, hwd2⟩ := HWB.out
          go_wp2_with fail
          go_roundg (m - (i + 1))
          case rel => exact ⟨i + 1, HLT.out, rfl, by go_num, HE⟩
          case measure => rw [HGQ.out]; exact HMS.out
    · have hii : ¬ (i : Int) < (m : Int) := by omega
      obtain ⟨F, hT, hF⟩ := HQ.out
      have he : arr .u32 256 F = arr .u32 256 PP := arr_ext fun j hj => by rw [hF j hj, show i = 128 / s by rw [HM.out]; omega, prt_end _ HS.out _ _ hj]
      have hr2 := hT.2.2
      have hr1 := hT.2.1 (g + 1, 27, arr .u32 256 fun _ => 0) (by simp)
      unfold LM at hr2
      rw [he] at hr2
      have hi2 := infP PP
      have hs2 : (arr .u32 256 fun _ => 0).size = (arr .u32 256 PP).size := by rw [arr_size, arr_size]
      have ho2 := arr_one .u32 256 PP
      have HP := Lib.hid hT.1
      clear hT hF he HQ
      generalize hcc : arr .u32 256 PP = c2 at *
      have HCC := Lib.hid hcc
      clear hcc
      generalize arr .u32 256 (fun _ => 0) = c1 at *
      simp only at hr1
      go_wp2_with (first | (refine wpList_load_row rfl 27 _ rfl g rfl _ _ (0, 0) _ hr2 Try.underlying27 rfl hi2 ?_) | (refine wpList_store_row rfl 27 _ _ rfl (g + 1) _ rfl rfl _ _ hr1 hi2 hs2 ho2 ?_))
      refine bodyPost_ret (results_cell_row rfl _ _ (g + 1) _ c2 (0, 0) _ rfl (setRow_heap wr (g + 1) c1 c2 _ _ hr1) Try.underlying27 rfl hi2) rfl ?_
      exact ⟨by rw [HCC.out], below_setRow HP.out (by have := HGE.out; omega) _⟩
end Go.Proofs.Ytngbmaojgfocgaa.dr
