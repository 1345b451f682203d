/- slices.insertionSortCmpFunc at pairs. -/
import Derived.Test.YtclnoblcdaimiaaDoorSt11E
import Derived.Sort.WalkA
namespace Go.Proofs.YtclnoblcdaimiaaDoor
open Go.RowKit Go.Sort Go.Shelf Go.Lib
set_option linter.unusedVariables false

theorem yields_load {P : Program} {ops : Array Oper} {S : World → Prop} {o : Oper} {a : Act} (hw : Region.wanted o (yielded ops a.tmps) = true) (ty : TypeId) (x : Operand) (ho : o.op = .load ty x) (ad : Addr) (hx : a.eval x = .pointer (some ad)) (v : Value) (hl : ∀ w, S w → (loadVar ty ad).run P w = .ok v w) : YieldsIf P ops S o v a :=
  .inl ⟨hw, fun w h => by
    unfold execOp
    simp only [ho, hx, Instr.loadAt, Instr.sureAddr, Sem.run_bind, Sem.run_pure, Result.andThen_ok, hl w h]⟩
/-- What a comparison of the elements u and v meets. -/
theorem tst {w0 : World} {blk off : Nat} {d0 dk : Array P2} (R : RowK encP 2 w0 blk off d0) (hs : dk.size = d0.size) {u v : Nat} (hu : u < dk.size) (hv : v < dk.size) :
    ∃ X Y, (∀ w, SWK encP 2 w0 blk off dk w → (loadVar 54 ⟨blk, off + u * 2, none⟩).run Tryd.prog w = .ok X w) ∧ (∀ w, SWK encP 2 w0 blk off dk w → (loadVar 54 ⟨blk, off + v * 2, none⟩).run Tryd.prog w = .ok Y w)
      ∧ ∀ w, Calls Tryd.prog 38 #[X, Y] w fun e w' => e = .returned (.int .i64 (cfP dk[u]! dk[v]!)) ∧ ∃ q os, w' = grow (w.drewN q) os :=
  ⟨_, _, fun w S => load_pair _ _ _ _ _ (holdsP (S.holds R.hblk R.hH hs) u hu).1 (holdsP (S.holds R.hblk R.hH hs) u hu).2.1, fun w S => load_pair _ _ _ _ _ (holdsP (S.holds R.hblk R.hH hs) v hv).1 (holdsP (S.holds R.hblk R.hH hs) v hv).2.1, fun w => cmp_any dk[u]! dk[v]! w⟩
set_option maxHeartbeats 4000000 in
set_option maxRecDepth 100000 in
theorem insertion_any (blk off cap a b : Nat) (d0 d : Array P2) (w0 w : World) (R : RowK encP 2 w0 blk off d0) (hs : d0.size = d.size) (S : SWK encP 2 w0 blk off d w) (hab : a ≤ b) (hb : b ≤ d.size) (hsz : d.size ≤ 1000000) :
    Calls Tryd.prog 65 #[.slice (some ⟨blk, off, none⟩) d.size cap, .int .i64 (a : Int), .int .i64 (b : Int), .func (.func 38) #[] #[]] w fun e w' => e = .returned (.tuple #[]) ∧ SWK encP 2 w0 blk off (insertionSort (ltOf cfP) d a b) w' := by
  have HR := Lib.hid R
  obtain ⟨N, hN⟩ : ∃ N, d.size = N := ⟨_, rfl⟩
  have HDS : Hid (d0.size = N) := Lib.hid (by rw [hs, hN])
  have H0 : Hid (insOuter (ltOf cfP) a b (a + 1) d = insertionSort (ltOf cfP) d a b ∧ d.size = N ∧ SWK encP 2 w0 blk off d w) := Lib.hid ⟨rfl, hN, S⟩
  rw [hN] at hb hsz ⊢
  obtain ⟨dr, hdr⟩ : ∃ dr, insertionSort (ltOf cfP) d a b = dr := ⟨_, rfl⟩
  rw [hdr] at H0 ⊢
  have HA1 : Hid (IntKind.i64.wrap ((a : Int) + 1) = ((a + 1 : Nat) : Int) ∧ wrap64 ((a + 1 : Nat) : Int) = ((a + 1 : Nat) : Int)) := Lib.hid ⟨by rw [IntKind.wrap_i64]; omega, IntWalk.wrap64_in _ (by omega)⟩
  obtain ⟨a1, ha1⟩ : ∃ a1, a + 1 = a1 := ⟨_, rfl⟩
  rw [ha1] at HA1 H0
  have ha1' : a < a1 := by omega
  clear R S hs hN hdr
  obtain ⟨h1, h2⟩ := HA1.out
  go_enter Tryd.func65, Tryd.ntmps65
  go_wp2_with fail
  go_loopg [8] (b - a1) (fun q s8 wx => ∃ (i : Nat) (dk : Array P2), a < i ∧ s8 = .int .i64 (i : Int) ∧ q = b - i ∧ Hid (insOuter (ltOf cfP) a b i dk = dr ∧ dk.size = N ∧ SWK encP 2 w0 blk off dk wx))
  case atStart => exact ⟨a1, d, ha1', rfl, rfl, H0⟩
  case round =>
    clear H0 h1 h2 ha1 ha1'
    obtain ⟨i, dk, hai, rfl, hq, HQ⟩ := hrel
    have HGQ := Lib.hid hq
    clear hq
    by_cases hlt : i < b
    · have hii : (i : Int) < (b : Int) := Int.ofNat_lt.2 hlt
      have HAI : Hid (a < i + 1 ∧ i < b) := Lib.hid ⟨by omega, hlt⟩
      have HMS : Hid (b - (i + 1) < b - i) := Lib.hid (by omega)
      have HOUT : Hid (∀ dj, insInner (ltOf cfP) a i dk = dj → insOuter (ltOf cfP) a b (i + 1) dj = dr) := Lib.hid (fun dj h => by rw [← HQ.out.1, insOuter_go _ _ _ _ _ hlt, h])
      have HIN : Hid (i < N) := Lib.hid (by omega)
      have HAI2 := Lib.hid hai
      clear hlt
      go_wp2_with fail
      go_loopg [9] i (fun q s9 wx => ∃ (p : Nat) (dj : Array P2), s9 = .int .i64 (p : Int) ∧ a ≤ p ∧ p ≤ i ∧ q = p ∧ Hid (insInner (ltOf cfP) a p dj = insInner (ltOf cfP) a i dk ∧ dj.size = N ∧ SWK encP 2 w0 blk off dj wx))
      case atStart => exact ⟨i, dk, rfl, Nat.le_of_lt HAI2.out, Nat.le_refl _, rfl, Lib.hid ⟨rfl, HQ.out.2⟩⟩
      case round =>
        rename_i wo
        clear HQ
        obtain ⟨p, dj, rfl, hap, hpi, hq, HI⟩ := hrel
        have HGQ2 := Lib.hid hq
        clear hq
        obtain ⟨hI1, hsj, hSj⟩ := HI.out
        obtain ⟨wd, hwd⟩ : ∃ w', w' = wr.drew := ⟨_, rfl⟩
        have HWD := Lib.hid hwd
        have hSd := hSj.drew
        rw [← hwd] at hSd
        have HSD := Lib.hid hSd
        have hpN : p < N := by have := HIN.out; omega
        by_cases hja : a < p
        · have hjaz : (a : Int) < (p : Int) := Int.ofNat_lt.2 hja
          obtain ⟨q, hpq⟩ : ∃ q, p = q + 1 := ⟨p - 1, by omega⟩
          obtain ⟨X, Y, lx, ly, hcm⟩ := tst HR.out (by rw [hsj, HDS.out]) (u := p) (v := q) (dk := dj) (by rw [hsj]; exact hpN) (by rw [hsj]; omega)
          have HLX := Lib.hid lx
          have HLY := Lib.hid ly
          obtain ⟨c, hc⟩ : ∃ c, cfP dj[p]! dj[q]! = c := ⟨_, rfl⟩
          rw [hc] at hcm
          have HCM := Lib.hid hcm
          have HWQ : Hid (IntKind.i64.wrap ((p : Int) - 1) = (q : Int) ∧ wrap64 (q : Int) = (q : Int)) := Lib.hid ⟨by rw [IntKind.wrap_i64]; omega, IntWalk.wrap64_in _ (by omega)⟩
          have hp0 : (0 : Int) ≤ (p : Int) := by omega
          have hq0 : (0 : Int) ≤ (q : Int) := by omega
          have hpN' : (p : Int) < (N : Int) := by omega
          have hqN' : (q : Int) < (N : Int) := by omega
          have HAQ : Hid (a ≤ q ∧ q ≤ i) := Lib.hid ⟨by omega, by omega⟩
          have HMS2 : Hid (q < p) := Lib.hid (by omega)
          have HPQ := Lib.hid hpq
          have HPN := Lib.hid hpN
          have HJA := Lib.hid hja
          by_cases hlv : c < 0
          · have HG2 : Hid (insInner (ltOf cfP) a q (swp dj p q) = insInner (ltOf cfP) a i dk) := Lib.hid (by
              have := insInner_go (ltOf cfP) a p dj hja (by rw [show p - 1 = q by omega]; unfold ltOf; rw [hc]; exact decide_eq_true hlv)
              rw [show p - 1 = q by omega] at this
              rw [← hI1, this])
            have HSJ := Lib.hid hsj
            clear lx ly hcm hc hI1 hSj hSd hwd hpq hpN hja hap hpi hsj HI
            go_upto_region 4 with (fail)
            refine wp_region_held_drew (S := fun w' => SWK encP 2 w0 blk off dj w') (by kernel_rfl) (by rw [← HWD.out]; exact HSD.out) (fun hH => ?_)
            change wpAnyH _ _ _ _ _ _ _ _ (World.drew _)
            rw [← HWD.out]
            clear hH HWD
            have hH := HSD.out
            refine held_take 0 18 (v := .int .i64 (p : Int)) rfl rfl (by kernel_rfl) (by kernel_rfl) (by kernel_rfl) (fun _ _ _ h => h) (Or.inl ⟨by kernel_rfl, fun w _ => by kernel_rfl⟩) hH ?_
            (try simp only [List.setIfInBounds_toArray, List.set_cons_zero, List.set_cons_succ])
            refine held_take 1 19 (v := .int .i64 (a : Int)) rfl rfl (by kernel_rfl) (by kernel_rfl) (by kernel_rfl) (fun _ _ _ h => h) (Or.inl ⟨by kernel_rfl, fun w _ => by kernel_rfl⟩) hH ?_
            (try simp only [List.setIfInBounds_toArray, List.set_cons_zero, List.set_cons_succ])
            refine held_take 2 20 (v := .bool true) rfl rfl (by kernel_rfl) (by kernel_rfl) (by kernel_rfl) (fun _ _ _ h => h) (Or.inl ⟨by kernel_rfl, fun w _ => by go_simp⟩) hH ?_
            (try simp only [List.setIfInBounds_toArray, List.set_cons_zero, List.set_cons_succ])
            refine held_take 3 21 (v := .bool true) rfl rfl (by kernel_rfl) (by kernel_rfl) (by kernel_rfl) (fun _ _ _ h => h) (Or.inl ⟨by kernel_rfl, fun w _ => by kernel_rfl⟩) hH ?_
            (try simp only [List.setIfInBounds_toArray, List.set_cons_zero, List.set_cons_succ])
            refine held_take 4 22 (v := .func (.func 38) #[] #[]) rfl rfl (by kernel_rfl) (by kernel_rfl) (by kernel_rfl) (fun _ _ _ h => h) (Or.inl ⟨by kernel_rfl, fun w _ => by kernel_rfl⟩) hH ?_
            (try simp only [List.setIfInBounds_toArray, List.set_cons_zero, List.set_cons_succ])
            refine held_take 5 23 (v := .slice (some ⟨blk, off, none⟩) N cap) rfl rfl (by kernel_rfl) (by kernel_rfl) (by kernel_rfl) (fun _ _ _ h => h) (Or.inl ⟨by kernel_rfl, fun w _ => by kernel_rfl⟩) hH ?_
            (try simp only [List.setIfInBounds_toArray, List.set_cons_zero, List.set_cons_succ])
            refine held_take 6 24 (v := .int .i64 (p : Int)) rfl rfl (by kernel_rfl) (by kernel_rfl) (by kernel_rfl) (fun _ _ _ h => h) (Or.inl ⟨by kernel_rfl, fun w _ => by kernel_rfl⟩) hH ?_
            (try simp only [List.setIfInBounds_toArray, List.set_cons_zero, List.set_cons_succ])
            refine held_take 7 25 (v := .pointer (some ⟨blk, off + p * 2, none⟩)) rfl rfl (by kernel_rfl) (by kernel_rfl) (by kernel_rfl) (fun _ _ _ h => h) (Or.inl ⟨by kernel_rfl, fun w _ => by go_simp⟩) hH ?_
            (try simp only [List.setIfInBounds_toArray, List.set_cons_zero, List.set_cons_succ])
            refine held_take 8 26 (v := X) rfl rfl (by kernel_rfl) (by kernel_rfl) (by kernel_rfl) (fun _ _ _ h => h) (yields_load (by kernel_rfl) 54 (.tmp 25) rfl ⟨blk, off + p * 2, none⟩ rfl X (fun w h => HLX.out w h)) hH ?_
            refine held_take 9 27 (v := .slice (some ⟨blk, off, none⟩) N cap) rfl rfl (by kernel_rfl) (by kernel_rfl) (by kernel_rfl) (fun _ _ _ h => h) (Or.inl ⟨by kernel_rfl, fun w _ => by kernel_rfl⟩) hH ?_
            (try simp only [List.setIfInBounds_toArray, List.set_cons_zero, List.set_cons_succ])
            refine held_take 10 28 (v := .int .i64 (p : Int)) rfl rfl (by kernel_rfl) (by kernel_rfl) (by kernel_rfl) (fun _ _ _ h => h) (Or.inl ⟨by kernel_rfl, fun w _ => by kernel_rfl⟩) hH ?_
            (try simp only [List.setIfInBounds_toArray, List.set_cons_zero, List.set_cons_succ])
            refine held_take 11 29 (v := .int .i64 (q : Int)) rfl rfl (by kernel_rfl) (by kernel_rfl) (by kernel_rfl) (fun _ _ _ h => h) (Or.inl ⟨by kernel_rfl, fun w _ => by have hwq := HWQ.out.1; have hwq2 := HWQ.out.2; go_simp⟩) hH ?_
            (try simp only [List.setIfInBounds_toArray, List.set_cons_zero, List.set_cons_succ])
            refine held_take 12 30 (v := .pointer (some ⟨blk, off + q * 2, none⟩)) rfl rfl (by kernel_rfl) (by kernel_rfl) (by kernel_rfl) (fun _ _ _ h => h) (Or.inl ⟨by kernel_rfl, fun w _ => by go_simp⟩) hH ?_
            (try simp only [List.setIfInBounds_toArray, List.set_cons_zero, List.set_cons_succ])
            refine held_take 13 31 (v := Y) rfl rfl (by kernel_rfl) (by kernel_rfl) (by kernel_rfl) (fun _ _ _ h => h) (yields_load (by kernel_rfl) 54 (.tmp 30) rfl ⟨blk, off + q * 2, none⟩ rfl Y (fun w h => HLY.out w h)) hH ?_
            refine wpAnyH_ready (rs := [14]) (by kernel_rfl) (by simp) ?_
            refine AllReadyH.cons (by simp only [List.getElem?_toArray, List.getElem?_cons_succ, List.getElem?_cons_zero]; rfl) (fun K hK => ?_) AllReadyH.nil
            go_simp
            refine (HCM.out wd).mono ?_
            rintro e9 w9 ⟨rfl, q9, os9, hw9⟩
            have HS9 : Hid (SWK encP 2 w0 blk off dj w9) := Lib.hid (by rw [hw9]; exact HSD.out.grown q9 os9)
            clear hw9
            refine hK.out _ _ HS9.out (fun hH => ?_)
            clear hK K
            refine held_take 15 33 (v := .bool true) rfl rfl (by kernel_rfl) (by kernel_rfl) (by kernel_rfl) (fun _ _ _ h => h) (Or.inl ⟨by kernel_rfl, fun w _ => by go_simp⟩) hH ?_
            (try simp only [List.setIfInBounds_toArray, List.set_cons_zero, List.set_cons_succ])
            refine held_take 16 34 (v := .bool true) rfl rfl (by kernel_rfl) (by kernel_rfl) (by kernel_rfl) (fun _ _ _ h => h) (Or.inl ⟨by kernel_rfl, fun w _ => by go_simp⟩) hH ?_
            (try simp only [List.setIfInBounds_toArray, List.set_cons_zero, List.set_cons_succ])
            refine wpAnyH_done (by kernel_rfl) ?_ _
            go_simp
            clear hH
            obtain ⟨we, hwe⟩ : ∃ w', w' = w9.drew := ⟨_, rfl⟩
            have HWE := Lib.hid hwe
            have hSe := HS9.out.drew
            rw [← hwe] at hSe
            obtain ⟨X, Y, w1, w2, l1, l2, s1, s2, hS2⟩ := exch HR.out (by rw [HSJ.out, HDS.out]) hSe (p := p) (q := q) (by rw [HSJ.out]; exact HPN.out) (by have := HSJ.out; have := HPN.out; have := HPQ.out; omega) (by have := HPQ.out; omega)
            have HT : Hid (insInner (ltOf cfP) a q (swp dj p q) = insInner (ltOf cfP) a i dk ∧ (swp dj p q).size = N ∧ SWK encP 2 w0 blk off (swp dj p q) w2) := Lib.hid ⟨HG2.out, by rw [swp_size, HSJ.out], hS2⟩
            clear hwe hSe hS2 HS9 HSD HLX HLY HCM
            go_upto_region 6 with (fail)
            refine wp_region_held_drew (S := fun _ => True) (by kernel_rfl) trivial (fun hH => ?_)
            change wpAnyH _ _ _ _ _ _ _ _ (World.drew _)
            rw [← HWE.out]
            clear hH HWE
            have hH : True := trivial
            refine held_take 0 37 (v := .slice (some ⟨blk, off, none⟩) N cap) rfl rfl (by kernel_rfl) (by kernel_rfl) (by kernel_rfl) (fun _ _ _ h => h) (Or.inl ⟨by kernel_rfl, fun w _ => by kernel_rfl⟩) hH ?_
            (try simp only [List.setIfInBounds_toArray, List.set_cons_zero, List.set_cons_succ])
            refine held_take 1 38 (v := .int .i64 (p : Int)) rfl rfl (by kernel_rfl) (by kernel_rfl) (by kernel_rfl) (fun _ _ _ h => h) (Or.inl ⟨by kernel_rfl, fun w _ => by kernel_rfl⟩) hH ?_
            (try simp only [List.setIfInBounds_toArray, List.set_cons_zero, List.set_cons_succ])
            refine held_take 2 39 (v := .slice (some ⟨blk, off, none⟩) N cap) rfl rfl (by kernel_rfl) (by kernel_rfl) (by kernel_rfl) (fun _ _ _ h => h) (Or.inl ⟨by kernel_rfl, fun w _ => by kernel_rfl⟩) hH ?_
            (try simp only [List.setIfInBounds_toArray, List.set_cons_zero, List.set_cons_succ])
            refine held_take 3 40 (v := .int .i64 (p : Int)) rfl rfl (by kernel_rfl) (by kernel_rfl) (by kernel_rfl) (fun _ _ _ h => h) (Or.inl ⟨by kernel_rfl, fun w _ => by kernel_rfl⟩) hH ?_
            (try simp only [List.setIfInBounds_toArray, List.set_cons_zero, List.set_cons_succ])
            refine held_take 4 41 (v := .int .i64 (q : Int)) rfl rfl (by kernel_rfl) (by kernel_rfl) (by kernel_rfl) (fun _ _ _ h => h) (Or.inl ⟨by kernel_rfl, fun w _ => by have hwq := HWQ.out.1; have hwq2 := HWQ.out.2; go_simp⟩) hH ?_
            (try simp only [List.setIfInBounds_toArray, List.set_cons_zero, List.set_cons_succ])
            refine held_take 5 42 (v := .slice (some ⟨blk, off, none⟩) N cap) rfl rfl (by kernel_rfl) (by kernel_rfl) (by kernel_rfl) (fun _ _ _ h => h) (Or.inl ⟨by kernel_rfl, fun w _ => by kernel_rfl⟩) hH ?_
            (try simp only [List.setIfInBounds_toArray, List.set_cons_zero, List.set_cons_succ])
            refine held_take 6 43 (v := .int .i64 (p : Int)) rfl rfl (by kernel_rfl) (by kernel_rfl) (by kernel_rfl) (fun _ _ _ h => h) (Or.inl ⟨by kernel_rfl, fun w _ => by kernel_rfl⟩) hH ?_
            (try simp only [List.setIfInBounds_toArray, List.set_cons_zero, List.set_cons_succ])
            refine held_take 7 44 (v := .int .i64 (q : Int)) rfl rfl (by kernel_rfl) (by kernel_rfl) (by kernel_rfl) (fun _ _ _ h => h) (Or.inl ⟨by kernel_rfl, fun w _ => by have hwq := HWQ.out.1; have hwq2 := HWQ.out.2; go_simp⟩) hH ?_
            (try simp only [List.setIfInBounds_toArray, List.set_cons_zero, List.set_cons_succ])
            refine held_take 8 45 (v := .pointer (some ⟨blk, off + q * 2, none⟩)) rfl rfl (by kernel_rfl) (by kernel_rfl) (by kernel_rfl) (fun _ _ _ h => h) (Or.inl ⟨by kernel_rfl, fun w _ => by go_simp⟩) hH ?_
            (try simp only [List.setIfInBounds_toArray, List.set_cons_zero, List.set_cons_succ])
            refine held_take 10 47 (v := .slice (some ⟨blk, off, none⟩) N cap) rfl rfl (by kernel_rfl) (by kernel_rfl) (by kernel_rfl) (fun _ _ _ h => h) (Or.inl ⟨by kernel_rfl, fun w _ => by kernel_rfl⟩) hH ?_
            (try simp only [List.setIfInBounds_toArray, List.set_cons_zero, List.set_cons_succ])
            refine held_take 11 48 (v := .int .i64 (p : Int)) rfl rfl (by kernel_rfl) (by kernel_rfl) (by kernel_rfl) (fun _ _ _ h => h) (Or.inl ⟨by kernel_rfl, fun w _ => by kernel_rfl⟩) hH ?_
            (try simp only [List.setIfInBounds_toArray, List.set_cons_zero, List.set_cons_succ])
            refine held_take 12 49 (v := .pointer (some ⟨blk, off + p * 2, none⟩)) rfl rfl (by kernel_rfl) (by kernel_rfl) (by kernel_rfl) (fun _ _ _ h => h) (Or.inl ⟨by kernel_rfl, fun w _ => by go_simp⟩) hH ?_
            (try simp only [List.setIfInBounds_toArray, List.set_cons_zero, List.set_cons_succ])
            refine wpAnyH_ready (rs := [9, 13]) (by kernel_rfl) (by simp) ?_
            refine AllReadyH.cons (by simp only [List.getElem?_toArray, List.getElem?_cons_succ, List.getElem?_cons_zero]; rfl) (fun K hK => ?_) (AllReadyH.cons (by simp only [List.getElem?_toArray, List.getElem?_cons_succ, List.getElem?_cons_zero]; rfl) (fun K hK => ?_) AllReadyH.nil)
            · refine step_load rfl 54 (.tmp 45) rfl ⟨blk, off + q * 2, none⟩ rfl Y l2 ?_
              (try dsimp only [Act.put])
              (try simp only [List.setIfInBounds_toArray])
              (try simp only [List.set_cons_succ])
              (try simp only [List.set_cons_zero])
              refine hK.out _ _ trivial (fun hH => ?_)
              clear hK K
              refine wpAnyH_ready (rs := [13]) (by kernel_rfl) (by simp) ?_
              refine AllReadyH.cons (by simp only [List.getElem?_toArray, List.getElem?_cons_succ, List.getElem?_cons_zero]; rfl) (fun K hK => ?_) AllReadyH.nil
              refine step_load rfl 54 (.tmp 49) rfl ⟨blk, off + p * 2, none⟩ rfl X l1 ?_
              (try dsimp only [Act.put])
              (try simp only [List.setIfInBounds_toArray])
              (try simp only [List.set_cons_succ])
              (try simp only [List.set_cons_zero])
              refine hK.out _ _ trivial (fun hH => ?_)
              clear hK K
              refine held_take 14 51 (v := .pointer (some ⟨blk, off + p * 2, none⟩)) rfl rfl (by kernel_rfl) (by kernel_rfl) (by kernel_rfl) (fun _ _ _ h => h) (Or.inl ⟨by kernel_rfl, fun w _ => by go_simp⟩) hH ?_
              (try simp only [List.setIfInBounds_toArray, List.set_cons_zero, List.set_cons_succ])
              refine wpAnyH_ready (rs := [15]) (by kernel_rfl) (by simp) ?_
              refine AllReadyH.cons (by simp only [List.getElem?_toArray, List.getElem?_cons_succ, List.getElem?_cons_zero]; rfl) (fun K hK => ?_) AllReadyH.nil
              refine step_store rfl 54 (.tmp 51) (.tmp 46) rfl ⟨blk, off + p * 2, none⟩ Y rfl rfl _ s1 ?_
              (try dsimp only [Act.put])
              (try simp only [List.setIfInBounds_toArray])
              (try simp only [List.set_cons_succ])
              (try simp only [List.set_cons_zero])
              refine hK.out _ _ trivial (fun hH => ?_)
              clear hK K
              refine held_take 16 52 (v := .pointer (some ⟨blk, off + q * 2, none⟩)) rfl rfl (by kernel_rfl) (by kernel_rfl) (by kernel_rfl) (fun _ _ _ h => h) (Or.inl ⟨by kernel_rfl, fun w _ => by go_simp⟩) hH ?_
              (try simp only [List.setIfInBounds_toArray, List.set_cons_zero, List.set_cons_succ])
              refine wpAnyH_ready (rs := [17]) (by kernel_rfl) (by simp) ?_
              refine AllReadyH.cons (by simp only [List.getElem?_toArray, List.getElem?_cons_succ, List.getElem?_cons_zero]; rfl) (fun K hK => ?_) AllReadyH.nil
              refine step_store rfl 54 (.tmp 52) (.tmp 50) rfl ⟨blk, off + q * 2, none⟩ X rfl rfl _ s2 ?_
              (try dsimp only [Act.put])
              (try simp only [List.setIfInBounds_toArray])
              (try simp only [List.set_cons_succ])
              (try simp only [List.set_cons_zero])
              refine hK.out _ _ trivial (fun hH => ?_)
              clear hK K
              refine wpAnyH_done (by kernel_rfl) ?_ _
              go_simp
              clear hH
              obtain ⟨hwq, hwq2⟩ := HWQ.out
              go_wp2_with fail
              go_roundg q
              case rel => exact ⟨q, _, rfl, HAQ.out.1, HAQ.out.2, rfl, HT⟩
              case measure => rw [HGQ2.out]; exact HMS2.out
            · refine step_load rfl 54 (.tmp 49) rfl ⟨blk, off + p * 2, none⟩ rfl X l1 ?_
              (try dsimp only [Act.put])
              (try simp only [List.setIfInBounds_toArray])
              (try simp only [List.set_cons_succ])
              (try simp only [List.set_cons_zero])
              refine hK.out _ _ trivial (fun hH => ?_)
              clear hK K
              refine wpAnyH_ready (rs := [9]) (by kernel_rfl) (by simp) ?_
              refine AllReadyH.cons (by simp only [List.getElem?_toArray, List.getElem?_cons_succ, List.getElem?_cons_zero]; rfl) (fun K hK => ?_) AllReadyH.nil
              refine step_load rfl 54 (.tmp 45) rfl ⟨blk, off + q * 2, none⟩ rfl Y l2 ?_
              (try dsimp only [Act.put])
              (try simp only [List.setIfInBounds_toArray])
              (try simp only [List.set_cons_succ])
              (try simp only [List.set_cons_zero])
              refine hK.out _ _ trivial (fun hH => ?_)
              clear hK K
              refine held_take 14 51 (v := .pointer (some ⟨blk, off + p * 2, none⟩)) rfl rfl (by kernel_rfl) (by kernel_rfl) (by kernel_rfl) (fun _ _ _ h => h) (Or.inl ⟨by kernel_rfl, fun w _ => by go_simp⟩) hH ?_
              (try simp only [List.setIfInBounds_toArray, List.set_cons_zero, List.set_cons_succ])
              refine wpAnyH_ready (rs := [15]) (by kernel_rfl) (by simp) ?_
              refine AllReadyH.cons (by simp only [List.getElem?_toArray, List.getElem?_cons_succ, List.getElem?_cons_zero]; rfl) (fun K hK => ?_) AllReadyH.nil
              refine step_store rfl 54 (.tmp 51) (.tmp 46) rfl ⟨blk, off + p * 2, none⟩ Y rfl rfl _ s1 ?_
              (try dsimp only [Act.put])
              (try simp only [List.setIfInBounds_toArray])
              (try simp only [List.set_cons_succ])
              (try simp only [List.set_cons_zero])
              refine hK.out _ _ trivial (fun hH => ?_)
              clear hK K
              refine held_take 16 52 (v := .pointer (some ⟨blk, off + q * 2, none⟩)) rfl rfl (by kernel_rfl) (by kernel_rfl) (by kernel_rfl) (fun _ _ _ h => h) (Or.inl ⟨by kernel_rfl, fun w _ => by go_simp⟩) hH ?_
              (try simp only [List.setIfInBounds_toArray, List.set_cons_zero, List.set_cons_succ])
              refine wpAnyH_ready (rs := [17]) (by kernel_rfl) (by simp) ?_
              refine AllReadyH.cons (by simp only [List.getElem?_toArray, List.getElem?_cons_succ, List.getElem?_cons_zero]; rfl) (fun K hK => ?_) AllReadyH.nil
              refine step_store rfl 54 (.tmp 52) (.tmp 50) rfl ⟨blk, off + q * 2, none⟩ X rfl rfl _ s2 ?_
              (try dsimp only [Act.put])
              (try simp only [List.setIfInBounds_toArray])
              (try simp only [List.set_cons_succ])
              (try simp only [List.set_cons_zero])
              refine hK.out _ _ trivial (fun hH => ?_)
              clear hK K
              refine wpAnyH_done (by kernel_rfl) ?_ _
              go_simp
              clear hH
              obtain ⟨hwq, hwq2⟩ := HWQ.out
              go_wp2_with fail
              go_roundg q
              case rel => exact ⟨q, _, rfl, HAQ.out.1, HAQ.out.2, rfl, HT⟩
              case measure => rw [HGQ2.out]; exact HMS2.out
          · have HEQ : Hid (insOuter (ltOf cfP) a b (i + 1) dj = dr) := Lib.hid (HOUT.out dj (by
              rw [← hI1]
              exact insInner_stop (ltOf cfP) a p dj (Or.inr (by rw [show p - 1 = q by omega]; unfold ltOf; rw [hc]; exact decide_eq_false hlv))))
            have HSJ := Lib.hid hsj
            clear lx ly hcm hc hI1 hSj hSd hwd hpq hpN hja hap hpi hsj HI
            go_upto_region 4 with (fail)
            refine wp_region_held_drew (S := fun w' => SWK encP 2 w0 blk off dj w') (by kernel_rfl) (by rw [← HWD.out]; exact HSD.out) (fun hH => ?_)
            change wpAnyH _ _ _ _ _ _ _ _ (World.drew _)
            rw [← HWD.out]
            clear hH HWD
            have hH := HSD.out
            refine held_take 0 18 (v := .int .i64 (p : Int)) rfl rfl (by kernel_rfl) (by kernel_rfl) (by kernel_rfl) (fun _ _ _ h => h) (Or.inl ⟨by kernel_rfl, fun w _ => by kernel_rfl⟩) hH ?_
            (try simp only [List.setIfInBounds_toArray, List.set_cons_zero, List.set_cons_succ])
            refine held_take 1 19 (v := .int .i64 (a : Int)) rfl rfl (by kernel_rfl) (by kernel_rfl) (by kernel_rfl) (fun _ _ _ h => h) (Or.inl ⟨by kernel_rfl, fun w _ => by kernel_rfl⟩) hH ?_
            (try simp only [List.setIfInBounds_toArray, List.set_cons_zero, List.set_cons_succ])
            refine held_take 2 20 (v := .bool true) rfl rfl (by kernel_rfl) (by kernel_rfl) (by kernel_rfl) (fun _ _ _ h => h) (Or.inl ⟨by kernel_rfl, fun w _ => by go_simp⟩) hH ?_
            (try simp only [List.setIfInBounds_toArray, List.set_cons_zero, List.set_cons_succ])
            refine held_take 3 21 (v := .bool true) rfl rfl (by kernel_rfl) (by kernel_rfl) (by kernel_rfl) (fun _ _ _ h => h) (Or.inl ⟨by kernel_rfl, fun w _ => by kernel_rfl⟩) hH ?_
            (try simp only [List.setIfInBounds_toArray, List.set_cons_zero, List.set_cons_succ])
            refine held_take 4 22 (v := .func (.func 38) #[] #[]) rfl rfl (by kernel_rfl) (by kernel_rfl) (by kernel_rfl) (fun _ _ _ h => h) (Or.inl ⟨by kernel_rfl, fun w _ => by kernel_rfl⟩) hH ?_
            (try simp only [List.setIfInBounds_toArray, List.set_cons_zero, List.set_cons_succ])
            refine held_take 5 23 (v := .slice (some ⟨blk, off, none⟩) N cap) rfl rfl (by kernel_rfl) (by kernel_rfl) (by kernel_rfl) (fun _ _ _ h => h) (Or.inl ⟨by kernel_rfl, fun w _ => by kernel_rfl⟩) hH ?_
            (try simp only [List.setIfInBounds_toArray, List.set_cons_zero, List.set_cons_succ])
            refine held_take 6 24 (v := .int .i64 (p : Int)) rfl rfl (by kernel_rfl) (by kernel_rfl) (by kernel_rfl) (fun _ _ _ h => h) (Or.inl ⟨by kernel_rfl, fun w _ => by kernel_rfl⟩) hH ?_
            (try simp only [List.setIfInBounds_toArray, List.set_cons_zero, List.set_cons_succ])
            refine held_take 7 25 (v := .pointer (some ⟨blk, off + p * 2, none⟩)) rfl rfl (by kernel_rfl) (by kernel_rfl) (by kernel_rfl) (fun _ _ _ h => h) (Or.inl ⟨by kernel_rfl, fun w _ => by go_simp⟩) hH ?_
            (try simp only [List.setIfInBounds_toArray, List.set_cons_zero, List.set_cons_succ])
            refine held_take 8 26 (v := X) rfl rfl (by kernel_rfl) (by kernel_rfl) (by kernel_rfl) (fun _ _ _ h => h) (yields_load (by kernel_rfl) 54 (.tmp 25) rfl ⟨blk, off + p * 2, none⟩ rfl X (fun w h => HLX.out w h)) hH ?_
            refine held_take 9 27 (v := .slice (some ⟨blk, off, none⟩) N cap) rfl rfl (by kernel_rfl) (by kernel_rfl) (by kernel_rfl) (fun _ _ _ h => h) (Or.inl ⟨by kernel_rfl, fun w _ => by kernel_rfl⟩) hH ?_
            (try simp only [List.setIfInBounds_toArray, List.set_cons_zero, List.set_cons_succ])
            refine held_take 10 28 (v := .int .i64 (p : Int)) rfl rfl (by kernel_rfl) (by kernel_rfl) (by kernel_rfl) (fun _ _ _ h => h) (Or.inl ⟨by kernel_rfl, fun w _ => by kernel_rfl⟩) hH ?_
            (try simp only [List.setIfInBounds_toArray, List.set_cons_zero, List.set_cons_succ])
            refine held_take 11 29 (v := .int .i64 (q : Int)) rfl rfl (by kernel_rfl) (by kernel_rfl) (by kernel_rfl) (fun _ _ _ h => h) (Or.inl ⟨by kernel_rfl, fun w _ => by have hwq := HWQ.out.1; have hwq2 := HWQ.out.2; go_simp⟩) hH ?_
            (try simp only [List.setIfInBounds_toArray, List.set_cons_zero, List.set_cons_succ])
            refine held_take 12 30 (v := .pointer (some ⟨blk, off + q * 2, none⟩)) rfl rfl (by kernel_rfl) (by kernel_rfl) (by kernel_rfl) (fun _ _ _ h => h) (Or.inl ⟨by kernel_rfl, fun w _ => by go_simp⟩) hH ?_
            (try simp only [List.setIfInBounds_toArray, List.set_cons_zero, List.set_cons_succ])
            refine held_take 13 31 (v := Y) rfl rfl (by kernel_rfl) (by kernel_rfl) (by kernel_rfl) (fun _ _ _ h => h) (yields_load (by kernel_rfl) 54 (.tmp 30) rfl ⟨blk, off + q * 2, none⟩ rfl Y (fun w h => HLY.out w h)) hH ?_
            refine wpAnyH_ready (rs := [14]) (by kernel_rfl) (by simp) ?_
            refine AllReadyH.cons (by simp only [List.getElem?_toArray, List.getElem?_cons_succ, List.getElem?_cons_zero]; rfl) (fun K hK => ?_) AllReadyH.nil
            go_simp
            refine (HCM.out wd).mono ?_
            rintro e9 w9 ⟨rfl, q9, os9, hw9⟩
            have HS9 : Hid (SWK encP 2 w0 blk off dj w9) := Lib.hid (by rw [hw9]; exact HSD.out.grown q9 os9)
            clear hw9
            refine hK.out _ _ HS9.out (fun hH => ?_)
            clear hK K
            refine held_take 15 33 (v := .bool false) rfl rfl (by kernel_rfl) (by kernel_rfl) (by kernel_rfl) (fun _ _ _ h => h) (Or.inl ⟨by kernel_rfl, fun w _ => by go_simp⟩) hH ?_
            (try simp only [List.setIfInBounds_toArray, List.set_cons_zero, List.set_cons_succ])
            refine held_take 16 34 (v := .bool false) rfl rfl (by kernel_rfl) (by kernel_rfl) (by kernel_rfl) (fun _ _ _ h => h) (Or.inl ⟨by kernel_rfl, fun w _ => by go_simp⟩) hH ?_
            (try simp only [List.setIfInBounds_toArray, List.set_cons_zero, List.set_cons_succ])
            refine wpAnyH_done (by kernel_rfl) ?_ _
            go_simp
            clear hH
            have HE : Hid (insOuter (ltOf cfP) a b (i + 1) dj = dr ∧ dj.size = N ∧ SWK encP 2 w0 blk off dj w9) := Lib.hid ⟨HEQ.out, HSJ.out, HS9.out⟩
            go_wp2_with fail
            go_roundg (b - (i + 1))
            case rel => exact ⟨i + 1, _, HAI.out.1, by go_num, rfl, HE⟩
            case measure => rw [HGQ.out]; exact HMS.out
        · have hjaz : ¬ (a : Int) < (p : Int) := by omega
          have HE : Hid (insOuter (ltOf cfP) a b (i + 1) dj = dr ∧ dj.size = N ∧ SWK encP 2 w0 blk off dj wd) := Lib.hid ⟨HOUT.out dj (by
            rw [← hI1]
            exact insInner_stop (ltOf cfP) a p dj (Or.inl (by omega))), hsj, hSd⟩
          clear hI1 hSj hSd hwd hpN hja hap hpi hsj HI
          go_upto_region 4 with (fail)
          refine wp_region_held_drew (S := fun w' => SWK encP 2 w0 blk off dj w') (by kernel_rfl) (by rw [← HWD.out]; exact HSD.out) (fun hH => ?_)
          change wpAnyH _ _ _ _ _ _ _ _ (World.drew _)
          rw [← HWD.out]
          clear hH HWD
          have hH := HSD.out
          refine held_take 0 18 (v := .int .i64 (p : Int)) rfl rfl (by kernel_rfl) (by kernel_rfl) (by kernel_rfl) (fun _ _ _ h => h) (Or.inl ⟨by kernel_rfl, fun w _ => by kernel_rfl⟩) hH ?_
          (try simp only [List.setIfInBounds_toArray, List.set_cons_zero, List.set_cons_succ])
          refine held_take 1 19 (v := .int .i64 (a : Int)) rfl rfl (by kernel_rfl) (by kernel_rfl) (by kernel_rfl) (fun _ _ _ h => h) (Or.inl ⟨by kernel_rfl, fun w _ => by kernel_rfl⟩) hH ?_
          (try simp only [List.setIfInBounds_toArray, List.set_cons_zero, List.set_cons_succ])
          refine held_take 2 20 (v := .bool false) rfl rfl (by kernel_rfl) (by kernel_rfl) (by kernel_rfl) (fun _ _ _ h => h) (Or.inl ⟨by kernel_rfl, fun w _ => by go_simp⟩) hH ?_
          (try simp only [List.setIfInBounds_toArray, List.set_cons_zero, List.set_cons_succ])
          refine held_take 3 21 (v := .bool false) rfl rfl (by kernel_rfl) (by kernel_rfl) (by kernel_rfl) (fun _ _ _ h => h) (Or.inl ⟨by kernel_rfl, fun w _ => by kernel_rfl⟩) hH ?_
          (try simp only [List.setIfInBounds_toArray, List.set_cons_zero, List.set_cons_succ])
          refine held_take 4 22 (v := undef) rfl rfl (by kernel_rfl) (by kernel_rfl) (by kernel_rfl) (fun _ _ _ h => h) (Or.inr ⟨by kernel_rfl, rfl⟩) hH ?_
          (try simp only [List.setIfInBounds_toArray, List.set_cons_zero, List.set_cons_succ])
          refine held_take 5 23 (v := undef) rfl rfl (by kernel_rfl) (by kernel_rfl) (by kernel_rfl) (fun _ _ _ h => h) (Or.inr ⟨by kernel_rfl, rfl⟩) hH ?_
          (try simp only [List.setIfInBounds_toArray, List.set_cons_zero, List.set_cons_succ])
          refine held_take 6 24 (v := undef) rfl rfl (by kernel_rfl) (by kernel_rfl) (by kernel_rfl) (fun _ _ _ h => h) (Or.inr ⟨by kernel_rfl, rfl⟩) hH ?_
          (try simp only [List.setIfInBounds_toArray, List.set_cons_zero, List.set_cons_succ])
          refine held_take 7 25 (v := undef) rfl rfl (by kernel_rfl) (by kernel_rfl) (by kernel_rfl) (fun _ _ _ h => h) (Or.inr ⟨by kernel_rfl, rfl⟩) hH ?_
          (try simp only [List.setIfInBounds_toArray, List.set_cons_zero, List.set_cons_succ])
          refine held_take 8 26 (v := undef) rfl rfl (by kernel_rfl) (by kernel_rfl) (by kernel_rfl) (fun _ _ _ h => h) (Or.inr ⟨by kernel_rfl, rfl⟩) hH ?_
          (try simp only [List.setIfInBounds_toArray, List.set_cons_zero, List.set_cons_succ])
          refine held_take 9 27 (v := undef) rfl rfl (by kernel_rfl) (by kernel_rfl) (by kernel_rfl) (fun _ _ _ h => h) (Or.inr ⟨by kernel_rfl, rfl⟩) hH ?_
          (try simp only [List.setIfInBounds_toArray, List.set_cons_zero, List.set_cons_succ])
          refine held_take 10 28 (v := undef) rfl rfl (by kernel_rfl) (by kernel_rfl) (by kernel_rfl) (fun _ _ _ h => h) (Or.inr ⟨by kernel_rfl, rfl⟩) hH ?_
          (try simp only [List.setIfInBounds_toArray, List.set_cons_zero, List.set_cons_succ])
          refine held_take 11 29 (v := undef) rfl rfl (by kernel_rfl) (by kernel_rfl) (by kernel_rfl) (fun _ _ _ h => h) (Or.inr ⟨by kernel_rfl, rfl⟩) hH ?_
          (try simp only [List.setIfInBounds_toArray, List.set_cons_zero, List.set_cons_succ])
          refine held_take 12 30 (v := undef) rfl rfl (by kernel_rfl) (by kernel_rfl) (by kernel_rfl) (fun _ _ _ h => h) (Or.inr ⟨by kernel_rfl, rfl⟩) hH ?_
          (try simp only [List.setIfInBounds_toArray, List.set_cons_zero, List.set_cons_succ])
          refine held_take 13 31 (v := undef) rfl rfl (by kernel_rfl) (by kernel_rfl) (by kernel_rfl) (fun _ _ _ h => h) (Or.inr ⟨by kernel_rfl, rfl⟩) hH ?_
          (try simp only [List.setIfInBounds_toArray, List.set_cons_zero, List.set_cons_succ])
          refine held_take 14 32 (v := undef) rfl rfl (by kernel_rfl) (by kernel_rfl) (by kernel_rfl) (fun _ _ _ h => h) (Or.inr ⟨by kernel_rfl, rfl⟩) hH ?_
          (try simp only [List.setIfInBounds_toArray, List.set_cons_zero, List.set_cons_succ])
          refine held_take 15 33 (v := undef) rfl rfl (by kernel_rfl) (by kernel_rfl) (by kernel_rfl) (fun _ _ _ h => h) (Or.inr ⟨by kernel_rfl, rfl⟩) hH ?_
          (try simp only [List.setIfInBounds_toArray, List.set_cons_zero, List.set_cons_succ])
          refine held_take 16 34 (v := .bool false) rfl rfl (by kernel_rfl) (by kernel_rfl) (by kernel_rfl) (fun _ _ _ h => h) (Or.inl ⟨by kernel_rfl, fun w _ => by go_simp⟩) hH ?_
          (try simp only [List.setIfInBounds_toArray, List.set_cons_zero, List.set_cons_succ])
          refine wpAnyH_done (by kernel_rfl) ?_ _
          go_simp
          clear hH
          go_wp2_with fail
          go_roundg (b - (i + 1))
          case rel => exact ⟨i + 1, _, HAI.out.1, by go_num, rfl, HE⟩
          case measure => rw [HGQ.out]; exact HMS.out
    · have hii : ¬ (i : Int) < (b : Int) := by omega
      have HE : Hid (SWK encP 2 w0 blk off dr wr) := Lib.hid (by
        have := HQ.out.1
        rw [insOuter_stop _ _ _ _ _ hlt] at this
        rw [← this]
        exact HQ.out.2.2)
      go_wp2_with fail
      go_end0
      exact ⟨rfl, HE.out⟩
end Go.Proofs.YtclnoblcdaimiaaDoor
