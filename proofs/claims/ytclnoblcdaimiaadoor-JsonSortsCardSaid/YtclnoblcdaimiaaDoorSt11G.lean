/- slices.symMergeCmpFunc at pairs. -/
import Derived.Test.YtclnoblcdaimiaaDoorSt11F
namespace Go.Proofs.YtclnoblcdaimiaaDoor
open Go.RowKit Go.Sort Go.Shelf Go.Lib
set_option linter.unusedVariables false

theorem Rot.id {α : Type} [Inhabited α] (d : Array α) (a m : Nat) (ham : a ≤ m) (hm : m ≤ d.size) : Rot d d a m m :=
  ⟨rfl, ham, Nat.le_refl _, hm, fun _ _ => rfl, fun t ht => by omega, fun t ht => by rw [show a + (m - m) + t = a + t by omega]⟩
theorem Rot.id2 {α : Type} [Inhabited α] (d : Array α) (m b : Nat) (hmb : m ≤ b) (hb : b ≤ d.size) : Rot d d m m b :=
  ⟨rfl, Nat.le_refl _, hmb, hb, fun _ _ => rfl, fun t ht => rfl, fun t ht => by omega⟩
/-- The contract of a merge of parts of at most n elements together. -/
def MergeP (blk off cap : Nat) (d0 : Array P2) (w0 : World) (n : Nat) : Prop :=
  ∀ (a m b : Nat) (d : Array P2) (w : World), b - a ≤ n → a < m → m < b → b ≤ d.size → d0.size = d.size → d.size ≤ 1000000 → SWK encP 2 w0 blk off d w → SortedIn (ltOf cfP) a m d → SortedIn (ltOf cfP) m b d →
    Calls Tryd.prog 66 #[.slice (some ⟨blk, off, none⟩) d.size cap, .int .i64 (a : Int), .int .i64 (m : Int), .int .i64 (b : Int), .func (.func 38) #[] #[]] w fun e w' => e = .returned (.tuple #[]) ∧ ∃ d', Rng d d' a b ∧ SortedIn (ltOf cfP) a b d' ∧ Stb clsP d d' ∧ SWK encP 2 w0 blk off d' w'
set_option maxHeartbeats 8000000 in
set_option maxRecDepth 100000 in
theorem merge_a (blk off cap : Nat) (d0 : Array P2) (w0 : World) (R : RowK encP 2 w0 blk off d0) (a m b : Nat) (d : Array P2) (w : World) (ham : a < m) (hmb : m < b) (hbN : b ≤ d.size) (hs : d0.size = d.size) (hsz : d.size ≤ 1000000) (S : SWK encP 2 w0 blk off d w) (hsa : SortedIn (ltOf cfP) a m d) (hsb : SortedIn (ltOf cfP) m b d) (hA : m - a = 1) :
    Calls Tryd.prog 66 #[.slice (some ⟨blk, off, none⟩) d.size cap, .int .i64 (a : Int), .int .i64 (m : Int), .int .i64 (b : Int), .func (.func 38) #[] #[]] w fun e w' => e = .returned (.tuple #[]) ∧ ∃ d', Rng d d' a b ∧ SortedIn (ltOf cfP) a b d' ∧ Stb clsP d d' ∧ SWK encP 2 w0 blk off d' w' := by
  have HR := Lib.hid R
  obtain ⟨N, hN⟩ : ∃ N, d.size = N := ⟨_, rfl⟩
  have HDS : Hid (d0.size = N) := Lib.hid (by rw [hs, hN])
  have HDN := Lib.hid hN
  have HS := Lib.hid S
  have HSA := Lib.hid hsa
  have HSB := Lib.hid hsb
  rw [hN] at hbN hsz ⊢
  clear R S hs hN hsa hsb
  have HMQ : Hid (m = a + 1) := Lib.hid (by omega)
  have HMA : Hid (IntKind.i64.wrap ((m : Int) - (a : Int)) = 1) := Lib.hid (by rw [IntKind.wrap_i64]; omega)
  clear hA
  have hma := HMA.out
  go_enter Tryd.func66, Tryd.ntmps66
  go_wp2_with fail
  go_loopg [10, 11] (b - m) (fun q s10 s11 wx => ∃ i j : Nat, s10 = .int .i64 (i : Int) ∧ s11 = .int .i64 (j : Int) ∧ m ≤ i ∧ i ≤ j ∧ j ≤ b ∧ q = j - i ∧ Hid ((∀ p, m ≤ p → p < i → ltOf cfP d[p]! d[a]! = true) ∧ (∀ p, j ≤ p → p < b → ltOf cfP d[p]! d[a]! = false) ∧ SWK encP 2 w0 blk off d wx))
  case atStart => exact ⟨m, b, rfl, rfl, Nat.le_refl _, Nat.le_of_lt hmb, Nat.le_refl _, rfl, Lib.hid ⟨fun p q1 q2 => absurd q2 (by omega), fun p q1 q2 => absurd q2 (by omega), HS.out⟩⟩
  case round =>
    clear HS hma
    obtain ⟨i, j, rfl, rfl, hmi, hij, hjb, hq, HQ⟩ := hrel
    have HGQ := Lib.hid hq
    clear hq
    obtain ⟨hlow, hhigh, hS1⟩ := HQ.out
    by_cases hlt : i < j
    · have hii : (i : Int) < (j : Int) := Int.ofNat_lt.2 hlt
      obtain ⟨s, hs⟩ : ∃ s, i + j = s := ⟨_, rfl⟩
      obtain ⟨h, hh⟩ : ∃ h, s / 2 = h := ⟨_, rfl⟩
      have HWH : Hid (IntKind.i64.wrap ((i : Int) + (j : Int)) = (s : Int) ∧ wrap64 (s : Int) = (s : Int) ∧ IntKind.u64.wrap (s : Int) = (s : Int) ∧ (s : Int) / 2 = (h : Int) ∧ IntKind.u64.wrap (h : Int) = (h : Int) ∧ IntKind.i64.wrap (h : Int) = (h : Int) ∧ wrap64 (h : Int) = (h : Int)) :=
        Lib.hid ⟨by rw [IntKind.wrap_i64]; omega, IntWalk.wrap64_in _ (by omega), by rw [IntKind.wrap_u64]; omega, by omega, by rw [IntKind.wrap_u64]; omega, by rw [IntKind.wrap_i64]; omega, IntWalk.wrap64_in _ (by omega)⟩
      have hhj : h < j := by omega
      have hih : i ≤ h := by omega
      obtain ⟨wd, hwd⟩ : ∃ w', w' = wr.drew := ⟨_, rfl⟩
      have HWD := Lib.hid hwd
      have hSd := hS1.drew
      rw [← hwd] at hSd
      have HSD := Lib.hid hSd
      obtain ⟨X, Y, lx, ly, hcm⟩ := tst HR.out (by rw [HDN.out, HDS.out]) (u := h) (v := a) (dk := d) (by rw [HDN.out]; omega) (by rw [HDN.out]; omega)
      have HLX := Lib.hid lx
      have HLY := Lib.hid ly
      obtain ⟨c, hc⟩ : ∃ c, cfP d[h]! d[a]! = c := ⟨_, rfl⟩
      rw [hc] at hcm
      have HCM := Lib.hid hcm
      obtain ⟨h1, hh1⟩ : ∃ h1, h + 1 = h1 := ⟨_, rfl⟩
      have HWI : Hid (IntKind.i64.wrap ((h : Int) + 1) = (h1 : Int) ∧ wrap64 (h1 : Int) = (h1 : Int)) := Lib.hid ⟨by rw [IntKind.wrap_i64]; omega, IntWalk.wrap64_in _ (by omega)⟩
      have hp0 : (0 : Int) ≤ (h : Int) := by omega
      have hpN' : (h : Int) < (N : Int) := by omega
      have ha0 : (0 : Int) ≤ (a : Int) := by omega
      have haN' : (a : Int) < (N : Int) := by omega
      have HAI : Hid (m ≤ h1 ∧ h1 ≤ j ∧ m ≤ i ∧ i ≤ h ∧ h ≤ b ∧ j ≤ b) := Lib.hid ⟨by omega, by omega, hmi, hih, by omega, hjb⟩
      have HMS : Hid (j - h1 < j - i ∧ h - i < j - i) := Lib.hid ⟨by omega, by omega⟩
      by_cases hlv : c < 0
      · have hlt1 : ltOf cfP d[h]! d[a]! = true := by unfold ltOf; rw [hc]; exact decide_eq_true hlv
        have HL2 : Hid ((∀ p, m ≤ p → p < h1 → ltOf cfP d[p]! d[a]! = true) ∧ (∀ p, j ≤ p → p < b → ltOf cfP d[p]! d[a]! = false)) := Lib.hid ⟨fun p q1 q2 => lt_mid swoP (sorted_le swoP HSB.out (i := p) (j := h) q1 (by omega) (by omega)) hlt1 (swoP.irrefl _), hhigh⟩
        clear hlow hhigh hS1 hwd hSd lx ly hcm hc hlt1 hlt hij hmi hjb HQ hhj hih hs hh hh1
        obtain ⟨g0, g1, g2, g3, g4, g5, g6⟩ := HWH.out
        go_upto_region 5 with (fail)
        refine wp_region_held_drew (S := fun w' => SWK encP 2 w0 blk off d w') (by kernel_rfl) (by rw [← HWD.out]; exact HSD.out) (fun hH => ?_)
        change wpAnyH _ _ _ _ _ _ _ _ (World.drew _)
        rw [← HWD.out]
        clear hH HWD
        have hH := HSD.out
        refine held_take 0 40 (v := .func (.func 38) #[] #[]) rfl rfl (by kernel_rfl) (by kernel_rfl) (by kernel_rfl) (fun _ _ _ h => h) (Or.inl ⟨by kernel_rfl, fun w _ => by kernel_rfl⟩) hH ?_
        (try simp only [List.setIfInBounds_toArray, List.set_cons_zero, List.set_cons_succ])
        refine held_take 1 41 (v := .slice (some ⟨blk, off, none⟩) N cap) rfl rfl (by kernel_rfl) (by kernel_rfl) (by kernel_rfl) (fun _ _ _ h => h) (Or.inl ⟨by kernel_rfl, fun w _ => by kernel_rfl⟩) hH ?_
        (try simp only [List.setIfInBounds_toArray, List.set_cons_zero, List.set_cons_succ])
        refine held_take 2 42 (v := .int .i64 (h : Int)) rfl rfl (by kernel_rfl) (by kernel_rfl) (by kernel_rfl) (fun _ _ _ h => h) (Or.inl ⟨by kernel_rfl, fun w _ => by kernel_rfl⟩) hH ?_
        (try simp only [List.setIfInBounds_toArray, List.set_cons_zero, List.set_cons_succ])
        refine held_take 3 43 (v := .pointer (some ⟨blk, off + h * 2, none⟩)) rfl rfl (by kernel_rfl) (by kernel_rfl) (by kernel_rfl) (fun _ _ _ h => h) (Or.inl ⟨by kernel_rfl, fun w _ => by go_simp⟩) hH ?_
        (try simp only [List.setIfInBounds_toArray, List.set_cons_zero, List.set_cons_succ])
        refine held_take 4 44 (v := X) rfl rfl (by kernel_rfl) (by kernel_rfl) (by kernel_rfl) (fun _ _ _ h => h) (yields_load (by kernel_rfl) 54 (.tmp 43) rfl ⟨blk, off + h * 2, none⟩ rfl X (fun w h => HLX.out w h)) hH ?_
        refine held_take 5 45 (v := .slice (some ⟨blk, off, none⟩) N cap) rfl rfl (by kernel_rfl) (by kernel_rfl) (by kernel_rfl) (fun _ _ _ h => h) (Or.inl ⟨by kernel_rfl, fun w _ => by kernel_rfl⟩) hH ?_
        (try simp only [List.setIfInBounds_toArray, List.set_cons_zero, List.set_cons_succ])
        refine held_take 6 46 (v := .int .i64 (a : Int)) rfl rfl (by kernel_rfl) (by kernel_rfl) (by kernel_rfl) (fun _ _ _ h => h) (Or.inl ⟨by kernel_rfl, fun w _ => by kernel_rfl⟩) hH ?_
        (try simp only [List.setIfInBounds_toArray, List.set_cons_zero, List.set_cons_succ])
        refine held_take 7 47 (v := .pointer (some ⟨blk, off + a * 2, none⟩)) rfl rfl (by kernel_rfl) (by kernel_rfl) (by kernel_rfl) (fun _ _ _ h => h) (Or.inl ⟨by kernel_rfl, fun w _ => by go_simp⟩) hH ?_
        (try simp only [List.setIfInBounds_toArray, List.set_cons_zero, List.set_cons_succ])
        refine held_take 8 48 (v := Y) rfl rfl (by kernel_rfl) (by kernel_rfl) (by kernel_rfl) (fun _ _ _ h => h) (yields_load (by kernel_rfl) 54 (.tmp 47) rfl ⟨blk, off + a * 2, none⟩ rfl Y (fun w h => HLY.out w h)) hH ?_
        refine wpAnyH_ready (rs := [9]) (by kernel_rfl) (by simp) ?_
        refine AllReadyH.cons (by simp only [List.getElem?_toArray, List.getElem?_cons_succ, List.getElem?_cons_zero]; rfl) (fun K hK => ?_) AllReadyH.nil
        go_simp
        refine (HCM.out wd).mono ?_
        rintro e9 w9 ⟨rfl, q9, os9, hw9⟩
        have HS9 : Hid (SWK encP 2 w0 blk off d w9) := Lib.hid (by rw [hw9]; exact HSD.out.grown q9 os9)
        clear hw9
        refine hK.out _ _ HS9.out (fun hH => ?_)
        clear hK K
        refine held_take 10 50 (v := .bool true) rfl rfl (by kernel_rfl) (by kernel_rfl) (by kernel_rfl) (fun _ _ _ h => h) (Or.inl ⟨by kernel_rfl, fun w _ => by go_simp⟩) hH ?_
        (try simp only [List.setIfInBounds_toArray, List.set_cons_zero, List.set_cons_succ])
        refine wpAnyH_done (by kernel_rfl) ?_ _
        go_simp
        clear hH
        have HE : Hid ((∀ p, m ≤ p → p < h1 → ltOf cfP d[p]! d[a]! = true) ∧ (∀ p, j ≤ p → p < b → ltOf cfP d[p]! d[a]! = false) ∧ SWK encP 2 w0 blk off d w9) := Lib.hid ⟨HL2.out.1, HL2.out.2, HS9.out⟩
        obtain ⟨z0, z1⟩ := HWI.out
        go_wp2_with fail
        go_roundg (j - h1)
        case rel => exact ⟨h1, j, rfl, rfl, HAI.out.1, HAI.out.2.1, HAI.out.2.2.2.2.2, rfl, HE⟩
        case measure => rw [HGQ.out]; exact HMS.out.1
      · have hlt1 : ltOf cfP d[h]! d[a]! = false := by unfold ltOf; rw [hc]; exact decide_eq_false hlv
        have HL2 : Hid ((∀ p, m ≤ p → p < i → ltOf cfP d[p]! d[a]! = true) ∧ (∀ p, h ≤ p → p < b → ltOf cfP d[p]! d[a]! = false)) := Lib.hid ⟨hlow, fun p q1 q2 => le_trans3 swoP hlt1 (sorted_le swoP HSB.out (i := h) (j := p) (by omega) q1 q2)⟩
        clear hlow hhigh hS1 hwd hSd lx ly hcm hc hlt1 hlt hij hmi hjb HQ hhj hih hs hh hh1
        obtain ⟨g0, g1, g2, g3, g4, g5, g6⟩ := HWH.out
        go_upto_region 5 with (fail)
        refine wp_region_held_drew (S := fun w' => SWK encP 2 w0 blk off d w') (by kernel_rfl) (by rw [← HWD.out]; exact HSD.out) (fun hH => ?_)
        change wpAnyH _ _ _ _ _ _ _ _ (World.drew _)
        rw [← HWD.out]
        clear hH HWD
        have hH := HSD.out
        refine held_take 0 40 (v := .func (.func 38) #[] #[]) rfl rfl (by kernel_rfl) (by kernel_rfl) (by kernel_rfl) (fun _ _ _ h => h) (Or.inl ⟨by kernel_rfl, fun w _ => by kernel_rfl⟩) hH ?_
        (try simp only [List.setIfInBounds_toArray, List.set_cons_zero, List.set_cons_succ])
        refine held_take 1 41 (v := .slice (some ⟨blk, off, none⟩) N cap) rfl rfl (by kernel_rfl) (by kernel_rfl) (by kernel_rfl) (fun _ _ _ h => h) (Or.inl ⟨by kernel_rfl, fun w _ => by kernel_rfl⟩) hH ?_
        (try simp only [List.setIfInBounds_toArray, List.set_cons_zero, List.set_cons_succ])
        refine held_take 2 42 (v := .int .i64 (h : Int)) rfl rfl (by kernel_rfl) (by kernel_rfl) (by kernel_rfl) (fun _ _ _ h => h) (Or.inl ⟨by kernel_rfl, fun w _ => by kernel_rfl⟩) hH ?_
        (try simp only [List.setIfInBounds_toArray, List.set_cons_zero, List.set_cons_succ])
        refine held_take 3 43 (v := .pointer (some ⟨blk, off + h * 2, none⟩)) rfl rfl (by kernel_rfl) (by kernel_rfl) (by kernel_rfl) (fun _ _ _ h => h) (Or.inl ⟨by kernel_rfl, fun w _ => by go_simp⟩) hH ?_
        (try simp only [List.setIfInBounds_toArray, List.set_cons_zero, List.set_cons_succ])
        refine held_take 4 44 (v := X) rfl rfl (by kernel_rfl) (by kernel_rfl) (by kernel_rfl) (fun _ _ _ h => h) (yields_load (by kernel_rfl) 54 (.tmp 43) rfl ⟨blk, off + h * 2, none⟩ rfl X (fun w h => HLX.out w h)) hH ?_
        refine held_take 5 45 (v := .slice (some ⟨blk, off, none⟩) N cap) rfl rfl (by kernel_rfl) (by kernel_rfl) (by kernel_rfl) (fun _ _ _ h => h) (Or.inl ⟨by kernel_rfl, fun w _ => by kernel_rfl⟩) hH ?_
        (try simp only [List.setIfInBounds_toArray, List.set_cons_zero, List.set_cons_succ])
        refine held_take 6 46 (v := .int .i64 (a : Int)) rfl rfl (by kernel_rfl) (by kernel_rfl) (by kernel_rfl) (fun _ _ _ h => h) (Or.inl ⟨by kernel_rfl, fun w _ => by kernel_rfl⟩) hH ?_
        (try simp only [List.setIfInBounds_toArray, List.set_cons_zero, List.set_cons_succ])
        refine held_take 7 47 (v := .pointer (some ⟨blk, off + a * 2, none⟩)) rfl rfl (by kernel_rfl) (by kernel_rfl) (by kernel_rfl) (fun _ _ _ h => h) (Or.inl ⟨by kernel_rfl, fun w _ => by go_simp⟩) hH ?_
        (try simp only [List.setIfInBounds_toArray, List.set_cons_zero, List.set_cons_succ])
        refine held_take 8 48 (v := Y) rfl rfl (by kernel_rfl) (by kernel_rfl) (by kernel_rfl) (fun _ _ _ h => h) (yields_load (by kernel_rfl) 54 (.tmp 47) rfl ⟨blk, off + a * 2, none⟩ rfl Y (fun w h => HLY.out w h)) hH ?_
        refine wpAnyH_ready (rs := [9]) (by kernel_rfl) (by simp) ?_
        refine AllReadyH.cons (by simp only [List.getElem?_toArray, List.getElem?_cons_succ, List.getElem?_cons_zero]; rfl) (fun K hK => ?_) AllReadyH.nil
        go_simp
        refine (HCM.out wd).mono ?_
        rintro e9 w9 ⟨rfl, q9, os9, hw9⟩
        have HS9 : Hid (SWK encP 2 w0 blk off d w9) := Lib.hid (by rw [hw9]; exact HSD.out.grown q9 os9)
        clear hw9
        refine hK.out _ _ HS9.out (fun hH => ?_)
        clear hK K
        refine held_take 10 50 (v := .bool false) rfl rfl (by kernel_rfl) (by kernel_rfl) (by kernel_rfl) (fun _ _ _ h => h) (Or.inl ⟨by kernel_rfl, fun w _ => by go_simp⟩) hH ?_
        (try simp only [List.setIfInBounds_toArray, List.set_cons_zero, List.set_cons_succ])
        refine wpAnyH_done (by kernel_rfl) ?_ _
        go_simp
        clear hH
        have HE : Hid ((∀ p, m ≤ p → p < i → ltOf cfP d[p]! d[a]! = true) ∧ (∀ p, h ≤ p → p < b → ltOf cfP d[p]! d[a]! = false) ∧ SWK encP 2 w0 blk off d w9) := Lib.hid ⟨HL2.out.1, HL2.out.2, HS9.out⟩
        go_wp2_with fail
        go_roundg (h - i)
        case rel => exact ⟨i, h, rfl, rfl, HAI.out.2.2.1, HAI.out.2.2.2.1, HAI.out.2.2.2.2.1, rfl, HE⟩
        case measure => rw [HGQ.out]; exact HMS.out.2
    · have hii : ¬ (i : Int) < (j : Int) := by omega
      have hji : j = i := by omega
      subst hji
      obtain ⟨i1, hi1⟩ : ∃ i1, j - 1 = i1 := ⟨_, rfl⟩
      have HWI : Hid (IntKind.i64.wrap ((j : Int) - 1) = (i1 : Int) ∧ wrap64 (i1 : Int) = (i1 : Int)) := Lib.hid ⟨by rw [IntKind.wrap_i64]; omega, IntWalk.wrap64_in _ (by omega)⟩
      have HL2 := Lib.hid (And.intro hlow hhigh)
      have HR0 : Hid (Rot d d a (a + 1) (a + 1) ∧ SWK encP 2 w0 blk off d wr) := Lib.hid ⟨Rot.id d a (a + 1) (by omega) (by rw [HDN.out]; omega), hS1⟩
      have HII : Hid (a ≤ i1 ∧ i1 + 1 = j ∧ j ≤ b) := Lib.hid ⟨by omega, by omega, hjb⟩
      clear hlow hhigh hS1 HQ hlt hij hmi hjb hi1
      obtain ⟨z0, z1⟩ := HWI.out
      go_wp2_with fail
      go_loopg [13] (i1 - a) (fun q s13 wx => ∃ (p : Nat) (e : Array P2), s13 = .int .i64 (p : Int) ∧ a ≤ p ∧ p ≤ i1 ∧ q = i1 - p ∧ Hid (Rot d e a (a + 1) (p + 1) ∧ SWK encP 2 w0 blk off e wx))
      case atStart => exact ⟨a, d, rfl, Nat.le_refl _, HII.out.1, rfl, HR0⟩
      case round =>
        rename_i wo
        clear HR0 z0 z1
        obtain ⟨p, e, rfl, hap, hpi, hq, HQ⟩ := hrel
        have HGQ2 := Lib.hid hq
        clear hq
        obtain ⟨hr, hS1⟩ := HQ.out
        by_cases hlt : p < i1
        · have hpi' : (p : Int) < (i1 : Int) := Int.ofNat_lt.2 hlt
          have hiN : i1 < N := by have := HII.out; omega
          obtain ⟨q, hq⟩ : ∃ q, p + 1 = q := ⟨_, rfl⟩
          obtain ⟨we, hwe⟩ : ∃ w', w' = wr.drew := ⟨_, rfl⟩
          have HWE := Lib.hid hwe
          have hSe := hS1.drew
          rw [← hwe] at hSe
          obtain ⟨X, Y, w1, w2, l1, l2, s1, s2, hS2⟩ := exch HR.out (by rw [hr.size, HDN.out, HDS.out]) hSe (p := p) (q := q) (by rw [hr.size, HDN.out]; omega) (by rw [hr.size, HDN.out]; omega) (by omega)
          have HWQ : Hid (IntKind.i64.wrap ((p : Int) + 1) = (q : Int) ∧ wrap64 (q : Int) = (q : Int)) := Lib.hid ⟨by rw [IntKind.wrap_i64]; omega, IntWalk.wrap64_in _ (by omega)⟩
          have HT : Hid (Rot d (swp e p q) a (a + 1) (q + 1) ∧ SWK encP 2 w0 blk off (swp e p q) w2) := Lib.hid ⟨by
            have := hr.up (by rw [HDN.out]; omega) (by omega)
            rw [show p + 1 - 1 = p by omega, hq] at this
            exact this, hS2⟩
          have HAQ : Hid (a ≤ q ∧ q ≤ i1) := Lib.hid ⟨by omega, by omega⟩
          have HMS2 : Hid (i1 - q < i1 - p) := Lib.hid (by omega)
          have hp0 : (0 : Int) ≤ (p : Int) := by omega
          have hq0 : (0 : Int) ≤ (q : Int) := by omega
          have hpN' : (p : Int) < (N : Int) := by omega
          have hqN' : (q : Int) < (N : Int) := by omega
          clear hr hS1 hS2 hwe hSe hq hlt hap hpi hiN HQ
          obtain ⟨z0, z1⟩ := HWI.out
          go_upto_region 11 with (fail)
          refine wp_region_held_drew (S := fun _ => True) (by kernel_rfl) trivial (fun hH => ?_)
          change wpAnyH _ _ _ _ _ _ _ _ (World.drew _)
          rw [← HWE.out]
          clear hH HWE z0 z1
          have hH : True := trivial
          refine held_take 0 61 (v := .slice (some ⟨blk, off, none⟩) N cap) rfl rfl (by kernel_rfl) (by kernel_rfl) (by kernel_rfl) (fun _ _ _ h => h) (Or.inl ⟨by kernel_rfl, fun w _ => by kernel_rfl⟩) hH ?_
          (try simp only [List.setIfInBounds_toArray, List.set_cons_zero, List.set_cons_succ])
          refine held_take 1 62 (v := .int .i64 (p : Int)) rfl rfl (by kernel_rfl) (by kernel_rfl) (by kernel_rfl) (fun _ _ _ h => h) (Or.inl ⟨by kernel_rfl, fun w _ => by kernel_rfl⟩) hH ?_
          (try simp only [List.setIfInBounds_toArray, List.set_cons_zero, List.set_cons_succ])
          refine held_take 2 63 (v := .slice (some ⟨blk, off, none⟩) N cap) rfl rfl (by kernel_rfl) (by kernel_rfl) (by kernel_rfl) (fun _ _ _ h => h) (Or.inl ⟨by kernel_rfl, fun w _ => by kernel_rfl⟩) hH ?_
          (try simp only [List.setIfInBounds_toArray, List.set_cons_zero, List.set_cons_succ])
          refine held_take 3 64 (v := .int .i64 (p : Int)) rfl rfl (by kernel_rfl) (by kernel_rfl) (by kernel_rfl) (fun _ _ _ h => h) (Or.inl ⟨by kernel_rfl, fun w _ => by kernel_rfl⟩) hH ?_
          (try simp only [List.setIfInBounds_toArray, List.set_cons_zero, List.set_cons_succ])
          refine held_take 4 65 (v := .int .i64 (q : Int)) rfl rfl (by kernel_rfl) (by kernel_rfl) (by kernel_rfl) (fun _ _ _ h => h) (Or.inl ⟨by kernel_rfl, fun w _ => by have hwq := HWQ.out.1; have hwq2 := HWQ.out.2; go_simp⟩) hH ?_
          (try simp only [List.setIfInBounds_toArray, List.set_cons_zero, List.set_cons_succ])
          refine held_take 5 66 (v := .slice (some ⟨blk, off, none⟩) N cap) rfl rfl (by kernel_rfl) (by kernel_rfl) (by kernel_rfl) (fun _ _ _ h => h) (Or.inl ⟨by kernel_rfl, fun w _ => by kernel_rfl⟩) hH ?_
          (try simp only [List.setIfInBounds_toArray, List.set_cons_zero, List.set_cons_succ])
          refine held_take 6 67 (v := .int .i64 (p : Int)) rfl rfl (by kernel_rfl) (by kernel_rfl) (by kernel_rfl) (fun _ _ _ h => h) (Or.inl ⟨by kernel_rfl, fun w _ => by kernel_rfl⟩) hH ?_
          (try simp only [List.setIfInBounds_toArray, List.set_cons_zero, List.set_cons_succ])
          refine held_take 7 68 (v := .int .i64 (q : Int)) rfl rfl (by kernel_rfl) (by kernel_rfl) (by kernel_rfl) (fun _ _ _ h => h) (Or.inl ⟨by kernel_rfl, fun w _ => by have hwq := HWQ.out.1; have hwq2 := HWQ.out.2; go_simp⟩) hH ?_
          (try simp only [List.setIfInBounds_toArray, List.set_cons_zero, List.set_cons_succ])
          refine held_take 8 69 (v := .pointer (some ⟨blk, off + q * 2, none⟩)) rfl rfl (by kernel_rfl) (by kernel_rfl) (by kernel_rfl) (fun _ _ _ h => h) (Or.inl ⟨by kernel_rfl, fun w _ => by go_simp⟩) hH ?_
          (try simp only [List.setIfInBounds_toArray, List.set_cons_zero, List.set_cons_succ])
          refine held_take 10 71 (v := .slice (some ⟨blk, off, none⟩) N cap) rfl rfl (by kernel_rfl) (by kernel_rfl) (by kernel_rfl) (fun _ _ _ h => h) (Or.inl ⟨by kernel_rfl, fun w _ => by kernel_rfl⟩) hH ?_
          (try simp only [List.setIfInBounds_toArray, List.set_cons_zero, List.set_cons_succ])
          refine held_take 11 72 (v := .int .i64 (p : Int)) rfl rfl (by kernel_rfl) (by kernel_rfl) (by kernel_rfl) (fun _ _ _ h => h) (Or.inl ⟨by kernel_rfl, fun w _ => by kernel_rfl⟩) hH ?_
          (try simp only [List.setIfInBounds_toArray, List.set_cons_zero, List.set_cons_succ])
          refine held_take 12 73 (v := .pointer (some ⟨blk, off + p * 2, none⟩)) rfl rfl (by kernel_rfl) (by kernel_rfl) (by kernel_rfl) (fun _ _ _ h => h) (Or.inl ⟨by kernel_rfl, fun w _ => by go_simp⟩) hH ?_
          (try simp only [List.setIfInBounds_toArray, List.set_cons_zero, List.set_cons_succ])
          refine wpAnyH_ready (rs := [9, 13]) (by kernel_rfl) (by simp) ?_
          refine AllReadyH.cons (by simp only [List.getElem?_toArray, List.getElem?_cons_succ, List.getElem?_cons_zero]; rfl) (fun K hK => ?_) (AllReadyH.cons (by simp only [List.getElem?_toArray, List.getElem?_cons_succ, List.getElem?_cons_zero]; rfl) (fun K hK => ?_) AllReadyH.nil)
          · refine step_load rfl 54 (.tmp 69) rfl ⟨blk, off + q * 2, none⟩ rfl Y l2 ?_
            (try dsimp only [Act.put])
            (try simp only [List.setIfInBounds_toArray])
            (try simp only [List.set_cons_succ])
            (try simp only [List.set_cons_zero])
            refine hK.out _ _ trivial (fun hH => ?_)
            clear hK K
            refine wpAnyH_ready (rs := [13]) (by kernel_rfl) (by simp) ?_
            refine AllReadyH.cons (by simp only [List.getElem?_toArray, List.getElem?_cons_succ, List.getElem?_cons_zero]; rfl) (fun K hK => ?_) AllReadyH.nil
            refine step_load rfl 54 (.tmp 73) rfl ⟨blk, off + p * 2, none⟩ rfl X l1 ?_
            (try dsimp only [Act.put])
            (try simp only [List.setIfInBounds_toArray])
            (try simp only [List.set_cons_succ])
            (try simp only [List.set_cons_zero])
            refine hK.out _ _ trivial (fun hH => ?_)
            clear hK K
            refine held_take 14 75 (v := .pointer (some ⟨blk, off + p * 2, none⟩)) rfl rfl (by kernel_rfl) (by kernel_rfl) (by kernel_rfl) (fun _ _ _ h => h) (Or.inl ⟨by kernel_rfl, fun w _ => by go_simp⟩) hH ?_
            (try simp only [List.setIfInBounds_toArray, List.set_cons_zero, List.set_cons_succ])
            refine wpAnyH_ready (rs := [15]) (by kernel_rfl) (by simp) ?_
            refine AllReadyH.cons (by simp only [List.getElem?_toArray, List.getElem?_cons_succ, List.getElem?_cons_zero]; rfl) (fun K hK => ?_) AllReadyH.nil
            refine step_store rfl 54 (.tmp 75) (.tmp 70) rfl ⟨blk, off + p * 2, none⟩ Y rfl rfl _ s1 ?_
            (try dsimp only [Act.put])
            (try simp only [List.setIfInBounds_toArray])
            (try simp only [List.set_cons_succ])
            (try simp only [List.set_cons_zero])
            refine hK.out _ _ trivial (fun hH => ?_)
            clear hK K
            refine held_take 16 76 (v := .pointer (some ⟨blk, off + q * 2, none⟩)) rfl rfl (by kernel_rfl) (by kernel_rfl) (by kernel_rfl) (fun _ _ _ h => h) (Or.inl ⟨by kernel_rfl, fun w _ => by go_simp⟩) hH ?_
            (try simp only [List.setIfInBounds_toArray, List.set_cons_zero, List.set_cons_succ])
            refine wpAnyH_ready (rs := [17]) (by kernel_rfl) (by simp) ?_
            refine AllReadyH.cons (by simp only [List.getElem?_toArray, List.getElem?_cons_succ, List.getElem?_cons_zero]; rfl) (fun K hK => ?_) AllReadyH.nil
            refine step_store rfl 54 (.tmp 76) (.tmp 74) rfl ⟨blk, off + q * 2, none⟩ X rfl rfl _ s2 ?_
            (try dsimp only [Act.put])
            (try simp only [List.setIfInBounds_toArray])
            (try simp only [List.set_cons_succ])
            (try simp only [List.set_cons_zero])
            refine hK.out _ _ trivial (fun hH => ?_)
            clear hK K
            refine wpAnyH_done (by kernel_rfl) ?_ _
            go_simp
            clear hH
            obtain ⟨hwq, hwq2⟩ := HWQ.out
            go_wp2_with fail
            go_roundg (i1 - q)
            case rel => exact ⟨q, _, rfl, HAQ.out.1, HAQ.out.2, rfl, HT⟩
            case measure => rw [HGQ2.out]; exact HMS2.out
          · refine step_load rfl 54 (.tmp 73) rfl ⟨blk, off + p * 2, none⟩ rfl X l1 ?_
            (try dsimp only [Act.put])
            (try simp only [List.setIfInBounds_toArray])
            (try simp only [List.set_cons_succ])
            (try simp only [List.set_cons_zero])
            refine hK.out _ _ trivial (fun hH => ?_)
            clear hK K
            refine wpAnyH_ready (rs := [9]) (by kernel_rfl) (by simp) ?_
            refine AllReadyH.cons (by simp only [List.getElem?_toArray, List.getElem?_cons_succ, List.getElem?_cons_zero]; rfl) (fun K hK => ?_) AllReadyH.nil
            refine step_load rfl 54 (.tmp 69) rfl ⟨blk, off + q * 2, none⟩ rfl Y l2 ?_
            (try dsimp only [Act.put])
            (try simp only [List.setIfInBounds_toArray])
            (try simp only [List.set_cons_succ])
            (try simp only [List.set_cons_zero])
            refine hK.out _ _ trivial (fun hH => ?_)
            clear hK K
            refine held_take 14 75 (v := .pointer (some ⟨blk, off + p * 2, none⟩)) rfl rfl (by kernel_rfl) (by kernel_rfl) (by kernel_rfl) (fun _ _ _ h => h) (Or.inl ⟨by kernel_rfl, fun w _ => by go_simp⟩) hH ?_
            (try simp only [List.setIfInBounds_toArray, List.set_cons_zero, List.set_cons_succ])
            refine wpAnyH_ready (rs := [15]) (by kernel_rfl) (by simp) ?_
            refine AllReadyH.cons (by simp only [List.getElem?_toArray, List.getElem?_cons_succ, List.getElem?_cons_zero]; rfl) (fun K hK => ?_) AllReadyH.nil
            refine step_store rfl 54 (.tmp 75) (.tmp 70) rfl ⟨blk, off + p * 2, none⟩ Y rfl rfl _ s1 ?_
            (try dsimp only [Act.put])
            (try simp only [List.setIfInBounds_toArray])
            (try simp only [List.set_cons_succ])
            (try simp only [List.set_cons_zero])
            refine hK.out _ _ trivial (fun hH => ?_)
            clear hK K
            refine held_take 16 76 (v := .pointer (some ⟨blk, off + q * 2, none⟩)) rfl rfl (by kernel_rfl) (by kernel_rfl) (by kernel_rfl) (fun _ _ _ h => h) (Or.inl ⟨by kernel_rfl, fun w _ => by go_simp⟩) hH ?_
            (try simp only [List.setIfInBounds_toArray, List.set_cons_zero, List.set_cons_succ])
            refine wpAnyH_ready (rs := [17]) (by kernel_rfl) (by simp) ?_
            refine AllReadyH.cons (by simp only [List.getElem?_toArray, List.getElem?_cons_succ, List.getElem?_cons_zero]; rfl) (fun K hK => ?_) AllReadyH.nil
            refine step_store rfl 54 (.tmp 76) (.tmp 74) rfl ⟨blk, off + q * 2, none⟩ X rfl rfl _ s2 ?_
            (try dsimp only [Act.put])
            (try simp only [List.setIfInBounds_toArray])
            (try simp only [List.set_cons_succ])
            (try simp only [List.set_cons_zero])
            refine hK.out _ _ trivial (fun hH => ?_)
            clear hK K
            refine wpAnyH_done (by kernel_rfl) ?_ _
            go_simp
            clear hH
            obtain ⟨hwq, hwq2⟩ := HWQ.out
            go_wp2_with fail
            go_roundg (i1 - q)
            case rel => exact ⟨q, _, rfl, HAQ.out.1, HAQ.out.2, rfl, HT⟩
            case measure => rw [HGQ2.out]; exact HMS2.out
        · have hpi' : ¬ (p : Int) < (i1 : Int) := by omega
          have hpe : p = i1 := by omega
          subst hpe
          rw [HII.out.2.1] at hr
          have hmq := HMQ.out
          have HEND : Hid (∃ d', Rng d d' a b ∧ SortedIn (ltOf cfP) a b d' ∧ Stb clsP d d' ∧ SWK encP 2 w0 blk off d' wr) := Lib.hid ⟨e, hr.rng.mono (Nat.le_refl _) HII.out.2.2,
            up_sorted swoP hr (sorted_mono HSB.out (by omega) (Nat.le_refl _)) HII.out.2.2 (fun p q1 q2 => HL2.out.1 p (by omega) q2) HL2.out.2,
            hr.stb clsP_ne (fun u v q1 q2 q3 q4 => by rw [show u = a by omega]; exact HL2.out.1 v (by omega) q4), hS1⟩
          clear hr hS1 HQ hlt hap hpi
          obtain ⟨z0, z1⟩ := HWI.out
          go_wp2_with fail
          refine bodyPost_ret (results_none (by kernel_rfl) _ _ _) rfl ?_
          exact ⟨rfl, HEND.out⟩
set_option maxHeartbeats 8000000 in
set_option maxRecDepth 100000 in
theorem merge_b (blk off cap : Nat) (d0 : Array P2) (w0 : World) (R : RowK encP 2 w0 blk off d0) (a m b : Nat) (d : Array P2) (w : World) (ham : a < m) (hmb : m < b) (hbN : b ≤ d.size) (hs : d0.size = d.size) (hsz : d.size ≤ 1000000) (S : SWK encP 2 w0 blk off d w) (hsa : SortedIn (ltOf cfP) a m d) (hsb : SortedIn (ltOf cfP) m b d) (hA : ¬ m - a = 1) (hB : b - m = 1) :
    Calls Tryd.prog 66 #[.slice (some ⟨blk, off, none⟩) d.size cap, .int .i64 (a : Int), .int .i64 (m : Int), .int .i64 (b : Int), .func (.func 38) #[] #[]] w fun e w' => e = .returned (.tuple #[]) ∧ ∃ d', Rng d d' a b ∧ SortedIn (ltOf cfP) a b d' ∧ Stb clsP d d' ∧ SWK encP 2 w0 blk off d' w' := by
  have HR := Lib.hid R
  obtain ⟨N, hN⟩ : ∃ N, d.size = N := ⟨_, rfl⟩
  have HDS : Hid (d0.size = N) := Lib.hid (by rw [hs, hN])
  have HDN := Lib.hid hN
  have HS := Lib.hid S
  have HSA := Lib.hid hsa
  have HSB := Lib.hid hsb
  rw [hN] at hbN hsz ⊢
  clear R S hs hN hsa hsb
  obtain ⟨ma, hma0⟩ : ∃ ma, m - a = ma := ⟨_, rfl⟩
  have HMA : Hid (IntKind.i64.wrap ((m : Int) - (a : Int)) = (ma : Int) ∧ wrap64 (ma : Int) = (ma : Int) ∧ IntKind.i64.wrap ((b : Int) - (m : Int)) = 1) := Lib.hid ⟨by rw [IntKind.wrap_i64]; omega, IntWalk.wrap64_in _ (by omega), by rw [IntKind.wrap_i64]; omega⟩
  have hma1 : ¬ (ma : Int) = 1 := by omega
  have hma2 : ((ma : Int) == 1) = false := by simpa using hma1
  have HBM : Hid (b = m + 1) := Lib.hid (by omega)
  clear hA hB hma0
  obtain ⟨k0, k1, k2⟩ := HMA.out
  go_enter Tryd.func66, Tryd.ntmps66
  go_wp2_with fail
  go_loopg [14, 15] (m - a) (fun q s14 s15 wx => ∃ i j : Nat, s14 = .int .i64 (i : Int) ∧ s15 = .int .i64 (j : Int) ∧ a ≤ i ∧ i ≤ j ∧ j ≤ m ∧ q = j - i ∧ Hid ((∀ p, a ≤ p → p < i → ltOf cfP d[m]! d[p]! = false) ∧ (∀ p, j ≤ p → p < m → ltOf cfP d[m]! d[p]! = true) ∧ SWK encP 2 w0 blk off d wx))
  case atStart => exact ⟨a, m, rfl, rfl, Nat.le_refl _, Nat.le_of_lt ham, Nat.le_refl _, rfl, Lib.hid ⟨fun p q1 q2 => absurd q2 (by omega), fun p q1 q2 => absurd q2 (by omega), HS.out⟩⟩
  case round =>
    clear HS k0 k1 k2 hma1 hma2
    obtain ⟨i, j, rfl, rfl, hmi, hij, hjb, hq, HQ⟩ := hrel
    have HGQ := Lib.hid hq
    clear hq
    obtain ⟨hlow, hhigh, hS1⟩ := HQ.out
    by_cases hlt : i < j
    · have hii : (i : Int) < (j : Int) := Int.ofNat_lt.2 hlt
      obtain ⟨s, hs⟩ : ∃ s, i + j = s := ⟨_, rfl⟩
      obtain ⟨h, hh⟩ : ∃ h, s / 2 = h := ⟨_, rfl⟩
      have HWH : Hid (IntKind.i64.wrap ((i : Int) + (j : Int)) = (s : Int) ∧ wrap64 (s : Int) = (s : Int) ∧ IntKind.u64.wrap (s : Int) = (s : Int) ∧ (s : Int) / 2 = (h : Int) ∧ IntKind.u64.wrap (h : Int) = (h : Int) ∧ IntKind.i64.wrap (h : Int) = (h : Int) ∧ wrap64 (h : Int) = (h : Int)) :=
        Lib.hid ⟨by rw [IntKind.wrap_i64]; omega, IntWalk.wrap64_in _ (by omega), by rw [IntKind.wrap_u64]; omega, by omega, by rw [IntKind.wrap_u64]; omega, by rw [IntKind.wrap_i64]; omega, IntWalk.wrap64_in _ (by omega)⟩
      have hhj : h < j := by omega
      have hih : i ≤ h := by omega
      obtain ⟨wd, hwd⟩ : ∃ w', w' = wr.drew := ⟨_, rfl⟩
      have HWD := Lib.hid hwd
      have hSd := hS1.drew
      rw [← hwd] at hSd
      have HSD := Lib.hid hSd
      obtain ⟨X, Y, lx, ly, hcm⟩ := tst HR.out (by rw [HDN.out, HDS.out]) (u := m) (v := h) (dk := d) (by rw [HDN.out]; omega) (by rw [HDN.out]; omega)
      have HLX := Lib.hid lx
      have HLY := Lib.hid ly
      obtain ⟨c, hc⟩ : ∃ c, cfP d[m]! d[h]! = c := ⟨_, rfl⟩
      rw [hc] at hcm
      have HCM := Lib.hid hcm
      obtain ⟨h1, hh1⟩ : ∃ h1, h + 1 = h1 := ⟨_, rfl⟩
      have HWI : Hid (IntKind.i64.wrap ((h : Int) + 1) = (h1 : Int) ∧ wrap64 (h1 : Int) = (h1 : Int)) := Lib.hid ⟨by rw [IntKind.wrap_i64]; omega, IntWalk.wrap64_in _ (by omega)⟩
      have hp0 : (0 : Int) ≤ (h : Int) := by omega
      have hpN' : (h : Int) < (N : Int) := by omega
      have ha0 : (0 : Int) ≤ (m : Int) := by omega
      have haN' : (m : Int) < (N : Int) := by omega
      have HAI : Hid (a ≤ h1 ∧ h1 ≤ j ∧ a ≤ i ∧ i ≤ h ∧ h ≤ m ∧ j ≤ m) := Lib.hid ⟨by omega, by omega, hmi, hih, by omega, hjb⟩
      have HMS : Hid (j - h1 < j - i ∧ h - i < j - i) := Lib.hid ⟨by omega, by omega⟩
      by_cases hlv : c < 0
      · have hlt1 : ltOf cfP d[m]! d[h]! = true := by unfold ltOf; rw [hc]; exact decide_eq_true hlv
        have HL2 : Hid ((∀ p, a ≤ p → p < i → ltOf cfP d[m]! d[p]! = false) ∧ (∀ p, h ≤ p → p < m → ltOf cfP d[m]! d[p]! = true)) := Lib.hid ⟨hlow, fun p q1 q2 => lt_mid swoP (swoP.irrefl _) hlt1 (sorted_le swoP HSA.out (i := h) (j := p) (by omega) q1 q2)⟩
        clear hlow hhigh hS1 hwd hSd lx ly hcm hc hlt1 hlt hij hmi hjb HQ hhj hih hs hh hh1
        obtain ⟨g0, g1, g2, g3, g4, g5, g6⟩ := HWH.out
        go_upto_region 17 with (fail)
        refine wp_region_held_drew (S := fun w' => SWK encP 2 w0 blk off d w') (by kernel_rfl) (by rw [← HWD.out]; exact HSD.out) (fun hH => ?_)
        change wpAnyH _ _ _ _ _ _ _ _ (World.drew _)
        rw [← HWD.out]
        clear hH HWD
        have hH := HSD.out
        refine held_take 0 92 (v := .func (.func 38) #[] #[]) rfl rfl (by kernel_rfl) (by kernel_rfl) (by kernel_rfl) (fun _ _ _ h => h) (Or.inl ⟨by kernel_rfl, fun w _ => by kernel_rfl⟩) hH ?_
        (try simp only [List.setIfInBounds_toArray, List.set_cons_zero, List.set_cons_succ])
        refine held_take 1 93 (v := .slice (some ⟨blk, off, none⟩) N cap) rfl rfl (by kernel_rfl) (by kernel_rfl) (by kernel_rfl) (fun _ _ _ h => h) (Or.inl ⟨by kernel_rfl, fun w _ => by kernel_rfl⟩) hH ?_
        (try simp only [List.setIfInBounds_toArray, List.set_cons_zero, List.set_cons_succ])
        refine held_take 2 94 (v := .int .i64 (m : Int)) rfl rfl (by kernel_rfl) (by kernel_rfl) (by kernel_rfl) (fun _ _ _ h => h) (Or.inl ⟨by kernel_rfl, fun w _ => by kernel_rfl⟩) hH ?_
        (try simp only [List.setIfInBounds_toArray, List.set_cons_zero, List.set_cons_succ])
        refine held_take 3 95 (v := .pointer (some ⟨blk, off + m * 2, none⟩)) rfl rfl (by kernel_rfl) (by kernel_rfl) (by kernel_rfl) (fun _ _ _ h => h) (Or.inl ⟨by kernel_rfl, fun w _ => by go_simp⟩) hH ?_
        (try simp only [List.setIfInBounds_toArray, List.set_cons_zero, List.set_cons_succ])
        refine held_take 4 96 (v := X) rfl rfl (by kernel_rfl) (by kernel_rfl) (by kernel_rfl) (fun _ _ _ h => h) (yields_load (by kernel_rfl) 54 (.tmp 95) rfl ⟨blk, off + m * 2, none⟩ rfl X (fun w h => HLX.out w h)) hH ?_
        refine held_take 5 97 (v := .slice (some ⟨blk, off, none⟩) N cap) rfl rfl (by kernel_rfl) (by kernel_rfl) (by kernel_rfl) (fun _ _ _ h => h) (Or.inl ⟨by kernel_rfl, fun w _ => by kernel_rfl⟩) hH ?_
        (try simp only [List.setIfInBounds_toArray, List.set_cons_zero, List.set_cons_succ])
        refine held_take 6 98 (v := .int .i64 (h : Int)) rfl rfl (by kernel_rfl) (by kernel_rfl) (by kernel_rfl) (fun _ _ _ h => h) (Or.inl ⟨by kernel_rfl, fun w _ => by kernel_rfl⟩) hH ?_
        (try simp only [List.setIfInBounds_toArray, List.set_cons_zero, List.set_cons_succ])
        refine held_take 7 99 (v := .pointer (some ⟨blk, off + h * 2, none⟩)) rfl rfl (by kernel_rfl) (by kernel_rfl) (by kernel_rfl) (fun _ _ _ h => h) (Or.inl ⟨by kernel_rfl, fun w _ => by go_simp⟩) hH ?_
        (try simp only [List.setIfInBounds_toArray, List.set_cons_zero, List.set_cons_succ])
        refine held_take 8 100 (v := Y) rfl rfl (by kernel_rfl) (by kernel_rfl) (by kernel_rfl) (fun _ _ _ h => h) (yields_load (by kernel_rfl) 54 (.tmp 99) rfl ⟨blk, off + h * 2, none⟩ rfl Y (fun w h => HLY.out w h)) hH ?_
        refine wpAnyH_ready (rs := [9]) (by kernel_rfl) (by simp) ?_
        refine AllReadyH.cons (by simp only [List.getElem?_toArray, List.getElem?_cons_succ, List.getElem?_cons_zero]; rfl) (fun K hK => ?_) AllReadyH.nil
        go_simp
        refine (HCM.out wd).mono ?_
        rintro e9 w9 ⟨rfl, q9, os9, hw9⟩
        have HS9 : Hid (SWK encP 2 w0 blk off d w9) := Lib.hid (by rw [hw9]; exact HSD.out.grown q9 os9)
        clear hw9
        refine hK.out _ _ HS9.out (fun hH => ?_)
        clear hK K
        refine held_take 10 102 (v := .bool true) rfl rfl (by kernel_rfl) (by kernel_rfl) (by kernel_rfl) (fun _ _ _ h => h) (Or.inl ⟨by kernel_rfl, fun w _ => by go_simp⟩) hH ?_
        (try simp only [List.setIfInBounds_toArray, List.set_cons_zero, List.set_cons_succ])
        refine held_take 11 103 (v := .bool false) rfl rfl (by kernel_rfl) (by kernel_rfl) (by kernel_rfl) (fun _ _ _ h => h) (Or.inl ⟨by kernel_rfl, fun w _ => by go_simp⟩) hH ?_
        (try simp only [List.setIfInBounds_toArray, List.set_cons_zero, List.set_cons_succ])
        refine wpAnyH_done (by kernel_rfl) ?_ _
        go_simp
        clear hH
        have HE : Hid ((∀ p, a ≤ p → p < i → ltOf cfP d[m]! d[p]! = false) ∧ (∀ p, h ≤ p → p < m → ltOf cfP d[m]! d[p]! = true) ∧ SWK encP 2 w0 blk off d w9) := Lib.hid ⟨HL2.out.1, HL2.out.2, HS9.out⟩
        go_wp2_with fail
        go_roundg (h - i)
        case rel => exact ⟨i, h, rfl, rfl, HAI.out.2.2.1, HAI.out.2.2.2.1, HAI.out.2.2.2.2.1, rfl, HE⟩
        case measure => rw [HGQ.out]; exact HMS.out.2
      · have hlt1 : ltOf cfP d[m]! d[h]! = false := by unfold ltOf; rw [hc]; exact decide_eq_false hlv
        have HL2 : Hid ((∀ p, a ≤ p → p < h1 → ltOf cfP d[m]! d[p]! = false) ∧ (∀ p, j ≤ p → p < m → ltOf cfP d[m]! d[p]! = true)) := Lib.hid ⟨fun p q1 q2 => le_trans3 swoP (sorted_le swoP HSA.out (i := p) (j := h) q1 (by omega) (by omega)) hlt1, hhigh⟩
        clear hlow hhigh hS1 hwd hSd lx ly hcm hc hlt1 hlt hij hmi hjb HQ hhj hih hs hh hh1
        obtain ⟨g0, g1, g2, g3, g4, g5, g6⟩ := HWH.out
        go_upto_region 17 with (fail)
        refine wp_region_held_drew (S := fun w' => SWK encP 2 w0 blk off d w') (by kernel_rfl) (by rw [← HWD.out]; exact HSD.out) (fun hH => ?_)
        change wpAnyH _ _ _ _ _ _ _ _ (World.drew _)
        rw [← HWD.out]
        clear hH HWD
        have hH := HSD.out
        refine held_take 0 92 (v := .func (.func 38) #[] #[]) rfl rfl (by kernel_rfl) (by kernel_rfl) (by kernel_rfl) (fun _ _ _ h => h) (Or.inl ⟨by kernel_rfl, fun w _ => by kernel_rfl⟩) hH ?_
        (try simp only [List.setIfInBounds_toArray, List.set_cons_zero, List.set_cons_succ])
        refine held_take 1 93 (v := .slice (some ⟨blk, off, none⟩) N cap) rfl rfl (by kernel_rfl) (by kernel_rfl) (by kernel_rfl) (fun _ _ _ h => h) (Or.inl ⟨by kernel_rfl, fun w _ => by kernel_rfl⟩) hH ?_
        (try simp only [List.setIfInBounds_toArray, List.set_cons_zero, List.set_cons_succ])
        refine held_take 2 94 (v := .int .i64 (m : Int)) rfl rfl (by kernel_rfl) (by kernel_rfl) (by kernel_rfl) (fun _ _ _ h => h) (Or.inl ⟨by kernel_rfl, fun w _ => by kernel_rfl⟩) hH ?_
        (try simp only [List.setIfInBounds_toArray, List.set_cons_zero, List.set_cons_succ])
        refine held_take 3 95 (v := .pointer (some ⟨blk, off + m * 2, none⟩)) rfl rfl (by kernel_rfl) (by kernel_rfl) (by kernel_rfl) (fun _ _ _ h => h) (Or.inl ⟨by kernel_rfl, fun w _ => by go_simp⟩) hH ?_
        (try simp only [List.setIfInBounds_toArray, List.set_cons_zero, List.set_cons_succ])
        refine held_take 4 96 (v := X) rfl rfl (by kernel_rfl) (by kernel_rfl) (by kernel_rfl) (fun _ _ _ h => h) (yields_load (by kernel_rfl) 54 (.tmp 95) rfl ⟨blk, off + m * 2, none⟩ rfl X (fun w h => HLX.out w h)) hH ?_
        refine held_take 5 97 (v := .slice (some ⟨blk, off, none⟩) N cap) rfl rfl (by kernel_rfl) (by kernel_rfl) (by kernel_rfl) (fun _ _ _ h => h) (Or.inl ⟨by kernel_rfl, fun w _ => by kernel_rfl⟩) hH ?_
        (try simp only [List.setIfInBounds_toArray, List.set_cons_zero, List.set_cons_succ])
        refine held_take 6 98 (v := .int .i64 (h : Int)) rfl rfl (by kernel_rfl) (by kernel_rfl) (by kernel_rfl) (fun _ _ _ h => h) (Or.inl ⟨by kernel_rfl, fun w _ => by kernel_rfl⟩) hH ?_
        (try simp only [List.setIfInBounds_toArray, List.set_cons_zero, List.set_cons_succ])
        refine held_take 7 99 (v := .pointer (some ⟨blk, off + h * 2, none⟩)) rfl rfl (by kernel_rfl) (by kernel_rfl) (by kernel_rfl) (fun _ _ _ h => h) (Or.inl ⟨by kernel_rfl, fun w _ => by go_simp⟩) hH ?_
        (try simp only [List.setIfInBounds_toArray, List.set_cons_zero, List.set_cons_succ])
        refine held_take 8 100 (v := Y) rfl rfl (by kernel_rfl) (by kernel_rfl) (by kernel_rfl) (fun _ _ _ h => h) (yields_load (by kernel_rfl) 54 (.tmp 99) rfl ⟨blk, off + h * 2, none⟩ rfl Y (fun w h => HLY.out w h)) hH ?_
        refine wpAnyH_ready (rs := [9]) (by kernel_rfl) (by simp) ?_
        refine AllReadyH.cons (by simp only [List.getElem?_toArray, List.getElem?_cons_succ, List.getElem?_cons_zero]; rfl) (fun K hK => ?_) AllReadyH.nil
        go_simp
        refine (HCM.out wd).mono ?_
        rintro e9 w9 ⟨rfl, q9, os9, hw9⟩
        have HS9 : Hid (SWK encP 2 w0 blk off d w9) := Lib.hid (by rw [hw9]; exact HSD.out.grown q9 os9)
        clear hw9
        refine hK.out _ _ HS9.out (fun hH => ?_)
        clear hK K
        refine held_take 10 102 (v := .bool false) rfl rfl (by kernel_rfl) (by kernel_rfl) (by kernel_rfl) (fun _ _ _ h => h) (Or.inl ⟨by kernel_rfl, fun w _ => by go_simp⟩) hH ?_
        (try simp only [List.setIfInBounds_toArray, List.set_cons_zero, List.set_cons_succ])
        refine held_take 11 103 (v := .bool true) rfl rfl (by kernel_rfl) (by kernel_rfl) (by kernel_rfl) (fun _ _ _ h => h) (Or.inl ⟨by kernel_rfl, fun w _ => by go_simp⟩) hH ?_
        (try simp only [List.setIfInBounds_toArray, List.set_cons_zero, List.set_cons_succ])
        refine wpAnyH_done (by kernel_rfl) ?_ _
        go_simp
        clear hH
        have HE : Hid ((∀ p, a ≤ p → p < h1 → ltOf cfP d[m]! d[p]! = false) ∧ (∀ p, j ≤ p → p < m → ltOf cfP d[m]! d[p]! = true) ∧ SWK encP 2 w0 blk off d w9) := Lib.hid ⟨HL2.out.1, HL2.out.2, HS9.out⟩
        obtain ⟨z0, z1⟩ := HWI.out
        go_wp2_with fail
        go_roundg (j - h1)
        case rel => exact ⟨h1, j, rfl, rfl, HAI.out.1, HAI.out.2.1, HAI.out.2.2.2.2.2, rfl, HE⟩
        case measure => rw [HGQ.out]; exact HMS.out.1
    · have hii : ¬ (i : Int) < (j : Int) := by omega
      have hji : j = i := by omega
      subst hji
      have HL2 := Lib.hid (And.intro hlow hhigh)
      have HR0 : Hid (Rot d d m m (m + 1) ∧ SWK encP 2 w0 blk off d wr) := Lib.hid ⟨Rot.id2 d m (m + 1) (by omega) (by rw [HDN.out]; omega), hS1⟩
      have HII : Hid (a ≤ j ∧ j ≤ m) := Lib.hid ⟨hmi, hjb⟩
      clear hlow hhigh hS1 HQ hlt hij hmi hjb
      go_wp2_with fail
      go_loopg [17] (m - j) (fun q s17 wx => ∃ (p : Nat) (e : Array P2), s17 = .int .i64 (p : Int) ∧ j ≤ p ∧ p ≤ m ∧ q = p - j ∧ Hid (Rot d e p m (m + 1) ∧ SWK encP 2 w0 blk off e wx))
      case atStart => exact ⟨m, d, rfl, HII.out.2, Nat.le_refl _, rfl, HR0⟩
      case round =>
        rename_i wo
        clear HR0
        obtain ⟨p, e, rfl, hap, hpi, hq, HQ⟩ := hrel
        have HGQ2 := Lib.hid hq
        clear hq
        obtain ⟨hr, hS1⟩ := HQ.out
        by_cases hlt : j < p
        · have hpi' : (j : Int) < (p : Int) := Int.ofNat_lt.2 hlt
          obtain ⟨q, hq⟩ : ∃ q, p - 1 = q := ⟨_, rfl⟩
          obtain ⟨we, hwe⟩ : ∃ w', w' = wr.drew := ⟨_, rfl⟩
          have HWE := Lib.hid hwe
          have hSe := hS1.drew
          rw [← hwe] at hSe
          obtain ⟨X, Y, w1, w2, l1, l2, s1, s2, hS2⟩ := exch HR.out (by rw [hr.size, HDN.out, HDS.out]) hSe (p := p) (q := q) (by rw [hr.size, HDN.out]; omega) (by rw [hr.size, HDN.out]; omega) (by omega)
          have HWQ : Hid (IntKind.i64.wrap ((p : Int) - 1) = (q : Int) ∧ wrap64 (q : Int) = (q : Int)) := Lib.hid ⟨by rw [IntKind.wrap_i64]; omega, IntWalk.wrap64_in _ (by omega)⟩
          have HT : Hid (Rot d (swp e p q) q m (m + 1) ∧ SWK encP 2 w0 blk off (swp e p q) w2) := Lib.hid ⟨by
            have := hr.down (by omega)
            rw [hq] at this
            exact this, hS2⟩
          have HAQ : Hid (j ≤ q ∧ q ≤ m) := Lib.hid ⟨by omega, by omega⟩
          have HMS2 : Hid (q - j < p - j) := Lib.hid (by omega)
          have hp0 : (0 : Int) ≤ (p : Int) := by omega
          have hq0 : (0 : Int) ≤ (q : Int) := by omega
          have hpN' : (p : Int) < (N : Int) := by omega
          have hqN' : (q : Int) < (N : Int) := by omega
          clear hr hS1 hS2 hwe hSe hq hlt hap hpi HQ
          go_upto_region 23 with (fail)
          refine wp_region_held_drew (S := fun _ => True) (by kernel_rfl) trivial (fun hH => ?_)
          change wpAnyH _ _ _ _ _ _ _ _ (World.drew _)
          rw [← HWE.out]
          clear hH HWE
          have hH : True := trivial
          refine held_take 0 113 (v := .slice (some ⟨blk, off, none⟩) N cap) rfl rfl (by kernel_rfl) (by kernel_rfl) (by kernel_rfl) (fun _ _ _ h => h) (Or.inl ⟨by kernel_rfl, fun w _ => by kernel_rfl⟩) hH ?_
          (try simp only [List.setIfInBounds_toArray, List.set_cons_zero, List.set_cons_succ])
          refine held_take 1 114 (v := .int .i64 (p : Int)) rfl rfl (by kernel_rfl) (by kernel_rfl) (by kernel_rfl) (fun _ _ _ h => h) (Or.inl ⟨by kernel_rfl, fun w _ => by kernel_rfl⟩) hH ?_
          (try simp only [List.setIfInBounds_toArray, List.set_cons_zero, List.set_cons_succ])
          refine held_take 2 115 (v := .slice (some ⟨blk, off, none⟩) N cap) rfl rfl (by kernel_rfl) (by kernel_rfl) (by kernel_rfl) (fun _ _ _ h => h) (Or.inl ⟨by kernel_rfl, fun w _ => by kernel_rfl⟩) hH ?_
          (try simp only [List.setIfInBounds_toArray, List.set_cons_zero, List.set_cons_succ])
          refine held_take 3 116 (v := .int .i64 (p : Int)) rfl rfl (by kernel_rfl) (by kernel_rfl) (by kernel_rfl) (fun _ _ _ h => h) (Or.inl ⟨by kernel_rfl, fun w _ => by kernel_rfl⟩) hH ?_
          (try simp only [List.setIfInBounds_toArray, List.set_cons_zero, List.set_cons_succ])
          refine held_take 4 117 (v := .int .i64 (q : Int)) rfl rfl (by kernel_rfl) (by kernel_rfl) (by kernel_rfl) (fun _ _ _ h => h) (Or.inl ⟨by kernel_rfl, fun w _ => by have hwq := HWQ.out.1; have hwq2 := HWQ.out.2; go_simp⟩) hH ?_
          (try simp only [List.setIfInBounds_toArray, List.set_cons_zero, List.set_cons_succ])
          refine held_take 5 118 (v := .slice (some ⟨blk, off, none⟩) N cap) rfl rfl (by kernel_rfl) (by kernel_rfl) (by kernel_rfl) (fun _ _ _ h => h) (Or.inl ⟨by kernel_rfl, fun w _ => by kernel_rfl⟩) hH ?_
          (try simp only [List.setIfInBounds_toArray, List.set_cons_zero, List.set_cons_succ])
          refine held_take 6 119 (v := .int .i64 (p : Int)) rfl rfl (by kernel_rfl) (by kernel_rfl) (by kernel_rfl) (fun _ _ _ h => h) (Or.inl ⟨by kernel_rfl, fun w _ => by kernel_rfl⟩) hH ?_
          (try simp only [List.setIfInBounds_toArray, List.set_cons_zero, List.set_cons_succ])
          refine held_take 7 120 (v := .int .i64 (q : Int)) rfl rfl (by kernel_rfl) (by kernel_rfl) (by kernel_rfl) (fun _ _ _ h => h) (Or.inl ⟨by kernel_rfl, fun w _ => by have hwq := HWQ.out.1; have hwq2 := HWQ.out.2; go_simp⟩) hH ?_
          (try simp only [List.setIfInBounds_toArray, List.set_cons_zero, List.set_cons_succ])
          refine held_take 8 121 (v := .pointer (some ⟨blk, off + q * 2, none⟩)) rfl rfl (by kernel_rfl) (by kernel_rfl) (by kernel_rfl) (fun _ _ _ h => h) (Or.inl ⟨by kernel_rfl, fun w _ => by go_simp⟩) hH ?_
          (try simp only [List.setIfInBounds_toArray, List.set_cons_zero, List.set_cons_succ])
          refine held_take 10 123 (v := .slice (some ⟨blk, off, none⟩) N cap) rfl rfl (by kernel_rfl) (by kernel_rfl) (by kernel_rfl) (fun _ _ _ h => h) (Or.inl ⟨by kernel_rfl, fun w _ => by kernel_rfl⟩) hH ?_
          (try simp only [List.setIfInBounds_toArray, List.set_cons_zero, List.set_cons_succ])
          refine held_take 11 124 (v := .int .i64 (p : Int)) rfl rfl (by kernel_rfl) (by kernel_rfl) (by kernel_rfl) (fun _ _ _ h => h) (Or.inl ⟨by kernel_rfl, fun w _ => by kernel_rfl⟩) hH ?_
          (try simp only [List.setIfInBounds_toArray, List.set_cons_zero, List.set_cons_succ])
          refine held_take 12 125 (v := .pointer (some ⟨blk, off + p * 2, none⟩)) rfl rfl (by kernel_rfl) (by kernel_rfl) (by kernel_rfl) (fun _ _ _ h => h) (Or.inl ⟨by kernel_rfl, fun w _ => by go_simp⟩) hH ?_
          (try simp only [List.setIfInBounds_toArray, List.set_cons_zero, List.set_cons_succ])
          refine wpAnyH_ready (rs := [9, 13]) (by kernel_rfl) (by simp) ?_
          refine AllReadyH.cons (by simp only [List.getElem?_toArray, List.getElem?_cons_succ, List.getElem?_cons_zero]; rfl) (fun K hK => ?_) (AllReadyH.cons (by simp only [List.getElem?_toArray, List.getElem?_cons_succ, List.getElem?_cons_zero]; rfl) (fun K hK => ?_) AllReadyH.nil)
          · refine step_load rfl 54 (.tmp 121) rfl ⟨blk, off + q * 2, none⟩ rfl Y l2 ?_
            (try dsimp only [Act.put])
            (try simp only [List.setIfInBounds_toArray])
            (try simp only [List.set_cons_succ])
            (try simp only [List.set_cons_zero])
            refine hK.out _ _ trivial (fun hH => ?_)
            clear hK K
            refine wpAnyH_ready (rs := [13]) (by kernel_rfl) (by simp) ?_
            refine AllReadyH.cons (by simp only [List.getElem?_toArray, List.getElem?_cons_succ, List.getElem?_cons_zero]; rfl) (fun K hK => ?_) AllReadyH.nil
            refine step_load rfl 54 (.tmp 125) rfl ⟨blk, off + p * 2, none⟩ rfl X l1 ?_
            (try dsimp only [Act.put])
            (try simp only [List.setIfInBounds_toArray])
            (try simp only [List.set_cons_succ])
            (try simp only [List.set_cons_zero])
            refine hK.out _ _ trivial (fun hH => ?_)
            clear hK K
            refine held_take 14 127 (v := .pointer (some ⟨blk, off + p * 2, none⟩)) rfl rfl (by kernel_rfl) (by kernel_rfl) (by kernel_rfl) (fun _ _ _ h => h) (Or.inl ⟨by kernel_rfl, fun w _ => by go_simp⟩) hH ?_
            (try simp only [List.setIfInBounds_toArray, List.set_cons_zero, List.set_cons_succ])
            refine wpAnyH_ready (rs := [15]) (by kernel_rfl) (by simp) ?_
            refine AllReadyH.cons (by simp only [List.getElem?_toArray, List.getElem?_cons_succ, List.getElem?_cons_zero]; rfl) (fun K hK => ?_) AllReadyH.nil
            refine step_store rfl 54 (.tmp 127) (.tmp 122) rfl ⟨blk, off + p * 2, none⟩ Y rfl rfl _ s1 ?_
            (try dsimp only [Act.put])
            (try simp only [List.setIfInBounds_toArray])
            (try simp only [List.set_cons_succ])
            (try simp only [List.set_cons_zero])
            refine hK.out _ _ trivial (fun hH => ?_)
            clear hK K
            refine held_take 16 128 (v := .pointer (some ⟨blk, off + q * 2, none⟩)) rfl rfl (by kernel_rfl) (by kernel_rfl) (by kernel_rfl) (fun _ _ _ h => h) (Or.inl ⟨by kernel_rfl, fun w _ => by go_simp⟩) hH ?_
            (try simp only [List.setIfInBounds_toArray, List.set_cons_zero, List.set_cons_succ])
            refine wpAnyH_ready (rs := [17]) (by kernel_rfl) (by simp) ?_
            refine AllReadyH.cons (by simp only [List.getElem?_toArray, List.getElem?_cons_succ, List.getElem?_cons_zero]; rfl) (fun K hK => ?_) AllReadyH.nil
            refine step_store rfl 54 (.tmp 128) (.tmp 126) rfl ⟨blk, off + q * 2, none⟩ X rfl rfl _ s2 ?_
            (try dsimp only [Act.put])
            (try simp only [List.setIfInBounds_toArray])
            (try simp only [List.set_cons_succ])
            (try simp only [List.set_cons_zero])
            refine hK.out _ _ trivial (fun hH => ?_)
            clear hK K
            refine wpAnyH_done (by kernel_rfl) ?_ _
            go_simp
            clear hH
            obtain ⟨hwq, hwq2⟩ := HWQ.out
            go_wp2_with fail
            go_roundg (q - j)
            case rel => exact ⟨q, _, rfl, HAQ.out.1, HAQ.out.2, rfl, HT⟩
            case measure => rw [HGQ2.out]; exact HMS2.out
          · refine step_load rfl 54 (.tmp 125) rfl ⟨blk, off + p * 2, none⟩ rfl X l1 ?_
            (try dsimp only [Act.put])
            (try simp only [List.setIfInBounds_toArray])
            (try simp only [List.set_cons_succ])
            (try simp only [List.set_cons_zero])
            refine hK.out _ _ trivial (fun hH => ?_)
            clear hK K
            refine wpAnyH_ready (rs := [9]) (by kernel_rfl) (by simp) ?_
            refine AllReadyH.cons (by simp only [List.getElem?_toArray, List.getElem?_cons_succ, List.getElem?_cons_zero]; rfl) (fun K hK => ?_) AllReadyH.nil
            refine step_load rfl 54 (.tmp 121) rfl ⟨blk, off + q * 2, none⟩ rfl Y l2 ?_
            (try dsimp only [Act.put])
            (try simp only [List.setIfInBounds_toArray])
            (try simp only [List.set_cons_succ])
            (try simp only [List.set_cons_zero])
            refine hK.out _ _ trivial (fun hH => ?_)
            clear hK K
            refine held_take 14 127 (v := .pointer (some ⟨blk, off + p * 2, none⟩)) rfl rfl (by kernel_rfl) (by kernel_rfl) (by kernel_rfl) (fun _ _ _ h => h) (Or.inl ⟨by kernel_rfl, fun w _ => by go_simp⟩) hH ?_
            (try simp only [List.setIfInBounds_toArray, List.set_cons_zero, List.set_cons_succ])
            refine wpAnyH_ready (rs := [15]) (by kernel_rfl) (by simp) ?_
            refine AllReadyH.cons (by simp only [List.getElem?_toArray, List.getElem?_cons_succ, List.getElem?_cons_zero]; rfl) (fun K hK => ?_) AllReadyH.nil
            refine step_store rfl 54 (.tmp 127) (.tmp 122) rfl ⟨blk, off + p * 2, none⟩ Y rfl rfl _ s1 ?_
            (try dsimp only [Act.put])
            (try simp only [List.setIfInBounds_toArray])
            (try simp only [List.set_cons_succ])
            (try simp only [List.set_cons_zero])
            refine hK.out _ _ trivial (fun hH => ?_)
            clear hK K
            refine held_take 16 128 (v := .pointer (some ⟨blk, off + q * 2, none⟩)) rfl rfl (by kernel_rfl) (by kernel_rfl) (by kernel_rfl) (fun _ _ _ h => h) (Or.inl ⟨by kernel_rfl, fun w _ => by go_simp⟩) hH ?_
            (try simp only [List.setIfInBounds_toArray, List.set_cons_zero, List.set_cons_succ])
            refine wpAnyH_ready (rs := [17]) (by kernel_rfl) (by simp) ?_
            refine AllReadyH.cons (by simp only [List.getElem?_toArray, List.getElem?_cons_succ, List.getElem?_cons_zero]; rfl) (fun K hK => ?_) AllReadyH.nil
            refine step_store rfl 54 (.tmp 128) (.tmp 126) rfl ⟨blk, off + q * 2, none⟩ X rfl rfl _ s2 ?_
            (try dsimp only [Act.put])
            (try simp only [List.setIfInBounds_toArray])
            (try simp only [List.set_cons_succ])
            (try simp only [List.set_cons_zero])
            refine hK.out _ _ trivial (fun hH => ?_)
            clear hK K
            refine wpAnyH_done (by kernel_rfl) ?_ _
            go_simp
            clear hH
            obtain ⟨hwq, hwq2⟩ := HWQ.out
            go_wp2_with fail
            go_roundg (q - j)
            case rel => exact ⟨q, _, rfl, HAQ.out.1, HAQ.out.2, rfl, HT⟩
            case measure => rw [HGQ2.out]; exact HMS2.out
        · have hpi' : ¬ (j : Int) < (p : Int) := by omega
          have hpe : p = j := by omega
          subst hpe
          have HEND : Hid (∃ d', Rng d d' a b ∧ SortedIn (ltOf cfP) a b d' ∧ Stb clsP d d' ∧ SWK encP 2 w0 blk off d' wr) := Lib.hid (by
            rw [HBM.out]
            exact ⟨e, hr.rng.mono HII.out.1 (Nat.le_refl _), down_sorted swoP hr HSA.out HII.out.1 HL2.out.1 HL2.out.2,
              hr.stb clsP_ne (fun u v q1 q2 q3 q4 => by rw [show v = m by omega]; exact HL2.out.2 u q1 q2), hS1⟩)
          clear hr hS1 HQ hlt hap hpi
          go_wp2_with fail
          refine bodyPost_ret (results_none (by kernel_rfl) _ _ _) rfl ?_
          exact ⟨rfl, HEND.out⟩
end Go.Proofs.YtclnoblcdaimiaaDoor
