/- The reference's reader, walked: its rounds. -/
import Derived.Test.YtoinjjnlgjakkaaDoorRef11H
import Derived.Deep.CutRange
namespace Go.Proofs.YtoinjjnlgjakkaaDoor
open Go.RowKit
set_option linter.unusedVariables false

theorem if_wanted {b : Bool} {X E : Prop} (h : b = true) (k : X) : if b = true then X else E := by
  rw [if_pos h]
  exact k
theorem infoI : (Tryd.prog.info? 3).map (fun i => (i.zero, i.size, i.bytes)) = some (some (.int .i64 0), 1, 8) := by kernel_rfl
theorem pre_ge (l : List P2) : l.length ≤ (preI l).length := by
  unfold preI
  rw [List.length_cons]
  have : l.length ≤ (l.flatMap fun p => pI p ++ [44]).length := by
    induction l with
    | nil => exact Nat.le_refl _
    | cons p l ih =>
      rw [List.flatMap_cons, List.length_append, List.length_append, List.length_cons, List.length_cons]
      omega
  omega
/-- The call of is, and of wrong, as the walk writes them. -/
theorem isC (A : Option Addr) (n c : Nat) (xs : List Int) (p : Nat) (x : Int) (v : Bool) (hv : isB xs p x = v) (hp : p ≤ 1000000000) (i : Int) (hi : i = (p : Int)) : ∀ w, Sl w A n c xs → Calls Tryd.prog 40 #[.slice A n c, .int .i64 i, .int .u8 x] w fun e w' => e = .returned (.bool v) ∧ w' = w := by
  subst hv hi
  exact fun w h => ris_any A n c xs p x w h hp
theorem wrC (A : Option Addr) (n c p : Nat) (hn : n ≤ 1000000000) (hp : p ≤ 1000000000) (i : Int) (hi : i = (p : Int)) : ∀ w, Calls Tryd.prog 41 #[.slice A n c, .int .i64 i] w fun e w' => e = .returned (bad11 (wrongC n p).1 (wrongC n p).2) ∧ Past w w' := by
  subst hi
  exact fun w => rwrong_any A n c p w hn hp
/-- Where the letters of a name end. -/
theorem nm_end {xs : List Int} {a : Nat} (h : Nm xs a a) (hle : a ≤ xs.length) : ∃ t, Nm xs a t ∧ NmEnd xs t ∧ t ≤ xs.length := by
  have go : ∀ d t, xs.length - t ≤ d → Nm xs a t → t ≤ xs.length → ∃ t, Nm xs a t ∧ NmEnd xs t ∧ t ≤ xs.length := by
    intro d
    induction d with
    | zero => intro t ht hN hl; exact ⟨t, hN, fun hp => by omega, hl⟩
    | succ d ih =>
      intro t ht hN hl
      by_cases hp : t < xs.length
      · cases hx : letB (xs.getD t 0) with
        | true => exact ih (t + 1) (by omega) (hN.next hp hx) (by omega)
        | false => exact ⟨t, hN, fun _ => hx, hl⟩
      · exact ⟨t, hN, fun hp' => absurd hp' hp, hl⟩
  exact go _ a (Nat.le_refl _) h hle
theorem vl_end {xs : List Int} {a : Nat} (h : Vl xs a a) (hle : a ≤ xs.length) : ∃ t, Vl xs a t ∧ VlEnd xs t ∧ t ≤ xs.length := by
  have go : ∀ d t, xs.length - t ≤ d → Vl xs a t → t ≤ xs.length → ∃ t, Vl xs a t ∧ VlEnd xs t ∧ t ≤ xs.length := by
    intro d
    induction d with
    | zero => intro t ht hN hl; exact ⟨t, hN, fun hp => by omega, hl⟩
    | succ d ih =>
      intro t ht hN hl
      by_cases hp : t < xs.length
      · cases hx : plainB (xs.getD t 0) with
        | true => exact ih (t + 1) (by omega) (hN.next hp hx) (by omega)
        | false => exact ⟨t, hN, fun _ => hx, hl⟩
      · exact ⟨t, hN, fun hp' => absurd hp' hp, hl⟩
  exact go _ a (Nat.le_refl _) h hle

set_option maxHeartbeats 40000000 in
set_option maxRecDepth 100000 in
theorem rread_loop (A : Option Addr) (n c : Nat) (xs : List Int) (w : World) (hS : Sl w A n c xs) (hn : n ≤ 1000000) (h0 : isB xs 0 123 = true) (h1 : isB xs 1 125 = false) : Calls Tryd.prog 22 #[.slice A n c] w fun e w' => RdBad w n xs e w' ∨ RdOk w xs e w' := by
  have HSt := Lib.hid (hd_start h0 h1)
  have HIs := Lib.hid (isC A n c xs 0 123 true h0 (by omega) 0 rfl)
  have HIt := Lib.hid (isC A n c xs 1 125 false h1 (by omega) 1 rfl)
  have HSL := Lib.hid hS
  have HXN : Hid (xs.length ≤ 1000000) := Lib.hid (by rw [hS.len]; exact hn)
  have HL := Lib.hid hS.len
  have hbig : (n : Int) ≤ 1000000 := by omega
  obtain ⟨g, hg⟩ : ∃ g, w.heap.size = g := ⟨_, rfl⟩
  have H0 := Lib.hid (fun w1 h => two_new w g hg w1 h)
  have HLe := Lib.hid rletter_any
  have HPl := Lib.hid rplain_any
  clear hS h0 h1
  go_enter Tryd.func22, Tryd.ntmps22
  go_wp2_with fail
  try rw [hg]
  obtain ⟨w1, hw1⟩ : ∃ w1, w1 = (w.alloc (.cells #[.slice none 0 0, .slice none 0 0, .int .i64 0, .int .i64 0] 32)).alloc (.cells #[.slice none 0 0, .slice none 0 0, .int .i64 0, .int .i64 0] 32) := ⟨_, rfl⟩
  have H1 := Lib.hid (H0.out w1 hw1)
  simp only [← hw1]
  clear hw1 H0 hg
  refine (HIs.out _ (HSL.out.past H1.out.past)).mono ?_
  rintro e w2 ⟨rfl, rfl⟩
  go_wp2_with fail
  refine (HIt.out _ (HSL.out.past H1.out.past)).mono ?_
  rintro e w3 ⟨rfl, rfl⟩
  go_wp2_with fail
  go_loopg [4, 5, 6, 7] n (fun q s4 s5 s6 s7 wx => ∃ (acc : List P2) (p : Nat), p ≤ n ∧ q = n + 1 - p ∧ s4 = .int .i64 (p : Int) ∧ Hid (Hd xs acc p ∧ Out w g acc [] wx))
  case atStart => exact ⟨[], 1, by have := HSt.out.at'.le; rw [HL.out] at this; exact this, by omega, rfl, Lib.hid ⟨HSt.out, H1.out⟩⟩
  case round =>
    obtain ⟨acc, p, hp, hgk, rfl, HQ⟩ := hrel
    have HGK := Lib.hid hgk
    have HPN := Lib.hid hp
    have hpi : (p : Int) ≤ 1000000 := by omega
    have hp0 : (0 : Int) ≤ (p : Int) := by omega
    clear hgk
    cases hq : isB xs p 34 with
    | false =>
      have HF : Hid (∃ s, readS xs 0 0 = (p, s) ∧ s ≠ 9) := Lib.hid ⟨_, HQ.out.1.stop HXN.out hq, stB_9 acc⟩
      have HI := Lib.hid (isC A n c xs p 34 false hq (by omega) p rfl)
      clear hq
      go_wp2_with fail
      refine (HI.out _ (HSL.out.past HQ.out.2.past)).mono ?_
      rintro e wy ⟨rfl, rfl⟩
      have HW := Lib.hid (wrC A n c (p) (by omega) (by omega) ((p : Int)) (by omega))
      clear hp
      go_wp2_with fail
      refine (HW.out _).mono ?_
      rintro e wz ⟨rfl, hpz⟩
      have HZ := Lib.hid (HQ.out.2.later hpz)
      clear hpz
      have hrow := HZ.out.res
      go_wp2_with (refine wpList_store_row rfl 32 _ _ rfl g _ rfl rfl _ _ hrow (res4 _ rfl) rfl (by simp [Value.oneCell']) ?_)
      refine bodyPost_ret (results_cell_row rfl _ _ g _ _ _ _ rfl (setRow_heap _ g _ _ _ _ hrow) Tryd.underlying32 rfl (res4 _ rfl)) rfl ?_
      obtain ⟨sz, hz1, hz2⟩ := HF.out
      exact .inl ⟨_, sz, rfl, hz1, hz2, past_row HZ.out.past (by rw [HZ.out.ge]; exact Nat.le_refl _) _⟩
    | true =>
      have HI := Lib.hid (isC A n c xs p 34 true hq (by omega) p rfl)
      have HQ0 := Lib.hid hq
      have hpn : p < n := by have := (isB_yes hq).1; rw [HL.out] at this; exact this
      obtain ⟨t, hN, hE, htl⟩ := nm_end (HQ.out.1.name hq) (by rw [HL.out]; exact hpn)
      have htn : t ≤ n := by rw [← HL.out]; exact htl
      have hpt : p + 1 ≤ t := hN.ge
      have HN := Lib.hid (And.intro hN hE)
      have HTP : Hid (p + 1 ≤ t ∧ t ≤ n) := Lib.hid ⟨hpt, htn⟩
      clear hq hN hE htl
      obtain ⟨b, o, rfl, hc⟩ := HSL.out.bytes (by omega)
      have HC := Lib.hid hc
      clear hc hpn hpt htn hp
      go_wp2_with fail
      refine (HI.out _ (HSL.out.past HQ.out.2.past)).mono ?_
      rintro e wy ⟨rfl, rfl⟩
      go_wp2_with fail
      go_loopg [6] (n + 1 - (p + 1)) (fun q s6 wx => ∃ k : Nat, p + 1 ≤ k ∧ k ≤ t ∧ q = n + 1 - k ∧ s6 = .int .i64 (k : Int) ∧ wy = wx)
      case atStart => exact ⟨p + 1, Nat.le_refl _, HTP.out.1, rfl, rfl, rfl⟩
      case round =>
        obtain ⟨k, hk1, hk2, hgk, rfl, rfl⟩ := hrel
        have HGL := Lib.hid hgk
        have HKP := Lib.hid hk1
        clear hgk
        by_cases hlt : k < t
        · have hki : (k : Int) < (n : Int) := by have := HTP.out.2; omega
          have hk0 : (0 : Int) ≤ (k : Int) := by omega
          have HKT := Lib.hid hlt
          have f0 := HC.out k (by omega)
          rw [← Below.cell HQ.out.2.past (cell_lt f0)] at f0
          have hx := HN.out.1.all k hk1 hlt
          have HCX := HLe.out (xs.getD k 0)
          rw [hx] at HCX
          replace HCX := Lib.hid HCX
          generalize xs.getD k 0 = x at f0 HCX
          clear hx hlt hk1 hk2
          go_wp2_with fail
          refine (HCX.out _).mono ?_
          rintro e w' ⟨rfl, rfl⟩
          go_wp2_with fail
          go_roundg (n + 1 - (k + 1))
          case rel => exact ⟨k + 1, by have := HKP.out; omega, by have := HKT.out; omega, rfl, by go_num, rfl⟩
          case measure => have := HGL.out; have := HKT.out; have := HTP.out.2; omega
        · obtain rfl : k = t := by omega
          have hpk : (p : Int) + 1 ≤ (k : Int) := by omega
          have hkn : (k : Int) ≤ (n : Int) := by have := HTP.out.2; omega
          clear hlt hk1 hk2
          by_cases htn : k < n
          · have hki : (k : Int) < (n : Int) := by omega
            have hk0 : (0 : Int) ≤ (k : Int) := by omega
            have HKN := Lib.hid htn
            have f0 := HC.out k htn
            rw [← Below.cell HQ.out.2.past (cell_lt f0)] at f0
            have hx := HN.out.2 (by rw [HL.out]; exact htn)
            have HCX := HLe.out (xs.getD k 0)
            rw [hx] at HCX
            replace HCX := Lib.hid HCX
            generalize xs.getD k 0 = x at f0 HCX
            clear hx htn
            by_cases hkp : k = p + 1
            · have HKE : Hid ((k : Int) = (p : Int) + 1) := Lib.hid (by omega)
              have HF : Hid (∃ s, readS xs 0 0 = (k, s) ∧ s ≠ 9) := Lib.hid (HN.out.1.stop HXN.out HN.out.2 (.inl hkp))
              have hp : k ≤ n := by have := HTP.out.2; omega
              clear hkp
              go_wp2_with fail
              refine (HCX.out _).mono ?_
              rintro e w' ⟨rfl, rfl⟩
              have hkp1 := HKE.out
              have hkp2 : ((k : Int) == (p : Int) + 1) = true := by simp; omega
              have HW := Lib.hid (wrC (some ⟨b, o, none⟩) n c (k) (by omega) (by omega) ((p : Int) + 1) (by omega))
              clear hp
              go_wp2_with fail
              refine (HW.out _).mono ?_
              rintro e wz ⟨rfl, hpz⟩
              have HZ := Lib.hid (HQ.out.2.later hpz)
              clear hpz
              have hrow := HZ.out.res
              go_wp2_with (refine wpList_store_row rfl 32 _ _ rfl g _ rfl rfl _ _ hrow (res4 _ rfl) rfl (by simp [Value.oneCell']) ?_)
              refine bodyPost_ret (results_cell_row rfl _ _ g _ _ _ _ rfl (setRow_heap _ g _ _ _ _ hrow) Tryd.underlying32 rfl (res4 _ rfl)) rfl ?_
              obtain ⟨sz, hz1, hz2⟩ := HF.out
              exact .inl ⟨_, sz, rfl, hz1, hz2, past_row HZ.out.past (by rw [HZ.out.ge]; exact Nat.le_refl _) _⟩
            · have hkp1 : ¬ (k : Int) = (p : Int) + 1 := by omega
              have hkp2 : ((k : Int) == (p : Int) + 1) = false := by simp; omega
              have HKE := Lib.hid hkp
              clear hkp
              cases hq : isB xs k 34 with
              | false =>
                have HI := Lib.hid (isC (some ⟨b, o, none⟩) n c xs k 34 false hq (by omega) k rfl)
                have HF : Hid (∃ s, readS xs 0 0 = (k, s) ∧ s ≠ 9) := Lib.hid (HN.out.1.stop HXN.out HN.out.2 (.inr hq))
                have hp : k ≤ n := by have := HTP.out.2; omega
                clear hq
                go_wp2_with fail
                refine (HCX.out _).mono ?_
                rintro e w' ⟨rfl, rfl⟩
                go_wp2_with fail
                refine (HI.out _ (HSL.out.past HQ.out.2.past)).mono ?_
                rintro e wy ⟨rfl, rfl⟩
                have HW := Lib.hid (wrC (some ⟨b, o, none⟩) n c (k) (by omega) (by omega) ((k : Int)) (by omega))
                clear hp
                go_wp2_with fail
                refine (HW.out _).mono ?_
                rintro e wz ⟨rfl, hpz⟩
                have HZ := Lib.hid (HQ.out.2.later hpz)
                clear hpz
                have hrow := HZ.out.res
                go_wp2_with (refine wpList_store_row rfl 32 _ _ rfl g _ rfl rfl _ _ hrow (res4 _ rfl) rfl (by simp [Value.oneCell']) ?_)
                refine bodyPost_ret (results_cell_row rfl _ _ g _ _ _ _ rfl (setRow_heap _ g _ _ _ _ hrow) Tryd.underlying32 rfl (res4 _ rfl)) rfl ?_
                obtain ⟨sz, hz1, hz2⟩ := HF.out
                exact .inl ⟨_, sz, rfl, hz1, hz2, past_row HZ.out.past (by rw [HZ.out.ge]; exact Nat.le_refl _) _⟩
              | true =>
                have HQ1 := Lib.hid hq
                have HI := Lib.hid (isC (some ⟨b, o, none⟩) n c xs k 34 true hq (by omega) k rfl)
                have HA5 : Hid (At xs (k + 1) 5) := Lib.hid (HN.out.1.done HKE.out hq)
                clear hq
                go_wp2_with fail
                refine (HCX.out _).mono ?_
                rintro e w' ⟨rfl, rfl⟩
                go_wp2_with fail
                refine (HI.out _ (HSL.out.past HQ.out.2.past)).mono ?_
                rintro e wy ⟨rfl, rfl⟩
                clear HCX HI f0
                cases h5 : isB xs (k + 1) 58 with
                | false =>
                  have HI := Lib.hid (isC (some ⟨b, o, none⟩) n c xs (k + 1) 58 false h5 (by omega) ((k : Int) + 1) (by omega))
                  have HF : Hid (∃ s, readS xs 0 0 = (k + 1, s) ∧ s ≠ 9) := Lib.hid ⟨5, at_stop HA5.out HXN.out s5_no h5, by decide⟩
                  have hp : k ≤ n := by have := HTP.out.2; omega
                  clear h5
                  go_wp2_with fail
                  refine (HI.out _ (HSL.out.past HQ.out.2.past)).mono ?_
                  rintro e wy ⟨rfl, rfl⟩
                  have HW := Lib.hid (wrC (some ⟨b, o, none⟩) n c (k + 1) (by omega) (by omega) ((k : Int) + 1) (by omega))
                  clear hp
                  go_wp2_with fail
                  refine (HW.out _).mono ?_
                  rintro e wz ⟨rfl, hpz⟩
                  have HZ := Lib.hid (HQ.out.2.later hpz)
                  clear hpz
                  have hrow := HZ.out.res
                  go_wp2_with (refine wpList_store_row rfl 32 _ _ rfl g _ rfl rfl _ _ hrow (res4 _ rfl) rfl (by simp [Value.oneCell']) ?_)
                  refine bodyPost_ret (results_cell_row rfl _ _ g _ _ _ _ rfl (setRow_heap _ g _ _ _ _ hrow) Tryd.underlying32 rfl (res4 _ rfl)) rfl ?_
                  obtain ⟨sz, hz1, hz2⟩ := HF.out
                  exact .inl ⟨_, sz, rfl, hz1, hz2, past_row HZ.out.past (by rw [HZ.out.ge]; exact Nat.le_refl _) _⟩
                | true =>
                  have HI := Lib.hid (isC (some ⟨b, o, none⟩) n c xs (k + 1) 58 true h5 (by omega) ((k : Int) + 1) (by omega))
                  have HQ2 := Lib.hid h5
                  have HA6 : Hid (At xs (k + 2) 6) := Lib.hid (at_next HA5.out rfl h5)
                  clear h5
                  go_wp2_with fail
                  refine (HI.out _ (HSL.out.past HQ.out.2.past)).mono ?_
                  rintro e wy ⟨rfl, rfl⟩
                  clear HI
                  cases h6 : isB xs (k + 2) 34 with
                  | false =>
                    have HI := Lib.hid (isC (some ⟨b, o, none⟩) n c xs (k + 2) 34 false h6 (by omega) ((k : Int) + 2) (by omega))
                    have HF : Hid (∃ s, readS xs 0 0 = (k + 2, s) ∧ s ≠ 9) := Lib.hid ⟨6, at_stop HA6.out HXN.out s6_no h6, by decide⟩
                    have hp : k ≤ n := by have := HTP.out.2; omega
                    clear h6
                    go_wp2_with fail
                    refine (HI.out _ (HSL.out.past HQ.out.2.past)).mono ?_
                    rintro e wy ⟨rfl, rfl⟩
                    have HW := Lib.hid (wrC (some ⟨b, o, none⟩) n c (k + 2) (by omega) (by omega) ((k : Int) + 2) (by omega))
                    clear hp
                    go_wp2_with fail
                    refine (HW.out _).mono ?_
                    rintro e wz ⟨rfl, hpz⟩
                    have HZ := Lib.hid (HQ.out.2.later hpz)
                    clear hpz
                    have hrow := HZ.out.res
                    go_wp2_with (refine wpList_store_row rfl 32 _ _ rfl g _ rfl rfl _ _ hrow (res4 _ rfl) rfl (by simp [Value.oneCell']) ?_)
                    refine bodyPost_ret (results_cell_row rfl _ _ g _ _ _ _ rfl (setRow_heap _ g _ _ _ _ hrow) Tryd.underlying32 rfl (res4 _ rfl)) rfl ?_
                    obtain ⟨sz, hz1, hz2⟩ := HF.out
                    exact .inl ⟨_, sz, rfl, hz1, hz2, past_row HZ.out.past (by rw [HZ.out.ge]; exact Nat.le_refl _) _⟩
                  | true =>
                    have HI := Lib.hid (isC (some ⟨b, o, none⟩) n c xs (k + 2) 34 true h6 (by omega) ((k : Int) + 2) (by omega))
                    have HQ3 := Lib.hid h6
                    have hk3 : k + 3 ≤ n := by have := (isB_yes h6).1; rw [HL.out] at this; exact this
                    obtain ⟨v, hV, hVE, hvl⟩ := vl_end (Vl.start (at_next HA6.out rfl h6)) (by rw [HL.out]; exact hk3)
                    have hvn : v ≤ n := by rw [← HL.out]; exact hvl
                    have HV := Lib.hid (And.intro hV hVE)
                    have HVP : Hid (k + 3 ≤ v ∧ v ≤ n) := Lib.hid ⟨hV.ge, hvn⟩
                    clear h6 hV hVE hvl hk3 hvn
                    go_wp2_with fail
                    refine (HI.out _ (HSL.out.past HQ.out.2.past)).mono ?_
                    rintro e wy ⟨rfl, rfl⟩
                    clear HI
                    go_wp2_with fail
                    go_loopg [7] (n + 1 - (k + 3)) (fun q s7 wx => ∃ m : Nat, k + 3 ≤ m ∧ m ≤ v ∧ q = n + 1 - m ∧ s7 = .int .i64 (m : Int) ∧ wy = wx)
                    case atStart => exact ⟨k + 3, Nat.le_refl _, HVP.out.1, rfl, by go_num, rfl⟩
                    case round =>
                      obtain ⟨m, hm1, hm2, hgk, rfl, rfl⟩ := hrel
                      have HGM := Lib.hid hgk
                      have HMP := Lib.hid hm1
                      clear hgk
                      by_cases hlt : m < v
                      · have hki : (m : Int) < (n : Int) := by have := HVP.out.2; omega
                        have hk0 : (0 : Int) ≤ (m : Int) := by omega
                        have HKT := Lib.hid hlt
                        have f0 := HC.out m (by omega)
                        rw [← Below.cell HQ.out.2.past (cell_lt f0)] at f0
                        have hx := HV.out.1.all m hm1 hlt
                        have HCX := HPl.out (xs.getD m 0)
                        rw [hx] at HCX
                        replace HCX := Lib.hid HCX
                        generalize xs.getD m 0 = x at f0 HCX
                        clear hx hlt hm1 hm2
                        go_wp2_with fail
                        refine (HCX.out _).mono ?_
                        rintro e w' ⟨rfl, rfl⟩
                        go_wp2_with fail
                        go_roundg (n + 1 - (m + 1))
                        case rel => exact ⟨m + 1, by have := HMP.out; omega, by have := HKT.out; omega, rfl, by go_num, rfl⟩
                        case measure => have := HGM.out; have := HKT.out; have := HVP.out.2; omega
                      · obtain rfl : m = v := by omega
                        have hpm : (k : Int) + 3 ≤ (m : Int) := by omega
                        have hmn : (m : Int) ≤ (n : Int) := by have := HVP.out.2; omega
                        clear hlt hm1 hm2
                        by_cases htn : m < n
                        · have hki : (m : Int) < (n : Int) := by omega
                          have hm0 : (0 : Int) ≤ (m : Int) := by omega
                          have HMN := Lib.hid htn
                          have f0 := HC.out m htn
                          rw [← Below.cell HQ.out.2.past (cell_lt f0)] at f0
                          have hx := HV.out.2 (by rw [HL.out]; exact htn)
                          have HCX := HPl.out (xs.getD m 0)
                          rw [hx] at HCX
                          replace HCX := Lib.hid HCX
                          generalize xs.getD m 0 = x at f0 HCX
                          clear hx htn
                          cases h7 : isB xs m 34 with
                          | false =>
                            have HI := Lib.hid (isC (some ⟨b, o, none⟩) n c xs m 34 false h7 (by omega) m rfl)
                            have HF : Hid (∃ s, readS xs 0 0 = (m, s) ∧ s ≠ 9) := Lib.hid ⟨7, HV.out.1.stop HXN.out HV.out.2 h7, by decide⟩
                            have hp : m ≤ n := by have := HVP.out.2; omega
                            clear h7
                            go_wp2_with fail
                            refine (HCX.out _).mono ?_
                            rintro e w' ⟨rfl, rfl⟩
                            go_wp2_with fail
                            refine (HI.out _ (HSL.out.past HQ.out.2.past)).mono ?_
                            rintro e wy ⟨rfl, rfl⟩
                            have HW := Lib.hid (wrC (some ⟨b, o, none⟩) n c (m) (by omega) (by omega) ((m : Int)) (by omega))
                            clear hp
                            go_wp2_with fail
                            refine (HW.out _).mono ?_
                            rintro e wz ⟨rfl, hpz⟩
                            have HZ := Lib.hid (HQ.out.2.later hpz)
                            clear hpz
                            have hrow := HZ.out.res
                            go_wp2_with (refine wpList_store_row rfl 32 _ _ rfl g _ rfl rfl _ _ hrow (res4 _ rfl) rfl (by simp [Value.oneCell']) ?_)
                            refine bodyPost_ret (results_cell_row rfl _ _ g _ _ _ _ rfl (setRow_heap _ g _ _ _ _ hrow) Tryd.underlying32 rfl (res4 _ rfl)) rfl ?_
                            obtain ⟨sz, hz1, hz2⟩ := HF.out
                            exact .inl ⟨_, sz, rfl, hz1, hz2, past_row HZ.out.past (by rw [HZ.out.ge]; exact Nat.le_refl _) _⟩
                          | true =>
                            have HI := Lib.hid (isC (some ⟨b, o, none⟩) n c xs m 34 true h7 (by omega) m rfl)
                            have HQ4 := Lib.hid h7
                            clear h7
                            go_wp2_with fail
                            refine (HCX.out _).mono ?_
                            rintro e w' ⟨rfl, rfl⟩
                            go_wp2_with fail
                            refine (HI.out _ (HSL.out.past HQ.out.2.past)).mono ?_
                            rintro e wy ⟨rfl, rfl⟩
                            clear HCX HI f0
                            have HPR : Hid (looseP (prAt xs p k m) ∧ xs.take (m + 1) = preI acc ++ pI (prAt xs p k m)) := Lib.hid (pr_facts HQ.out.1 HQ0.out HN.out.1 HKE.out HQ1.out HQ2.out HQ3.out HV.out.1 HQ4.out)
                            go_upto_region 25 with (fail)
                            obtain ⟨v0, u0, ho, hv, hu⟩ := HQ.out.2.out
                            have HO := Lib.hid (And.intro ho (And.intro hv hu))
                            obtain ⟨wd, hwd⟩ : ∃ wd, wd = wy.drew := ⟨_, rfl⟩
                            have HD : Hid (Past wy wd) := Lib.hid (by rw [hwd]; exact Past.drewN (Below.refl _ wy) 1)
                            have HWD := Lib.hid hwd
                            clear hwd
                            have HSY := HSL.out.past (HQ.out.2.past.trans' HD.out)
                            have HCY : ∀ i, i < n → wd.cell? ⟨b, o + i, none⟩ = some (.int .u8 (xs.getD i 0)) := fun i hi => by
                              have := HC.out i hi
                              rw [← Below.cell (HQ.out.2.past.trans' HD.out) (cell_lt this)] at this
                              exact this
                            have s1 := sl_sub HSY HCY (p + 1) (k - (p + 1)) (by have := HTP.out; omega)
                            have s2 := sl_sub HSY HCY (k + 3) (m - (k + 3)) (by have := HVP.out; omega)
                            have HCV : Hid (∀ W, Past wd W → (convert 22 9 (.slice (some ⟨b, o + (p + 1), none⟩) (k - (p + 1)) (c - (p + 1)))).run Tryd.prog W = .ok (.string (prAt xs p k m).1) W ∧ (convert 22 9 (.slice (some ⟨b, o + (k + 3), none⟩) (m - (k + 3)) (c - (k + 3)))).run Tryd.prog W = .ok (.string (prAt xs p k m).2) W) := Lib.hid fun W hW =>
                              ⟨conv_sl Tryd.underlying22 Tryd.underlying5 Tryd.underlying9 (s1.past hW), conv_sl Tryd.underlying22 Tryd.underlying5 Tryd.underlying9 (s2.past hW)⟩
                            obtain ⟨x0, y0⟩ : wd.cell? ⟨g + 1, 0, none⟩ = some v0 ∧ True := ⟨(ho.past HD.out).cell 0, trivial⟩
                            have ⟨hco1, hco2⟩ := HCV.out wd (Below.refl _ _)
                            have hlp : acc.length ≤ 1000000 := by have h1 := pre_ge acc; have h2 := HQ.out.1.pos; have h3 := HPN.out; omega
                            obtain ⟨pr, hpr⟩ : ∃ pr, prAt xs p k m = pr := ⟨_, rfl⟩
                            rw [hpr] at HPR hco1 hco2
                            obtain ⟨S1, S2⟩ := pr
                            simp only at hco1 hco2
                            obtain ⟨ti, hi, hz, hsz, hby⟩ := info_parts infoR
                            have HI := Lib.hid (And.intro hi (And.intro hz (And.intro hsz hby)))
                            clear hi hz hsz hby
                            have hHO : Past wy (wd.alloc (.cells #[.string S1, .string S2] 45)) := HD.out.trans' (past_alloc8 _ _)
                            have HA := Lib.hid hHO
                            have xa : (wd.alloc (.cells #[.string S1, .string S2] 45)).cell? ⟨g + 1, 0, none⟩ = some v0 := (ho.past hHO).cell 0
                            have HOA : Hid ((wd.alloc (.cells #[.string S1, .string S2] 45)).ownsRow (g + 2) 45 2 v0 acc.length (pcells acc)) := Lib.hid (own_past hv hHO)
                            have HB1 : Hid (acc.length + 1 ≤ maxLen ∧ (acc.length + 1) * 32 ≤ 140737488355328 ∧ g + 2 ≤ (wd.alloc (.cells #[.string S1, .string S2] 45)).heap.size) := Lib.hid ⟨by unfold maxLen; omega, by omega, Nat.le_trans (show g + 2 ≤ wy.heap.size from ho.lt) hHO.size⟩
                            have HNW : Hid (∀ (j : Nat) u, [Value.string S1, Value.string S2][j]? = some u → (wd.alloc (.cells #[.string S1, .string S2] 45)).cell? ((⟨wd.heap.size, 0, none⟩ : Addr).add j) = some u) := Lib.hid fun j u hj => by
                              rw [add_none, (Row.new wd _ _).cell]
                              match j, hj with
                              | 0, hj => exact hj
                              | 1, hj => exact hj
                            have hcap := HSL.out.cap
                            have hkc : k ≤ c := by omega
                            have hmc : m ≤ c := by omega
                            have hcp : ¬ c = p + 1 := by omega
                            have hck : ¬ c = k + 3 := by omega
                            have hpn0 : (0 : Int) ≤ (p : Int) + 1 := by omega
                            have hk30 : (0 : Int) ≤ (k : Int) + 3 := by omega
                            have hw3 : IntKind.i64.wrap ((k : Int) + 3) = (k : Int) + 3 := by rw [IntKind.wrap_i64]; omega
                            have ht3 : ((k : Int) + 3).toNat = k + 3 := by omega
                            clear s1 s2 HSY HCY ho hv hu hHO hcap
                            go_cut [95] from 18 to 134 (fun s95 wx => Hid (Half w g acc (S1, S2) wx))
                            case first =>
                              refine wp_region_any (by kernel_rfl) ?_
                              change wpAny _ _ _ _ _ _ _ (World.drew _)
                              rw [← HWD.out]
                              clear HWD
                              refine wpAny_take (i := 0) (v := .pointer (some ⟨g + 1, 0, none⟩)) rfl (by kernel_rfl) (by kernel_rfl) (by kernel_rfl) (fun _ _ _ h => h) (Or.inl ⟨by kernel_rfl, fun w => by kernel_rfl⟩) ?_; (try dsimp only [Act.put])
                              refine wpAny_take (i := 2) (v := .slice (some ⟨b, o, none⟩) n c) rfl (by kernel_rfl) (by kernel_rfl) (by kernel_rfl) (fun _ _ _ h => h) (Or.inl ⟨by kernel_rfl, fun w => by kernel_rfl⟩) ?_; (try dsimp only [Act.put])
                              refine wpAny_take (i := 3) (v := .int .i64 ((p : Int) + 1)) rfl (by kernel_rfl) (by kernel_rfl) (by kernel_rfl) (fun _ _ _ h => h) (Or.inl ⟨by kernel_rfl, fun w => by kernel_rfl⟩) ?_; (try dsimp only [Act.put])
                              refine wpAny_take (i := 4) (v := .int .i64 (k : Int)) rfl (by kernel_rfl) (by kernel_rfl) (by kernel_rfl) (fun _ _ _ h => h) (Or.inl ⟨by kernel_rfl, fun w => by kernel_rfl⟩) ?_; (try dsimp only [Act.put])
                              refine wpAny_take (i := 5) (v := .slice (some ⟨b, o + (p + 1), none⟩) (k - (p + 1)) (c - (p + 1))) rfl (by kernel_rfl) (by kernel_rfl) (by kernel_rfl) (fun _ _ _ h => h) (Or.inl ⟨by kernel_rfl, fun w => by go_simp⟩) ?_; (try dsimp only [Act.put])
                              refine wpAny_take (i := 7) (v := .slice (some ⟨b, o, none⟩) n c) rfl (by kernel_rfl) (by kernel_rfl) (by kernel_rfl) (fun _ _ _ h => h) (Or.inl ⟨by kernel_rfl, fun w => by kernel_rfl⟩) ?_; (try dsimp only [Act.put])
                              refine wpAny_take (i := 8) (v := .int .i64 (k : Int)) rfl (by kernel_rfl) (by kernel_rfl) (by kernel_rfl) (fun _ _ _ h => h) (Or.inl ⟨by kernel_rfl, fun w => by kernel_rfl⟩) ?_; (try dsimp only [Act.put])
                              refine wpAny_take (i := 9) (v := .int .i64 ((k : Int) + 3)) rfl (by kernel_rfl) (by kernel_rfl) (by kernel_rfl) (fun _ _ _ h => h) (Or.inl ⟨by kernel_rfl, fun w => by go_simp⟩) ?_; (try dsimp only [Act.put])
                              refine wpAny_take (i := 10) (v := .int .i64 (m : Int)) rfl (by kernel_rfl) (by kernel_rfl) (by kernel_rfl) (fun _ _ _ h => h) (Or.inl ⟨by kernel_rfl, fun w => by kernel_rfl⟩) ?_; (try dsimp only [Act.put])
                              refine wpAny_take (i := 11) (v := .slice (some ⟨b, o + (k + 3), none⟩) (m - (k + 3)) (c - (k + 3))) rfl (by kernel_rfl) (by kernel_rfl) (by kernel_rfl) (fun _ _ _ h => h) (Or.inl ⟨by kernel_rfl, fun w => by go_simp⟩) ?_; (try dsimp only [Act.put])
                              refine wpAny_ready (rs := [1, 6, 12]) (by kernel_rfl) (by simp) ?_
                              refine AllReady.cons rfl (fun K hK => ?_) (AllReady.cons rfl (fun K hK => ?_) (AllReady.cons rfl (fun K hK => ?_) (AllReady.nil)))
                              · go_simp
                                refine hK _ _ ?_
                                clear hK K
                                try dsimp only [Act.put]
                                refine wpAny_ready (rs := [6, 12]) (by kernel_rfl) (by simp) ?_
                                refine AllReady.cons rfl (fun K hK => ?_) (AllReady.cons rfl (fun K hK => ?_) (AllReady.nil))
                                · go_simp
                                  refine hK _ _ ?_
                                  clear hK K
                                  try dsimp only [Act.put]
                                  refine wpAny_ready (rs := [12]) (by kernel_rfl) (by simp) ?_
                                  refine AllReady.cons rfl (fun K hK => ?_) (AllReady.nil)
                                  · go_simp
                                    refine hK _ _ ?_
                                    clear hK K
                                    try dsimp only [Act.put]
                                    refine wpAny_take (i := 13) (v := .agg #[.string S1, .string S2]) rfl (by kernel_rfl) (by kernel_rfl) (by kernel_rfl) (fun _ _ _ h => h) (Or.inl ⟨by kernel_rfl, fun w => by kernel_rfl⟩) ?_; (try dsimp only [Act.put])
                                    refine wpAny_ready (rs := [14]) (by kernel_rfl) (by simp) ?_
                                    refine AllReady.cons rfl (fun K hK => ?_) (AllReady.nil)
                                    · go_simp
                                      refine hK _ _ ?_
                                      clear hK K
                                      try dsimp only [Act.put]
                                      refine wpAny_ready (rs := [15]) (by kernel_rfl) (by simp) ?_
                                      refine AllReady.cons rfl (fun K hK => ?_) AllReady.nil
                                      refine if_wanted (by kernel_rfl) ?_
                                      refine wp_append_own _ _ _ 29 rfl (g + 2) 45 ti _ 2 32 Tryd.underlying29 HI.out.1 HI.out.2.1 HI.out.2.2.1 HI.out.2.2.2 rfl (by decide) _ acc.length _ rfl HOA.out ⟨wd.heap.size, 0, none⟩ 1 1 [.string S1, .string S2] rfl rfl HNW.out (by simp [Value.oneCell']) HB1.out.1 HB1.out.2.1 HB1.out.2.2 ?_
                                      intro v' w' hown hgrow _
                                      obtain ⟨A9, c9, rfl⟩ := own_slice hown
                                      obtain ⟨z0, z1, HH⟩ := HQ.out.2.push HO.out.1 HO.out.2.1 HO.out.2.2 HA.out (p := (S1, S2)) (by rw [pcells_snoc]; exact hown) hgrow
                                      replace HH := Lib.hid HH
                                      refine hK _ _ ?_
                                      clear hK K hown hgrow
                                      try dsimp only [Act.put]
                                      refine wpAny_take (i := 16) (v := .pointer (some ⟨g + 1, 0, none⟩)) rfl (by kernel_rfl) (by kernel_rfl) (by kernel_rfl) (fun _ _ _ h => h) (Or.inl ⟨by kernel_rfl, fun w => by kernel_rfl⟩) ?_; (try dsimp only [Act.put])
                                      refine wpAny_ready (rs := [17]) (by kernel_rfl) (by simp) ?_
                                      refine AllReady.cons rfl (fun K hK => ?_) AllReady.nil
                                      go_simp
                                      refine hK _ _ ?_
                                      clear hK K
                                      try dsimp only [Act.put]
                                      refine wpAny_done (by kernel_rfl) ?_ _
                                      go_simp
                                      go_wp2_with fail
                                      go_meet
                                      case rel => exact HH
                                · go_simp
                                  refine hK _ _ ?_
                                  clear hK K
                                  try dsimp only [Act.put]
                                  refine wpAny_ready (rs := [6]) (by kernel_rfl) (by simp) ?_
                                  refine AllReady.cons rfl (fun K hK => ?_) (AllReady.nil)
                                  · go_simp
                                    refine hK _ _ ?_
                                    clear hK K
                                    try dsimp only [Act.put]
                                    refine wpAny_take (i := 13) (v := .agg #[.string S1, .string S2]) rfl (by kernel_rfl) (by kernel_rfl) (by kernel_rfl) (fun _ _ _ h => h) (Or.inl ⟨by kernel_rfl, fun w => by kernel_rfl⟩) ?_; (try dsimp only [Act.put])
                                    refine wpAny_ready (rs := [14]) (by kernel_rfl) (by simp) ?_
                                    refine AllReady.cons rfl (fun K hK => ?_) (AllReady.nil)
                                    · go_simp
                                      refine hK _ _ ?_
                                      clear hK K
                                      try dsimp only [Act.put]
                                      refine wpAny_ready (rs := [15]) (by kernel_rfl) (by simp) ?_
                                      refine AllReady.cons rfl (fun K hK => ?_) AllReady.nil
                                      refine if_wanted (by kernel_rfl) ?_
                                      refine wp_append_own _ _ _ 29 rfl (g + 2) 45 ti _ 2 32 Tryd.underlying29 HI.out.1 HI.out.2.1 HI.out.2.2.1 HI.out.2.2.2 rfl (by decide) _ acc.length _ rfl HOA.out ⟨wd.heap.size, 0, none⟩ 1 1 [.string S1, .string S2] rfl rfl HNW.out (by simp [Value.oneCell']) HB1.out.1 HB1.out.2.1 HB1.out.2.2 ?_
                                      intro v' w' hown hgrow _
                                      obtain ⟨A9, c9, rfl⟩ := own_slice hown
                                      obtain ⟨z0, z1, HH⟩ := HQ.out.2.push HO.out.1 HO.out.2.1 HO.out.2.2 HA.out (p := (S1, S2)) (by rw [pcells_snoc]; exact hown) hgrow
                                      replace HH := Lib.hid HH
                                      refine hK _ _ ?_
                                      clear hK K hown hgrow
                                      try dsimp only [Act.put]
                                      refine wpAny_take (i := 16) (v := .pointer (some ⟨g + 1, 0, none⟩)) rfl (by kernel_rfl) (by kernel_rfl) (by kernel_rfl) (fun _ _ _ h => h) (Or.inl ⟨by kernel_rfl, fun w => by kernel_rfl⟩) ?_; (try dsimp only [Act.put])
                                      refine wpAny_ready (rs := [17]) (by kernel_rfl) (by simp) ?_
                                      refine AllReady.cons rfl (fun K hK => ?_) AllReady.nil
                                      go_simp
                                      refine hK _ _ ?_
                                      clear hK K
                                      try dsimp only [Act.put]
                                      refine wpAny_done (by kernel_rfl) ?_ _
                                      go_simp
                                      go_wp2_with fail
                                      go_meet
                                      case rel => exact HH
                              · go_simp
                                refine hK _ _ ?_
                                clear hK K
                                try dsimp only [Act.put]
                                refine wpAny_ready (rs := [1, 12]) (by kernel_rfl) (by simp) ?_
                                refine AllReady.cons rfl (fun K hK => ?_) (AllReady.cons rfl (fun K hK => ?_) (AllReady.nil))
                                · go_simp
                                  refine hK _ _ ?_
                                  clear hK K
                                  try dsimp only [Act.put]
                                  refine wpAny_ready (rs := [12]) (by kernel_rfl) (by simp) ?_
                                  refine AllReady.cons rfl (fun K hK => ?_) (AllReady.nil)
                                  · go_simp
                                    refine hK _ _ ?_
                                    clear hK K
                                    try dsimp only [Act.put]
                                    refine wpAny_take (i := 13) (v := .agg #[.string S1, .string S2]) rfl (by kernel_rfl) (by kernel_rfl) (by kernel_rfl) (fun _ _ _ h => h) (Or.inl ⟨by kernel_rfl, fun w => by kernel_rfl⟩) ?_; (try dsimp only [Act.put])
                                    refine wpAny_ready (rs := [14]) (by kernel_rfl) (by simp) ?_
                                    refine AllReady.cons rfl (fun K hK => ?_) (AllReady.nil)
                                    · go_simp
                                      refine hK _ _ ?_
                                      clear hK K
                                      try dsimp only [Act.put]
                                      refine wpAny_ready (rs := [15]) (by kernel_rfl) (by simp) ?_
                                      refine AllReady.cons rfl (fun K hK => ?_) AllReady.nil
                                      refine if_wanted (by kernel_rfl) ?_
                                      refine wp_append_own _ _ _ 29 rfl (g + 2) 45 ti _ 2 32 Tryd.underlying29 HI.out.1 HI.out.2.1 HI.out.2.2.1 HI.out.2.2.2 rfl (by decide) _ acc.length _ rfl HOA.out ⟨wd.heap.size, 0, none⟩ 1 1 [.string S1, .string S2] rfl rfl HNW.out (by simp [Value.oneCell']) HB1.out.1 HB1.out.2.1 HB1.out.2.2 ?_
                                      intro v' w' hown hgrow _
                                      obtain ⟨A9, c9, rfl⟩ := own_slice hown
                                      obtain ⟨z0, z1, HH⟩ := HQ.out.2.push HO.out.1 HO.out.2.1 HO.out.2.2 HA.out (p := (S1, S2)) (by rw [pcells_snoc]; exact hown) hgrow
                                      replace HH := Lib.hid HH
                                      refine hK _ _ ?_
                                      clear hK K hown hgrow
                                      try dsimp only [Act.put]
                                      refine wpAny_take (i := 16) (v := .pointer (some ⟨g + 1, 0, none⟩)) rfl (by kernel_rfl) (by kernel_rfl) (by kernel_rfl) (fun _ _ _ h => h) (Or.inl ⟨by kernel_rfl, fun w => by kernel_rfl⟩) ?_; (try dsimp only [Act.put])
                                      refine wpAny_ready (rs := [17]) (by kernel_rfl) (by simp) ?_
                                      refine AllReady.cons rfl (fun K hK => ?_) AllReady.nil
                                      go_simp
                                      refine hK _ _ ?_
                                      clear hK K
                                      try dsimp only [Act.put]
                                      refine wpAny_done (by kernel_rfl) ?_ _
                                      go_simp
                                      go_wp2_with fail
                                      go_meet
                                      case rel => exact HH
                                · go_simp
                                  refine hK _ _ ?_
                                  clear hK K
                                  try dsimp only [Act.put]
                                  refine wpAny_take (i := 13) (v := .agg #[.string S1, .string S2]) rfl (by kernel_rfl) (by kernel_rfl) (by kernel_rfl) (fun _ _ _ h => h) (Or.inl ⟨by kernel_rfl, fun w => by kernel_rfl⟩) ?_; (try dsimp only [Act.put])
                                  refine wpAny_ready (rs := [1, 14]) (by kernel_rfl) (by simp) ?_
                                  refine AllReady.cons rfl (fun K hK => ?_) (AllReady.cons rfl (fun K hK => ?_) (AllReady.nil))
                                  · go_simp
                                    refine hK _ _ ?_
                                    clear hK K
                                    try dsimp only [Act.put]
                                    refine wpAny_ready (rs := [14]) (by kernel_rfl) (by simp) ?_
                                    refine AllReady.cons rfl (fun K hK => ?_) (AllReady.nil)
                                    · go_simp
                                      refine hK _ _ ?_
                                      clear hK K
                                      try dsimp only [Act.put]
                                      refine wpAny_ready (rs := [15]) (by kernel_rfl) (by simp) ?_
                                      refine AllReady.cons rfl (fun K hK => ?_) AllReady.nil
                                      refine if_wanted (by kernel_rfl) ?_
                                      refine wp_append_own _ _ _ 29 rfl (g + 2) 45 ti _ 2 32 Tryd.underlying29 HI.out.1 HI.out.2.1 HI.out.2.2.1 HI.out.2.2.2 rfl (by decide) _ acc.length _ rfl HOA.out ⟨wd.heap.size, 0, none⟩ 1 1 [.string S1, .string S2] rfl rfl HNW.out (by simp [Value.oneCell']) HB1.out.1 HB1.out.2.1 HB1.out.2.2 ?_
                                      intro v' w' hown hgrow _
                                      obtain ⟨A9, c9, rfl⟩ := own_slice hown
                                      obtain ⟨z0, z1, HH⟩ := HQ.out.2.push HO.out.1 HO.out.2.1 HO.out.2.2 HA.out (p := (S1, S2)) (by rw [pcells_snoc]; exact hown) hgrow
                                      replace HH := Lib.hid HH
                                      refine hK _ _ ?_
                                      clear hK K hown hgrow
                                      try dsimp only [Act.put]
                                      refine wpAny_take (i := 16) (v := .pointer (some ⟨g + 1, 0, none⟩)) rfl (by kernel_rfl) (by kernel_rfl) (by kernel_rfl) (fun _ _ _ h => h) (Or.inl ⟨by kernel_rfl, fun w => by kernel_rfl⟩) ?_; (try dsimp only [Act.put])
                                      refine wpAny_ready (rs := [17]) (by kernel_rfl) (by simp) ?_
                                      refine AllReady.cons rfl (fun K hK => ?_) AllReady.nil
                                      go_simp
                                      refine hK _ _ ?_
                                      clear hK K
                                      try dsimp only [Act.put]
                                      refine wpAny_done (by kernel_rfl) ?_ _
                                      go_simp
                                      go_wp2_with fail
                                      go_meet
                                      case rel => exact HH
                                  · go_simp
                                    refine hK _ _ ?_
                                    clear hK K
                                    try dsimp only [Act.put]
                                    refine wpAny_ready (rs := [1]) (by kernel_rfl) (by simp) ?_
                                    refine AllReady.cons rfl (fun K hK => ?_) (AllReady.nil)
                                    · go_simp
                                      refine hK _ _ ?_
                                      clear hK K
                                      try dsimp only [Act.put]
                                      refine wpAny_ready (rs := [15]) (by kernel_rfl) (by simp) ?_
                                      refine AllReady.cons rfl (fun K hK => ?_) AllReady.nil
                                      refine if_wanted (by kernel_rfl) ?_
                                      refine wp_append_own _ _ _ 29 rfl (g + 2) 45 ti _ 2 32 Tryd.underlying29 HI.out.1 HI.out.2.1 HI.out.2.2.1 HI.out.2.2.2 rfl (by decide) _ acc.length _ rfl HOA.out ⟨wd.heap.size, 0, none⟩ 1 1 [.string S1, .string S2] rfl rfl HNW.out (by simp [Value.oneCell']) HB1.out.1 HB1.out.2.1 HB1.out.2.2 ?_
                                      intro v' w' hown hgrow _
                                      obtain ⟨A9, c9, rfl⟩ := own_slice hown
                                      obtain ⟨z0, z1, HH⟩ := HQ.out.2.push HO.out.1 HO.out.2.1 HO.out.2.2 HA.out (p := (S1, S2)) (by rw [pcells_snoc]; exact hown) hgrow
                                      replace HH := Lib.hid HH
                                      refine hK _ _ ?_
                                      clear hK K hown hgrow
                                      try dsimp only [Act.put]
                                      refine wpAny_take (i := 16) (v := .pointer (some ⟨g + 1, 0, none⟩)) rfl (by kernel_rfl) (by kernel_rfl) (by kernel_rfl) (fun _ _ _ h => h) (Or.inl ⟨by kernel_rfl, fun w => by kernel_rfl⟩) ?_; (try dsimp only [Act.put])
                                      refine wpAny_ready (rs := [17]) (by kernel_rfl) (by simp) ?_
                                      refine AllReady.cons rfl (fun K hK => ?_) AllReady.nil
                                      go_simp
                                      refine hK _ _ ?_
                                      clear hK K
                                      try dsimp only [Act.put]
                                      refine wpAny_done (by kernel_rfl) ?_ _
                                      go_simp
                                      go_wp2_with fail
                                      go_meet
                                      case rel => exact HH
                              · go_simp
                                refine hK _ _ ?_
                                clear hK K
                                try dsimp only [Act.put]
                                refine wpAny_ready (rs := [1, 6]) (by kernel_rfl) (by simp) ?_
                                refine AllReady.cons rfl (fun K hK => ?_) (AllReady.cons rfl (fun K hK => ?_) (AllReady.nil))
                                · go_simp
                                  refine hK _ _ ?_
                                  clear hK K
                                  try dsimp only [Act.put]
                                  refine wpAny_ready (rs := [6]) (by kernel_rfl) (by simp) ?_
                                  refine AllReady.cons rfl (fun K hK => ?_) (AllReady.nil)
                                  · go_simp
                                    refine hK _ _ ?_
                                    clear hK K
                                    try dsimp only [Act.put]
                                    refine wpAny_take (i := 13) (v := .agg #[.string S1, .string S2]) rfl (by kernel_rfl) (by kernel_rfl) (by kernel_rfl) (fun _ _ _ h => h) (Or.inl ⟨by kernel_rfl, fun w => by kernel_rfl⟩) ?_; (try dsimp only [Act.put])
                                    refine wpAny_ready (rs := [14]) (by kernel_rfl) (by simp) ?_
                                    refine AllReady.cons rfl (fun K hK => ?_) (AllReady.nil)
                                    · go_simp
                                      refine hK _ _ ?_
                                      clear hK K
                                      try dsimp only [Act.put]
                                      refine wpAny_ready (rs := [15]) (by kernel_rfl) (by simp) ?_
                                      refine AllReady.cons rfl (fun K hK => ?_) AllReady.nil
                                      refine if_wanted (by kernel_rfl) ?_
                                      refine wp_append_own _ _ _ 29 rfl (g + 2) 45 ti _ 2 32 Tryd.underlying29 HI.out.1 HI.out.2.1 HI.out.2.2.1 HI.out.2.2.2 rfl (by decide) _ acc.length _ rfl HOA.out ⟨wd.heap.size, 0, none⟩ 1 1 [.string S1, .string S2] rfl rfl HNW.out (by simp [Value.oneCell']) HB1.out.1 HB1.out.2.1 HB1.out.2.2 ?_
                                      intro v' w' hown hgrow _
                                      obtain ⟨A9, c9, rfl⟩ := own_slice hown
                                      obtain ⟨z0, z1, HH⟩ := HQ.out.2.push HO.out.1 HO.out.2.1 HO.out.2.2 HA.out (p := (S1, S2)) (by rw [pcells_snoc]; exact hown) hgrow
                                      replace HH := Lib.hid HH
                                      refine hK _ _ ?_
                                      clear hK K hown hgrow
                                      try dsimp only [Act.put]
                                      refine wpAny_take (i := 16) (v := .pointer (some ⟨g + 1, 0, none⟩)) rfl (by kernel_rfl) (by kernel_rfl) (by kernel_rfl) (fun _ _ _ h => h) (Or.inl ⟨by kernel_rfl, fun w => by kernel_rfl⟩) ?_; (try dsimp only [Act.put])
                                      refine wpAny_ready (rs := [17]) (by kernel_rfl) (by simp) ?_
                                      refine AllReady.cons rfl (fun K hK => ?_) AllReady.nil
                                      go_simp
                                      refine hK _ _ ?_
                                      clear hK K
                                      try dsimp only [Act.put]
                                      refine wpAny_done (by kernel_rfl) ?_ _
                                      go_simp
                                      go_wp2_with fail
                                      go_meet
                                      case rel => exact HH
                                · go_simp
                                  refine hK _ _ ?_
                                  clear hK K
                                  try dsimp only [Act.put]
                                  refine wpAny_take (i := 13) (v := .agg #[.string S1, .string S2]) rfl (by kernel_rfl) (by kernel_rfl) (by kernel_rfl) (fun _ _ _ h => h) (Or.inl ⟨by kernel_rfl, fun w => by kernel_rfl⟩) ?_; (try dsimp only [Act.put])
                                  refine wpAny_ready (rs := [1, 14]) (by kernel_rfl) (by simp) ?_
                                  refine AllReady.cons rfl (fun K hK => ?_) (AllReady.cons rfl (fun K hK => ?_) (AllReady.nil))
                                  · go_simp
                                    refine hK _ _ ?_
                                    clear hK K
                                    try dsimp only [Act.put]
                                    refine wpAny_ready (rs := [14]) (by kernel_rfl) (by simp) ?_
                                    refine AllReady.cons rfl (fun K hK => ?_) (AllReady.nil)
                                    · go_simp
                                      refine hK _ _ ?_
                                      clear hK K
                                      try dsimp only [Act.put]
                                      refine wpAny_ready (rs := [15]) (by kernel_rfl) (by simp) ?_
                                      refine AllReady.cons rfl (fun K hK => ?_) AllReady.nil
                                      refine if_wanted (by kernel_rfl) ?_
                                      refine wp_append_own _ _ _ 29 rfl (g + 2) 45 ti _ 2 32 Tryd.underlying29 HI.out.1 HI.out.2.1 HI.out.2.2.1 HI.out.2.2.2 rfl (by decide) _ acc.length _ rfl HOA.out ⟨wd.heap.size, 0, none⟩ 1 1 [.string S1, .string S2] rfl rfl HNW.out (by simp [Value.oneCell']) HB1.out.1 HB1.out.2.1 HB1.out.2.2 ?_
                                      intro v' w' hown hgrow _
                                      obtain ⟨A9, c9, rfl⟩ := own_slice hown
                                      obtain ⟨z0, z1, HH⟩ := HQ.out.2.push HO.out.1 HO.out.2.1 HO.out.2.2 HA.out (p := (S1, S2)) (by rw [pcells_snoc]; exact hown) hgrow
                                      replace HH := Lib.hid HH
                                      refine hK _ _ ?_
                                      clear hK K hown hgrow
                                      try dsimp only [Act.put]
                                      refine wpAny_take (i := 16) (v := .pointer (some ⟨g + 1, 0, none⟩)) rfl (by kernel_rfl) (by kernel_rfl) (by kernel_rfl) (fun _ _ _ h => h) (Or.inl ⟨by kernel_rfl, fun w => by kernel_rfl⟩) ?_; (try dsimp only [Act.put])
                                      refine wpAny_ready (rs := [17]) (by kernel_rfl) (by simp) ?_
                                      refine AllReady.cons rfl (fun K hK => ?_) AllReady.nil
                                      go_simp
                                      refine hK _ _ ?_
                                      clear hK K
                                      try dsimp only [Act.put]
                                      refine wpAny_done (by kernel_rfl) ?_ _
                                      go_simp
                                      go_wp2_with fail
                                      go_meet
                                      case rel => exact HH
                                  · go_simp
                                    refine hK _ _ ?_
                                    clear hK K
                                    try dsimp only [Act.put]
                                    refine wpAny_ready (rs := [1]) (by kernel_rfl) (by simp) ?_
                                    refine AllReady.cons rfl (fun K hK => ?_) (AllReady.nil)
                                    · go_simp
                                      refine hK _ _ ?_
                                      clear hK K
                                      try dsimp only [Act.put]
                                      refine wpAny_ready (rs := [15]) (by kernel_rfl) (by simp) ?_
                                      refine AllReady.cons rfl (fun K hK => ?_) AllReady.nil
                                      refine if_wanted (by kernel_rfl) ?_
                                      refine wp_append_own _ _ _ 29 rfl (g + 2) 45 ti _ 2 32 Tryd.underlying29 HI.out.1 HI.out.2.1 HI.out.2.2.1 HI.out.2.2.2 rfl (by decide) _ acc.length _ rfl HOA.out ⟨wd.heap.size, 0, none⟩ 1 1 [.string S1, .string S2] rfl rfl HNW.out (by simp [Value.oneCell']) HB1.out.1 HB1.out.2.1 HB1.out.2.2 ?_
                                      intro v' w' hown hgrow _
                                      obtain ⟨A9, c9, rfl⟩ := own_slice hown
                                      obtain ⟨z0, z1, HH⟩ := HQ.out.2.push HO.out.1 HO.out.2.1 HO.out.2.2 HA.out (p := (S1, S2)) (by rw [pcells_snoc]; exact hown) hgrow
                                      replace HH := Lib.hid HH
                                      refine hK _ _ ?_
                                      clear hK K hown hgrow
                                      try dsimp only [Act.put]
                                      refine wpAny_take (i := 16) (v := .pointer (some ⟨g + 1, 0, none⟩)) rfl (by kernel_rfl) (by kernel_rfl) (by kernel_rfl) (fun _ _ _ h => h) (Or.inl ⟨by kernel_rfl, fun w => by kernel_rfl⟩) ?_; (try dsimp only [Act.put])
                                      refine wpAny_ready (rs := [17]) (by kernel_rfl) (by simp) ?_
                                      refine AllReady.cons rfl (fun K hK => ?_) AllReady.nil
                                      go_simp
                                      refine hK _ _ ?_
                                      clear hK K
                                      try dsimp only [Act.put]
                                      refine wpAny_done (by kernel_rfl) ?_ _
                                      go_simp
                                      go_wp2_with fail
                                      go_meet
                                      case rel => exact HH
                            case rest =>
                              clear HOA HB1 HNW HA xa x0 hco1 hco2 HCV HO HI
                              obtain ⟨v1, u1, ho, hv, hu⟩ := hcut.out.out
                              have HO := Lib.hid (And.intro ho (And.intro hv hu))
                              have x1 : wc.cell? ⟨g + 1, 1, none⟩ = some u1 := ho.cell 1
                              obtain ⟨tj, hi, hz, hsz, hby⟩ := info_parts infoI
                              have HI := Lib.hid (And.intro hi (And.intro hz (And.intro hsz hby)))
                              have hnm : nmP acc acc.length = p + 1 := by
                                have := pre_len acc acc.length (Nat.le_refl _)
                                rw [List.take_length] at this
                                rw [← this, ← HQ.out.1.pos]
                              have HNM := Lib.hid hnm
                              have hHO : Past wc (wc.alloc (.cells #[.int .i64 ((p : Int) + 1)] 3)) := past_alloc8 _ _
                              have HA := Lib.hid hHO
                              have HOA : Hid ((wc.alloc (.cells #[.int .i64 ((p : Int) + 1)] 3)).ownsRow (g + 2) 3 1 u1 acc.length (nms acc acc.length)) := Lib.hid (own_past hu hHO)
                              have HB1 : Hid (acc.length + 1 ≤ maxLen ∧ (acc.length + 1) * 8 ≤ 140737488355328 ∧ g + 2 ≤ (wc.alloc (.cells #[.int .i64 ((p : Int) + 1)] 3)).heap.size) := Lib.hid ⟨by unfold maxLen; omega, by omega, Nat.le_trans (show g + 2 ≤ wc.heap.size from ho.lt) hHO.size⟩
                              have HNW : Hid (∀ (j : Nat) u, [Value.int .i64 ((p : Int) + 1)][j]? = some u → (wc.alloc (.cells #[.int .i64 ((p : Int) + 1)] 3)).cell? ((⟨wc.heap.size, 0, none⟩ : Addr).add j) = some u) := Lib.hid fun j u hj => by
                                rw [add_none, (Row.new wc _ _).cell]
                                match j, hj with
                                | 0, hj => exact hj
                              have HHC := Lib.hid hcut.out
                              clear hi hz hsz hby hnm hHO ho hv hu hcut hlp
                              go_wp2_with (at_builtin; refine wpList_append_own _ rfl _ _ 30 rfl (g + 2) 3 tj _ 1 8 Tryd.underlying30 HI.out.1 HI.out.2.1 HI.out.2.2.1 HI.out.2.2.2 rfl (by decide) _ acc.length _ rfl HOA.out ⟨wc.heap.size, 0, none⟩ 1 1 [.int .i64 ((p : Int) + 1)] rfl rfl HNW.out (by simp [Value.oneCell']) HB1.out.1 HB1.out.2.1 HB1.out.2.2 ?_; intro v' w' hown hgrow _; obtain ⟨A9, c9, rfl⟩ := own_slice hown; obtain ⟨z0, z1, HH⟩ := HHC.out.push (ys := []) HO.out.1 HO.out.2.1 HO.out.2.2 HA.out (by rw [HNM.out]; exact hown) hgrow; replace HH := Lib.hid HH; clear hown hgrow)
                              clear HOA HB1 HNW HA x1 HI HO
                              obtain ⟨wq, hwq⟩ : ∃ wq, wq = w'.setCell ⟨g + 1, 1, none⟩ (.slice A9 (acc.length + 1) c9) := ⟨_, rfl⟩
                              rw [← hwq] at HH ⊢
                              clear hwq z0 z1
                              have HA8 : Hid (At xs (m + 1) 8) := Lib.hid (at_next HV.out.1.at' rfl HQ4.out)
                              cases h8 : isB xs (m + 1) 125 with
                              | true =>
                                have HI8 := Lib.hid (isC (some ⟨b, o, none⟩) n c xs (m + 1) 125 true h8 (by omega) ((m : Int) + 1) (by omega))
                                obtain ⟨ht, hr⟩ := hd_last HXN.out HPR.out.2 HA8.out h8
                                have hle := (isB_yes h8).1
                                obtain ⟨v, u, ⟨x3, y3⟩, k1, k2, o1, hok⟩ := HH.out.ok (xs := xs) (fun q hq => (List.mem_append.1 hq).elim (HQ.out.1.loose q) fun hq => by rw [List.mem_singleton.1 hq]; exact HPR.out.1) (m + 2) ht hr (by omega) HXN.out
                                rw [show ((m + 2 : Nat) : Int) = (m : Int) + 2 from rfl] at k1 k2 o1 hok
                                have HK := Lib.hid hok
                                clear hok ht hr hle h8
                                refine (HI8.out _ (HSL.out.past HH.out.past)).mono ?_
                                rintro e wy ⟨rfl, rfl⟩
                                go_upto_region 29 with (fail)
                                go_wp2_with (first
                                  | (refine wpList_load_row rfl 32 _ rfl (g + 1) rfl _ _ _ _ k1 Tryd.underlying32 rfl (res4 _ rfl) ?_)
                                  | (refine wpList_store_row rfl 32 _ _ rfl g _ rfl rfl _ _ k2 (res4 _ rfl) rfl o1 ?_))
                                refine bodyPost_ret (results_cell_row rfl _ _ g _ _ _ _ rfl (setRow_heap _ g _ _ _ _ k2) Tryd.underlying32 rfl (res4 _ rfl)) rfl ?_
                                exact .inr HK.out
                              | false =>
                                have HI8 := Lib.hid (isC (some ⟨b, o, none⟩) n c xs (m + 1) 125 false h8 (by omega) ((m : Int) + 1) (by omega))
                                cases h9 : isB xs (m + 1) 44 with
                                | false =>
                                  have HI9 := Lib.hid (isC (some ⟨b, o, none⟩) n c xs (m + 1) 44 false h9 (by omega) ((m : Int) + 1) (by omega))
                                  have HF : Hid (∃ s, readS xs 0 0 = (m + 1, s) ∧ s ≠ 9) := Lib.hid ⟨8, s8_no HA8.out HXN.out h8 h9, by decide⟩
                                  have hp : m ≤ n := by omega
                                  clear h8 h9
                                  refine (HI8.out _ (HSL.out.past HH.out.past)).mono ?_
                                  rintro e wy ⟨rfl, rfl⟩
                                  go_wp2_with fail
                                  refine (HI9.out _ (HSL.out.past HH.out.past)).mono ?_
                                  rintro e wy ⟨rfl, rfl⟩
                                  have HW := Lib.hid (wrC (some ⟨b, o, none⟩) n c (m + 1) (by omega) (by omega) ((m : Int) + 1) (by omega))
                                  clear hp
                                  go_wp2_with fail
                                  refine (HW.out _).mono ?_
                                  rintro e wz ⟨rfl, hpz⟩
                                  have HZ := Lib.hid (HH.later hpz)
                                  clear hpz
                                  have hrow := HZ.out.res
                                  go_wp2_with (refine wpList_store_row rfl 32 _ _ rfl g _ rfl rfl _ _ hrow (res4 _ rfl) rfl (by simp [Value.oneCell']) ?_)
                                  refine bodyPost_ret (results_cell_row rfl _ _ g _ _ _ _ rfl (setRow_heap _ g _ _ _ _ hrow) Tryd.underlying32 rfl (res4 _ rfl)) rfl ?_
                                  obtain ⟨sz, hz1, hz2⟩ := HF.out
                                  exact .inl ⟨_, sz, rfl, hz1, hz2, past_row HZ.out.past (by rw [HZ.out.ge]; exact Nat.le_refl _) _⟩
                                | true =>
                                  have HI9 := Lib.hid (isC (some ⟨b, o, none⟩) n c xs (m + 1) 44 true h9 (by omega) ((m : Int) + 1) (by omega))
                                  have HH2 := Lib.hid (hd_next HQ.out.1 HPR.out.1 HPR.out.2 HA8.out h9)
                                  have HM2 : Hid (m + 2 ≤ n ∧ p < m + 2) := Lib.hid ⟨by have := (isB_yes h9).1; rw [HL.out] at this; exact this, by omega⟩
                                  clear h8 h9
                                  refine (HI8.out _ (HSL.out.past HH.out.past)).mono ?_
                                  rintro e wy ⟨rfl, rfl⟩
                                  go_wp2_with fail
                                  refine (HI9.out _ (HSL.out.past HH.out.past)).mono ?_
                                  rintro e wy ⟨rfl, rfl⟩
                                  go_wp2_with fail
                                  go_roundg (n + 1 - (m + 2))
                                  case rel => exact ⟨acc ++ [(S1, S2)], m + 2, HM2.out.1, rfl, by go_num, Lib.hid ⟨HH2.out, HH.out⟩⟩
                                  case measure => have := HGK.out; have := HM2.out; omega
                        · have hki : ¬ (m : Int) < (n : Int) := by omega
                          have h7 : isB xs m 34 = false := decide_eq_false fun h => htn (by rw [← HL.out]; exact h.1)
                          have HI := Lib.hid (isC (some ⟨b, o, none⟩) n c xs m 34 false h7 (by omega) m rfl)
                          have HF : Hid (∃ s, readS xs 0 0 = (m, s) ∧ s ≠ 9) := Lib.hid ⟨7, HV.out.1.stop HXN.out HV.out.2 h7, by decide⟩
                          have hp : m ≤ n := by have := HVP.out.2; omega
                          clear h7 htn
                          go_wp2_with fail
                          refine (HI.out _ (HSL.out.past HQ.out.2.past)).mono ?_
                          rintro e wy ⟨rfl, rfl⟩
                          have HW := Lib.hid (wrC (some ⟨b, o, none⟩) n c (m) (by omega) (by omega) ((m : Int)) (by omega))
                          clear hp
                          go_wp2_with fail
                          refine (HW.out _).mono ?_
                          rintro e wz ⟨rfl, hpz⟩
                          have HZ := Lib.hid (HQ.out.2.later hpz)
                          clear hpz
                          have hrow := HZ.out.res
                          go_wp2_with (refine wpList_store_row rfl 32 _ _ rfl g _ rfl rfl _ _ hrow (res4 _ rfl) rfl (by simp [Value.oneCell']) ?_)
                          refine bodyPost_ret (results_cell_row rfl _ _ g _ _ _ _ rfl (setRow_heap _ g _ _ _ _ hrow) Tryd.underlying32 rfl (res4 _ rfl)) rfl ?_
                          obtain ⟨sz, hz1, hz2⟩ := HF.out
                          exact .inl ⟨_, sz, rfl, hz1, hz2, past_row HZ.out.past (by rw [HZ.out.ge]; exact Nat.le_refl _) _⟩
          · have hki : ¬ (k : Int) < (n : Int) := by omega
            have hq : isB xs k 34 = false := decide_eq_false fun h => htn (by rw [← HL.out]; exact h.1)
            have HF : Hid (∃ s, readS xs 0 0 = (k, s) ∧ s ≠ 9) := Lib.hid (HN.out.1.stop HXN.out HN.out.2 (.inr hq))
            have HI := Lib.hid (isC (some ⟨b, o, none⟩) n c xs k 34 false hq (by omega) k rfl)
            have hp : k ≤ n := by have := HTP.out.2; omega
            clear hq htn
            by_cases hkp : k = p + 1
            · have hkp1 : (k : Int) = (p : Int) + 1 := by omega
              have hkp2 : ((k : Int) == (p : Int) + 1) = true := by simp; omega
              clear hkp
              have HW := Lib.hid (wrC (some ⟨b, o, none⟩) n c (k) (by omega) (by omega) ((p : Int) + 1) (by omega))
              clear hp
              go_wp2_with fail
              refine (HW.out _).mono ?_
              rintro e wz ⟨rfl, hpz⟩
              have HZ := Lib.hid (HQ.out.2.later hpz)
              clear hpz
              have hrow := HZ.out.res
              go_wp2_with (refine wpList_store_row rfl 32 _ _ rfl g _ rfl rfl _ _ hrow (res4 _ rfl) rfl (by simp [Value.oneCell']) ?_)
              refine bodyPost_ret (results_cell_row rfl _ _ g _ _ _ _ rfl (setRow_heap _ g _ _ _ _ hrow) Tryd.underlying32 rfl (res4 _ rfl)) rfl ?_
              obtain ⟨sz, hz1, hz2⟩ := HF.out
              exact .inl ⟨_, sz, rfl, hz1, hz2, past_row HZ.out.past (by rw [HZ.out.ge]; exact Nat.le_refl _) _⟩
            · have hkp1 : ¬ (k : Int) = (p : Int) + 1 := by omega
              have hkp2 : ((k : Int) == (p : Int) + 1) = false := by simp; omega
              clear hkp
              go_wp2_with fail
              refine (HI.out _ (HSL.out.past HQ.out.2.past)).mono ?_
              rintro e wy ⟨rfl, rfl⟩
              have HW := Lib.hid (wrC (some ⟨b, o, none⟩) n c (k) (by omega) (by omega) ((k : Int)) (by omega))
              clear hp
              go_wp2_with fail
              refine (HW.out _).mono ?_
              rintro e wz ⟨rfl, hpz⟩
              have HZ := Lib.hid (HQ.out.2.later hpz)
              clear hpz
              have hrow := HZ.out.res
              go_wp2_with (refine wpList_store_row rfl 32 _ _ rfl g _ rfl rfl _ _ hrow (res4 _ rfl) rfl (by simp [Value.oneCell']) ?_)
              refine bodyPost_ret (results_cell_row rfl _ _ g _ _ _ _ rfl (setRow_heap _ g _ _ _ _ hrow) Tryd.underlying32 rfl (res4 _ rfl)) rfl ?_
              obtain ⟨sz, hz1, hz2⟩ := HF.out
              exact .inl ⟨_, sz, rfl, hz1, hz2, past_row HZ.out.past (by rw [HZ.out.ge]; exact Nat.le_refl _) _⟩

end Go.Proofs.YtoinjjnlgjakkaaDoor
