/- For every string of bytes the law DerMatchesReference of package pyxlaw08 returns true and leaves its argument alone, where the variable errors.errorType holds what the program's text lays. -/
import Derived.Test.YtdpnfojpeafdhaaDoorFrame8
import Derived.Test.YtdpnfojpeafdhaaDoorD8O
import Derived.Test.YtdpnfojpeafdhaaDoorTxt8
namespace Go.Proofs.YtdpnfojpeafdhaaDoor.derMatchesReference
open Go.RowKit Go.ChangeShapes Go.WideShapes Go.ChangeAt
set_option linter.unusedVariables false

/-- Where an error lies. -/
theorem kidsW_at {r : Nat → Nat → Res} {tag : Int} {stop : Nat} (hr : ∀ x c a, r x stop = .err c a → a ≤ stop) : ∀ f nx acc c a, kidsW r tag stop f nx acc = .err c a → a ≤ stop
  | 0, nx, acc, c, a, hk => by simp only [kidsW] at hk; cases hk
  | f + 1, nx, acc, c, a, hk => by
    simp only [kidsW] at hk
    split at hk
    · cases hq : r nx stop with
      | err c1 a1 =>
        rw [hq] at hk
        injection hk with h1 h2
        subst h1 h2
        exact hr _ _ _ hq
      | ok t1 n1 =>
        rw [hq] at hk
        exact kidsW_at hr f _ _ _ _ hk
    · cases hk
theorem hdr_at {xs : List Int} {at0 fin c a : Nat} (h : hdr xs at0 fin = .err c a) : a ≤ fin := by
  unfold hdr at h
  generalize (xs.getD (at0 + 1) 0).toNat = L at h
  by_cases h1 : fin ≤ at0 + 1
  · rw [if_pos h1] at h
    injection h with h2 h3
    omega
  · rw [if_neg h1] at h
    repeat' split at h
    all_goals first
      | (injection h with h2 h3; omega)
      | cases h
theorem rd_at (xs : List Int) : ∀ lv at0 fin c a, rd xs lv at0 fin = .err c a → a ≤ fin
  | 0, at0, fin, c, a, h => by
    simp only [rd] at h
    repeat' split at h
    all_goals (injection h with h2 h3; omega)
  | lv + 1, at0, fin, c, a, h => by
    simp only [rd] at h
    by_cases c1 : fin ≤ at0
    · rw [if_pos c1] at h
      injection h with h2 h3
      omega
    · rw [if_neg c1] at h
      split at h
      · injection h with h2 h3
        omega
      · cases hq : hdr xs at0 fin with
        | err c1 a1 =>
          rw [hq] at h
          injection h with h2 h3
          subst h2 h3
          exact hdr_at hq
        | ok n1 l =>
          rw [hq] at h
          simp only at h
          split at h
          · injection h with h2 h3
            omega
          · split at h
            · cases h
            · have := kidsW_at (fun x c a hr => rd_at xs lv x _ c a hr) _ _ _ _ _ h
              omega
theorem parse_at {xs : List Int} {n c a : Nat} (h : parseW xs n = .err c a) : a ≤ n ∧ c ≠ 0 := by
  unfold parseW at h
  cases hq : rd xs 8 0 n with
  | err c1 a1 =>
    rw [hq] at h
    injection h with h1 h2
    subst h1 h2
    exact ⟨rd_at xs 8 0 n _ _ hq, rd_err xs 8 0 n _ _ hq⟩
  | ok t1 n1 =>
    rw [hq] at h
    simp only at h
    split at h
    · injection h with h1 h2
      omega
    · cases h

set_option maxHeartbeats 4000000 in
set_option maxRecDepth 100000 in
theorem walk' (H : Prog8) (A : Option Addr) (n c : Nat) (xs : List Int) (w : World) (hS : Sl w A n c xs) (hG : Glob w) :
    Calls Tryd.prog 3 #[.slice A n c] w fun e w' => e = .returned (.bool true) ∧ Past w w' := by
  have HA := Lib.hid (fun w hG => awake8 H w hG)
  have HG := Lib.hid hG
  have HS := Lib.hid hS
  by_cases hn : 3000 < n
  · have hni : (3000 : Int) < (n : Int) := by omega
    clear hS hG
    go_enter Tryd.func3, Tryd.ntmps3
    go_wp2_with fail
    refine (HA.out _ HG.out).mono ?_
    rintro e w1 ⟨rfl, hp⟩
    have HP := Lib.hid hp
    clear hp
    go_wp2_with fail
    refine (HA.out _ (HG.out.past HP.out)).mono ?_
    rintro e w2 ⟨rfl, hp⟩
    have HP2 := Lib.hid (HP.out.trans' hp)
    clear hp HP
    go_wp2_with fail
    go_ret
    exact ⟨rfl, HP2.out⟩
  · have hni : ¬ (3000 : Int) < (n : Int) := by omega
    have hn' : n ≤ 3000 := by omega
    have hrng := getD_rng hS
    have hlen := hS.len
    have HPa := Lib.hid (fun w hS => H.parse A n c xs w hS (by omega))
    have HRe := Lib.hid (fun w hS => rparse_any A n c xs w (by omega) hS)
    have hpl : parseL xs n = parseW xs n := by unfold parseL; rw [if_neg (by omega)]
    rw [hpl] at HPa
    have HEn := Lib.hid H.encode
    clear hS hG hpl hn hn'
    cases hq : parseW xs n with
    | err c0 a0 =>
      obtain ⟨ha0, hc0⟩ := parse_at hq
      have han : (a0 : Int) ≤ 3000 := by omega
      rw [hq] at HPa HRe
      have HTo := Lib.hid (fun w hG => ltold_flt (c0 : Int) (a0 : Int) w hG (by omega))
      have HSm := Lib.hid (fun x y z w (h : InM w (.agg #[x, y, z]) noT) => lsame_any h _ _ (no_in w) w (Below.refl _ _) (by decide))
      simp only [valFlt] at HTo
      have hcb : ((c0 : Int) != 0) = true := by simp; omega
      have hi2 := res_size (err6 c0 a0) rfl
      have ho2 : (err6 c0 a0).all (·.oneCell') = true := by simp [err6, Value.oneCell']
      clear hq hrng
      go_enter Tryd.func3, Tryd.ntmps3
      go_wp2_with fail
      refine (HA.out _ HG.out).mono ?_
      rintro e w1 ⟨rfl, hp⟩
      have HP := Lib.hid hp
      clear hp
      go_wp2_with fail
      refine (HPa.out _ (HS.out.past HP.out)).mono ?_
      rintro e w2 ⟨x, y, z, rfl, hin, hp⟩
      obtain ⟨tg, A2, n2, c2, K2, m2, d2, rfl, rfl, rfl⟩ := hin.forms
      have hpn := hp.trans' (past_alloc8 w2 (.cells #[.int .u8 tg, .slice A2 n2 c2, .slice K2 m2 d2] 26))
      have H3 : Hid (Past w (w2.alloc (.cells #[.int .u8 tg, .slice A2 n2 c2, .slice K2 m2 d2] 26)) ∧ InM (w2.alloc (.cells #[.int .u8 tg, .slice A2 n2 c2, .slice K2 m2 d2] 26)) (.agg #[.int .u8 tg, .slice A2 n2 c2, .slice K2 m2 d2]) noT ∧ Row (w2.alloc (.cells #[.int .u8 tg, .slice A2 n2 c2, .slice K2 m2 d2] 26)) w2.heap.size 26 #[.int .u8 tg, .slice A2 n2 c2, .slice K2 m2 d2]) :=
        Lib.hid ⟨HP.out.trans' hpn, hin.past (past_alloc8 _ _), Row.new _ _ _⟩
      clear hp hin hpn HP
      simp only [valFlt]
      go_wp2_with fail
      generalize w2.alloc (.cells #[.int .u8 tg, .slice A2 n2 c2, .slice K2 m2 d2] 26) = w3 at *
      generalize w2.heap.size = r at *
      refine (HRe.out _ (HS.out.past H3.out.1)).mono ?_
      rintro e w4 ⟨rfl, hp⟩
      unfold resE
      have hn4 := heap_alloc_new w4 (.cells zero6 35)
      obtain ⟨w5, hw5⟩ : ∃ w5, w5 = w4.alloc (.cells (err6 c0 a0) 35) := ⟨_, rfl⟩
      have H5 : Hid (Past w w5 ∧ InM w5 (.agg #[.int .u8 tg, .slice A2 n2 c2, .slice K2 m2 d2]) noT ∧ Row w5 r 26 #[.int .u8 tg, .slice A2 n2 c2, .slice K2 m2 d2] ∧ Row w5 w4.heap.size 35 (err6 c0 a0)) := by
        obtain ⟨q1, q2, q3⟩ := H3.out
        rw [hw5]
        have hpp := hp.trans' (past_alloc8 w4 (.cells (err6 c0 a0) 35))
        exact Lib.hid ⟨q1.trans' hpp, q2.past hpp, q3.past hpp, Row.new _ _ _⟩
      have HW5 := Lib.hid hw5
      have k4 : w5.cell? ⟨w4.heap.size, 4, none⟩ = some (.int .i64 (c0 : Int)) := H5.out.2.2.2.cell 4
      have k5 : w5.cell? ⟨w4.heap.size, 5, none⟩ = some (.int .i64 (a0 : Int)) := H5.out.2.2.2.cell 5
      clear hw5 hp H3
      go_wp2_with (first
        | (refine wpList_store_row rfl 35 _ _ rfl w4.heap.size _ rfl rfl _ _ hn4 hi2 rfl ho2 ?_; rw [World.setRow_alloc_new, ← HW5.out]))
      refine (HTo.out _ (HG.out.past H5.out.1)).mono ?_
      rintro e w6 ⟨rfl, hp⟩
      have H6 : Hid (Past w w6 ∧ InM w6 (.agg #[.int .u8 tg, .slice A2 n2 c2, .slice K2 m2 d2]) noT ∧ Row w6 r 26 #[.int .u8 tg, .slice A2 n2 c2, .slice K2 m2 d2]) := by
        obtain ⟨q1, q2, q3, q4⟩ := H5.out
        exact Lib.hid ⟨q1.trans' hp, q2.past hp, q3.past hp⟩
      have f0 : w6.cell? ⟨r, 0, none⟩ = some (.int .u8 tg) := H6.out.2.2.cell 0
      have f1 : w6.cell? ⟨r, 1, none⟩ = some (.slice A2 n2 c2) := H6.out.2.2.cell 1
      have f2 : w6.cell? ⟨r, 2, none⟩ = some (.slice K2 m2 d2) := H6.out.2.2.cell 2
      clear hp H5 k4 k5 hn4 HW5
      go_wp2_with fail
      refine (HSm.out _ _ _ _ H6.out.2.1).mono ?_
      rintro e w7 ⟨b, rfl, hb, hp⟩
      obtain rfl : b = true := hb.2 (by trivial)
      have H7 := Lib.hid (H6.out.1.trans' hp)
      clear hp H6 f0 f1 f2 hb
      go_wp2_with fail
      go_ret
      exact ⟨rfl, H7.out⟩
    | ok t nx =>
      obtain ⟨ht, hd, hsh, hcn⟩ := parse_txt hrng hlen hq
      have HT := Lib.hid ht
      have hok : okT t = true := by unfold okT; exact decide_eq_true ⟨hd, hsh, by rw [ht, hlen]; omega⟩
      have hfit : fits t := ⟨by omega, by omega, by rw [ht, hlen]; omega⟩
      have HOK := Lib.hid (And.intro hok hfit)
      have hnx : (nx : Int) ≤ 3000 := by
        have h1 : nx ≤ n := by
          unfold parseW at hq
          cases hq2 : rd xs 8 0 n with
          | err c a => rw [hq2] at hq; cases hq
          | ok t1 n1 =>
            rw [hq2] at hq
            have h1 := rd_next xs 8 0 n t1 n1 hq2
            simp only at hq
            split at hq
            · cases hq
            · injection hq with h2 h3
              omega
        omega
      rw [hq] at HPa HRe
      have HSm := Lib.hid (fun v v2 w (h : InM w v t) (h2 : InM w v2 t) => lsame_any h _ _ h2 w (Below.refl _ _) (by omega))
      clear hq hrng ht hd hsh hcn hok hfit
      go_enter Tryd.func3, Tryd.ntmps3
      go_wp2_with fail
      refine (HA.out _ HG.out).mono ?_
      rintro e w1 ⟨rfl, hp⟩
      have HP := Lib.hid hp
      clear hp
      go_wp2_with fail
      refine (HPa.out _ (HS.out.past HP.out)).mono ?_
      rintro e w2 ⟨x, y, z, rfl, hin, hp⟩
      obtain ⟨tg, A2, n2, c2, K2, m2, d2, rfl, rfl, rfl⟩ := hin.forms
      have hpn := hp.trans' (past_alloc8 w2 (.cells #[.int .u8 tg, .slice A2 n2 c2, .slice K2 m2 d2] 26))
      have H3 : Hid (Past w (w2.alloc (.cells #[.int .u8 tg, .slice A2 n2 c2, .slice K2 m2 d2] 26)) ∧ InM (w2.alloc (.cells #[.int .u8 tg, .slice A2 n2 c2, .slice K2 m2 d2] 26)) (.agg #[.int .u8 tg, .slice A2 n2 c2, .slice K2 m2 d2]) t ∧ Row (w2.alloc (.cells #[.int .u8 tg, .slice A2 n2 c2, .slice K2 m2 d2] 26)) w2.heap.size 26 #[.int .u8 tg, .slice A2 n2 c2, .slice K2 m2 d2]) :=
        Lib.hid ⟨HP.out.trans' hpn, hin.past (past_alloc8 _ _), Row.new _ _ _⟩
      clear hp hin hpn HP
      go_wp2_with fail
      generalize w2.alloc (.cells #[.int .u8 tg, .slice A2 n2 c2, .slice K2 m2 d2] 26) = w3 at *
      generalize w2.heap.size = r at *
      refine (HRe.out _ (HS.out.past H3.out.1)).mono ?_
      rintro e w4 ⟨x, y, z, rfl, hlv, hp⟩
      have hin := hlv w4 fun _ _ _ => rfl
      obtain ⟨tg3, A3, n3, c3, K3, m3, d3, rfl, rfl, rfl⟩ := hin.forms
      have hn4 := heap_alloc_new w4 (.cells zero6 35)
      obtain ⟨cR, hcR⟩ : ∃ cR : Array Value, #[.int .u8 tg3, .slice A3 n3 c3, .slice K3 m3 d3, .int .i64 (nx : Int), .int .i64 0, .int .i64 0] = cR := ⟨_, rfl⟩
      have hi2 := res_size cR (by rw [← hcR]; rfl)
      have ho2 : cR.all (·.oneCell') = true := by rw [← hcR]; simp [Value.oneCell']
      have hs2 : (zero6).size = cR.size := by rw [← hcR]; rfl
      obtain ⟨w5, hw5⟩ : ∃ w5, w5 = w4.alloc (.cells cR 35) := ⟨_, rfl⟩
      have H5 : Hid (Past w w5 ∧ InM w5 (.agg #[.int .u8 tg, .slice A2 n2 c2, .slice K2 m2 d2]) t ∧ Row w5 r 26 #[.int .u8 tg, .slice A2 n2 c2, .slice K2 m2 d2] ∧ Row w5 w4.heap.size 35 cR ∧ InM w5 (.agg #[.int .u8 tg3, .slice A3 n3 c3, .slice K3 m3 d3]) t) := by
        obtain ⟨q1, q2, q3⟩ := H3.out
        rw [hw5]
        have hpl := past_alloc8 w4 (.cells cR 35)
        have hpp := hp.trans' hpl
        exact Lib.hid ⟨q1.trans' hpp, q2.past hpp, q3.past hpp, Row.new _ _ _, hin.past hpl⟩
      have HW5 := Lib.hid hw5
      have e0 := H5.out.2.2.2.1.cell 0
      have e1 := H5.out.2.2.2.1.cell 1
      have e2 := H5.out.2.2.2.1.cell 2
      have e4 := H5.out.2.2.2.1.cell 4
      rw [← hcR] at e0 e1 e2 e4
      simp at e0 e1 e2 e4
      have f0 : w5.cell? ⟨r, 0, none⟩ = some (.int .u8 tg) := H5.out.2.2.1.cell 0
      have f1 : w5.cell? ⟨r, 1, none⟩ = some (.slice A2 n2 c2) := H5.out.2.2.1.cell 1
      have f2 : w5.cell? ⟨r, 2, none⟩ = some (.slice K2 m2 d2) := H5.out.2.2.1.cell 2
      clear hw5 hp H3 hlv hin
      rw [hcR]
      clear hcR
      go_wp2_with (first
        | (refine wpList_store_row rfl 35 _ _ rfl w4.heap.size _ rfl rfl _ _ hn4 hi2 hs2 ho2 ?_; rw [World.setRow_alloc_new, ← HW5.out]))
      have H6 := H5
      clear H5 hn4 HW5 hi2 ho2 hs2 e4 f0 f1 f2
      generalize w4.heap.size = u at *
      refine (HEn.out _ t _ H6.out.2.1 HOK.out.2).mono ?_
      rintro e w6 he
      obtain ⟨A6, c6, rfl, hS6, hp⟩ := he.1 HOK.out.1
      rw [HT.out] at hS6
      have hT6 : (txt t).length = xs.length := by rw [HT.out]
      rw [hT6]
      have H7 : Hid (Past w w6 ∧ InM w6 (.agg #[.int .u8 tg, .slice A2 n2 c2, .slice K2 m2 d2]) t ∧ Row w6 r 26 #[.int .u8 tg, .slice A2 n2 c2, .slice K2 m2 d2] ∧ Row w6 u 35 cR ∧ InM w6 (.agg #[.int .u8 tg3, .slice A3 n3 c3, .slice K3 m3 d3]) t ∧ Sl w6 A6 xs.length c6 xs) := by
        obtain ⟨q1, q2, q3, q4, q5⟩ := H6.out
        exact Lib.hid ⟨q1.trans' hp, q2.past hp, q3.past hp, q4.past hp, q5.past hp, by first | exact hS6 | (rw [hT6] at hS6; exact hS6)⟩
      have f0 : w6.cell? ⟨r, 0, none⟩ = some (.int .u8 tg) := H7.out.2.2.1.cell 0
      have f1 : w6.cell? ⟨r, 1, none⟩ = some (.slice A2 n2 c2) := H7.out.2.2.1.cell 1
      have f2 : w6.cell? ⟨r, 2, none⟩ = some (.slice K2 m2 d2) := H7.out.2.2.1.cell 2
      have e0' : w6.cell? ⟨u, 0, none⟩ = some (.int .u8 tg3) := by rw [H7.out.2.2.2.1.cell 0, ← H6.out.2.2.2.1.cell 0]; exact e0
      have e1' : w6.cell? ⟨u, 1, none⟩ = some (.slice A3 n3 c3) := by rw [H7.out.2.2.2.1.cell 1, ← H6.out.2.2.2.1.cell 1]; exact e1
      have e2' : w6.cell? ⟨u, 2, none⟩ = some (.slice K3 m3 d3) := by rw [H7.out.2.2.2.1.cell 2, ← H6.out.2.2.2.1.cell 2]; exact e2
      have HLN := Lib.hid hlen
      clear he hS6 hT6 hp H6 e0 e1 e2 hlen
      generalize xs.length = m6 at *
      go_wp2_with fail
      refine (HSm.out _ _ _ H7.out.2.1 H7.out.2.2.2.2.1).mono ?_
      rintro e w7 ⟨b, rfl, hb, hp⟩
      obtain rfl : b = true := hb.2 (by trivial)
      have H8 : Hid (Past w w7 ∧ Sl w7 A6 m6 c6 xs) := Lib.hid ⟨H7.out.1.trans' hp, H7.out.2.2.2.2.2.past hp⟩
      clear hb hp H7 f0 f1 f2 e0' e1' e2'
      go_wp2_with fail
      refine (rsame_any _ _ _ _ _ _ _ _ _ H8.out.2 (HS.out.past H8.out.1)).mono ?_
      rintro e w8 ⟨rfl, q, rfl⟩
      rw [sameB_refl]
      have H9 := Lib.hid (H8.out.1.drewN q)
      clear H8
      generalize w7.drewN q = w9 at *
      go_wp2_with fail
      go_ret
      exact ⟨rfl, H9.out⟩

theorem walk (H : Prog8) (A : Option Addr) (n c : Nat) (zs : List Int) (w : World) (h : IsRow .u8 w A n c zs) (hG : Glob w) :
    Calls Tryd.prog 3 #[.slice A n c] w fun e w' => e = .returned (.bool true) ∧ Past w w' := walk' H A n c _ w (Sl.of_row h) hG

def args0 : Array Value := #[.slice none 0 0]
theorem laid_met (os : Os) : laidMetH Tryd.prog Rows.derMatchesReferenceRow.laid ((laidWorld os).forCall (fun _ _ => 0) ⟨#[], args0, []⟩).memory :=
  laidMetH_of_parts (LaidIn.of_run [] 8 (by kernel_rfl) (by kernel_rfl) (by kernel_rfl) (by kernel_rfl)).met (by kernel_rfl)
theorem witness_row (os : Os) {H : Type} (enc : TypeId × Value → H) :
    (OpenSpec.ofChange Rows.derMatchesReferenceSpec).preRow enc Tryd.prog Tryd.f3 Rows.derMatchesReferenceRow.domain false Rows.derMatchesReferenceRow.laid ((laidWorld os).forCall (fun _ _ => 0) ⟨#[], args0, []⟩).memory args0 := by
  have hw : (DataW.whole enc Tryd.prog ((laidWorld os).forCall (fun _ _ => 0) ⟨#[], args0, []⟩).memory Tryd.f3.params.toList (OpenSpec.ofChange Rows.derMatchesReferenceSpec).vars false args0.toList 8).map (fun x => (x.1, x.2.1)) =
      some ([.nil], []) := by kernel_rfl
  obtain ⟨⟨x1, x2, x3⟩, hx, hx1⟩ := Option.map_eq_some_iff.1 hw
  simp only [Prod.mk.injEq] at hx1
  obtain ⟨rfl, rfl⟩ := hx1
  exact OpenSpec.preRow_of_cond 8 hx (by kernel_rfl) (fun k hk => by cases hk) (by kernel_rfl) (laid_met os)

set_option maxRecDepth 100000 in
set_option maxHeartbeats 2000000 in
theorem lifted (H8 : Prog8) (os : Os) (started : os.Started) (H : Type) (enc : TypeId × Value → H) (F : Stop.Interp) :
    ReturnsInHanded {} Tryd.checked os 3 .any ((OpenSpec.ofChange Rows.derMatchesReferenceSpec).preRow enc Tryd.prog Tryd.f3 Rows.derMatchesReferenceRow.domain false Rows.derMatchesReferenceRow.laid) (((OpenSpec.ofChange Rows.derMatchesReferenceSpec).at F).post enc Tryd.prog Tryd.f3 false true false false) := by
  refine returnsInHanded_of_row (C := Tryd.checked) (s := OpenSpec.ofChange Rows.derMatchesReferenceSpec) own started (by kernel_rfl) Tryd.func3
    (witness_row_atRef (enc := enc) (C := Tryd.checked) false (laidWorld os) args0 rfl (by kernel_rfl) (by kernel_rfl) (by kernel_rfl) (witness_row os enc)) ?_
  intro W base args ds gs before hval0 hW _ _ _ hL hsh _
  have hval : ∀ (j : Nat) t v, Tryd.f3.params[j]? = some t → args[j]? = some v → Value.okWide Tryd.prog W .any base t v := hval0
  have hW' := hW
  obtain ⟨p, q, hA0, hV, rfl, hfz, hnd⟩ := hW
  have hA : DataW.TrodAll enc Tryd.prog W 0 (fun _ => true) true Tryd.f3.params.toList args.toList ds p := hA0
  rw [Tryd.params3] at hA hval
  obtain ⟨v0, vs0, d0, ds0, p0, q0, hargs, rfl, rfl, h0, r0⟩ := trodAll_cons hA
  obtain ⟨rfl, rfl, rfl⟩ := trodAll_nil r0
  obtain rfl : args = #[v0] := by cases args; simp_all
  obtain ⟨rfl, rfl⟩ := trodVars_none hV
  have k0 := h0
  have lt0 : ∀ x ∈ p0, x.block < W.heap.size := by obtain ⟨m, hm⟩ := k0; exact DataW.trod_lt m _ _ _ hm
  obtain ⟨a0, len0, cap0, rfl⟩ := okWide_slice Tryd.underlying22 (hval 0 22 v0 rfl rfl)
  obtain ⟨z0, w0⟩ := row_of h0
  have hG := glob_of_row hL
  clear hA0 hval0
  refine (walk H8 a0 len0 cap0 z0 W w0 hG).mono fun e W' ⟨he, bel⟩ => ?_
  subst he
  exact ⟨_, rfl, _, _, _, [], _, [], hW', trodAll_mk1 (shut_bool Tryd.underlying4 _), (trodAll_cons_mk (Below.trod laidOut (by kernel_rfl) (of_decide_eq_true (by kernel_rfl)) k0 bel lt0) trodAll_mk0), rfl, bel.frame _, fun h => by cases h⟩

theorem row_holds (H8 : Prog8) : Rows.DerMatchesReferenceSaid :=
  OpenClaim.holds_of_cond 3 Tryd.f3 rfl rfl rfl rfl rfl rfl rfl ⟨rfl, rfl, rfl, rfl, rfl⟩ rfl rfl rfl rfl rfl (by kernel_rfl) Tryd.func3 (by kernel_rfl)
    (of_decide_eq_true (by kernel_rfl)) (by unfold Func.isWrapper; first | (rw [if_pos (by decide +kernel)]; kernel_rfl) | (rw [if_neg (by decide +kernel)]; exact ⟨rfl, rfl⟩))
    (fun os started H enc _ F0 => by rw [OpenClaim.pre_eq_preRow]; exact lifted H8 os started H enc F0)

theorem card (H8 : Prog8) : Rows.DerMatchesReferenceCardSaid :=
  Claim7.holds_tied_plain_at .later [] [.handle] true Rows.derMatchesReferenceCard.stood.harness true
    (row_holds H8) (fun _ h => by cases h) (by kernel_rfl) (fun _ h => by cases h) derMatchesReference_row_tie rfl ⟨rfl, rfl⟩ (by kernel_rfl) rfl
    (fun f fn hf hfn => by
      obtain rfl : f = 3 := Option.some.inj ((show Tryd.prog.funcNamed "pyx/pyxlaw08.DerMatchesReference" = some 3 by kernel_rfl).symm.trans hf) |>.symm
      obtain rfl : fn = Tryd.f3 := (Option.some.inj (Tryd.func3.symm.trans hfn)).symm
      exact ⟨by kernel_rfl, fun j t ht => by
        rw [Tryd.params3] at ht
        obtain rfl : t = 22 := by
          rcases j with _ | j
          · simpa using ht.symm
          · simp at ht
        exact (show Tryd.prog.wantsStandIn 22 = false by kernel_rfl)⟩)
    (by kernel_rfl)

theorem proved : Rows.DerMatchesReferenceCardSaid := card prog8

end Go.Proofs.YtdpnfojpeafdhaaDoor.derMatchesReference
