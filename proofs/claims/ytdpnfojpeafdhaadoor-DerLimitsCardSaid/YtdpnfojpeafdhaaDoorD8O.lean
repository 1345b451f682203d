/- The program's reading of a node at any level; Parse; and what package der hands back, as one. -/
import Derived.Test.YtdpnfojpeafdhaaDoorD8N
import Derived.Test.YtdpnfojpeafdhaaDoorD8H
namespace Go.Proofs.YtdpnfojpeafdhaaDoor
open Go.RowKit
set_option linter.unusedVariables false

theorem hdr_bd {xs : List Int} (hr : ∀ i, 0 ≤ xs.getD i 0 ∧ xs.getD i 0 < 256) {at0 fin nx l : Nat} (h : hdr xs at0 fin = .ok nx l) : l < 16777216 := by
  unfold hdr at h
  generalize hL : (xs.getD (at0 + 1) 0).toNat = L at h
  by_cases h1 : fin ≤ at0 + 1
  · rw [if_pos h1] at h
    cases h
  · rw [if_neg h1] at h
    by_cases h2 : L = 128 ∨ 131 < L
    · rw [if_pos h2] at h
      cases h
    · rw [if_neg h2] at h
      by_cases h3 : 128 < L
      · rw [if_pos h3] at h
        by_cases h4 : fin < at0 + 2 + (L - 128)
        · rw [if_pos h4] at h
          cases h
        · rw [if_neg h4] at h
          by_cases h5 : beN xs (at0 + 2) (L - 128) < 128 ∨ (numB (beN xs (at0 + 2) (L - 128))).length ≠ L - 128
          · rw [if_pos h5] at h
            cases h
          · rw [if_neg h5] at h
            injection h with h6 h7
            have h8 := beN_lt xs (at0 + 2) hr (L - 128)
            have h9 : (256 : Nat) ^ (L - 128) ≤ 256 ^ 3 := Nat.pow_le_pow_right (by omega) (by omega)
            omega
      · rw [if_neg h3] at h
        injection h with h6 h7
        omega

theorem node_any (g : Nat) (A : Option Addr) (n c : Nat) (xs : List Int) : ∀ (lv : Nat) (w : World) (at0 fin : Nat) (above : Int), lv ≤ 8 → above = 8 - (lv : Int) → Rw w g A n c xs at0 → fin ≤ n →
    Calls Tryd.prog 25 #[rdV g, .int .i64 (fin : Int), .int .i64 above] w (NodeP (rd xs lv at0 fin) w g A n c)
  | 0, w, at0, fin, above, hlv, hab, h, hf => by
    refine node_early w g A n c xs at0 fin above h hf _ ?_
    by_cases h1 : fin ≤ at0
    · exact .inl ⟨h1, by simp only [rd]; rw [if_pos h1]⟩
    · cases ht : tagB (xs.getD at0 0) with
      | false => exact .inr (.inl ⟨by omega, rfl, by simp only [rd]; rw [if_neg h1, if_pos ht]⟩)
      | true => exact .inr (.inr ⟨by omega, rfl, by omega, by simp only [rd]; rw [if_neg h1, if_neg (by rw [ht]; decide)]⟩)
  | lv + 1, w, at0, fin, above, hlv, hab, h, hf => by
    have hrg := getD_rng h.sl
    by_cases h1 : fin ≤ at0
    · exact node_early w g A n c xs at0 fin above h hf _ (.inl ⟨h1, by simp only [rd]; rw [if_pos h1]⟩)
    · cases ht : tagB (xs.getD at0 0) with
      | false => exact node_early w g A n c xs at0 fin above h hf _ (.inr (.inl ⟨by omega, ht, by simp only [rd]; rw [if_neg h1, if_pos ht]⟩))
      | true =>
        have e0 : rd xs (lv + 1) at0 fin = (match hdr xs at0 fin with
            | .err c a => .err c a
            | .ok nx l => if fin < nx + l then .err 3 fin
              else if simB (xs.getD at0 0) = true then .ok (.node (xs.getD at0 0) ((xs.drop nx).take l) []) (nx + l)
              else kidsW (rd xs lv) (xs.getD at0 0) (nx + l) l nx []) := by
          simp only [rd]
          rw [if_neg h1, if_neg (by rw [ht]; decide)]
          rfl
        cases hh : hdr xs at0 fin with
        | err c1 a1 =>
          rw [hh] at e0
          rw [e0]
          exact node_head w g A n c xs at0 fin c1 a1 above h hf (by omega) ht (by omega) (.inl hh)
        | ok nx l =>
          rw [hh] at e0
          simp only at e0
          have hx := hdr_txt hrg (by rw [h.sl.len]; exact hf) hh
          have hl24 := hdr_bd hrg hh
          by_cases h2 : fin < nx + l
          · rw [if_pos h2] at e0
            rw [e0]
            exact node_head w g A n c xs at0 fin 3 fin above h hf (by omega) ht (by omega) (.inr ⟨nx, l, hh, h2, hx.2.1, hl24, rfl, rfl⟩)
          · rw [if_neg h2] at e0
            by_cases h3 : simB (xs.getD at0 0) = true
            · rw [if_pos h3] at e0
              rw [e0]
              exact node_leaf w g A n c xs at0 fin nx l above h hf (by omega) ht (by omega) hh (by omega) hl24 h3
            · rw [if_neg h3] at e0
              rw [e0]
              refine node_comp w g A n c xs at0 fin nx l above h hf (by omega) ht (by omega) (by omega) hh (by omega) hl24 (by simpa using h3) _ (fun wz hz => ?_) fun t n1 hk => ?_
              · refine kids_any wz g A n c xs nx l lv (above + 1) _ (hrg at0) hz (by omega) fun wy at1 hy => ?_
                have h := node_any g A n c xs lv wy at1 (nx + l) (above + 1) (by omega) (by omega) hy (by omega)
                rw [show ((nx + l : Nat) : Int) = (nx : Int) + (l : Int) by omega] at h
                exact h
              · have h4 := kidsW_next (fun a t nx hr => by have := rd_next xs lv a _ t nx hr; omega) _ _ _ _ _ (by omega) hk
                omega

/-- What Parse keeps while it reads: its result's block and the reader's. -/
structure Pr (w wx : World) (p : Nat) : Prop where
  past : Past w wx
  rz : Row wx p 26 zero3
  wp : w.heap.size ≤ p

set_option maxHeartbeats 4000000 in
set_option maxRecDepth 100000 in
theorem parse_any (A : Option Addr) (n c : Nat) (xs : List Int) (w : World) (hS : Sl w A n c xs) (hn : n ≤ 1048577) :
    Calls Tryd.prog 8 #[.slice A n c] w (ParseP (parseL xs n) w) := by
  have hi2 := node3 zero3 rfl
  have ho2 : zero3.all (·.oneCell') = true := by simp [zero3, Value.oneCell']
  have hn0 := heap_alloc_new w (.cells zero3 26)
  by_cases hbig : 1048576 < n
  · have HH : Hid (parseL xs n = .err 1 1048576) := Lib.hid (by unfold parseL; rw [if_pos hbig])
    have HN := Lib.hid (fun w => new_any 1 1048576 w)
    simp only [valFlt] at HN
    have hbi : (1048576 : Int) < (n : Int) := by omega
    have H1 : Hid (Pr w (w.alloc (.cells zero3 26)) w.heap.size) := ⟨past_alloc8 _ _, Row.new _ _ _, Nat.le_refl _⟩
    clear hS
    go_enter Tryd.func8, Tryd.ntmps8
    go_wp2_with fail
    generalize w.alloc (.cells zero3 26) = w1 at *
    refine (HN.out _).mono ?_
    rintro e w2 ⟨rfl, hp⟩
    have H2 : Hid (Pr w w2 w.heap.size) := ⟨H1.out.past.trans' hp, H1.out.rz.past hp, H1.out.wp⟩
    have hrow := H2.out.rz
    clear hp H1
    go_wp2_with (refine wpList_store_row rfl 26 _ _ rfl w.heap.size _ rfl rfl _ _ hrow hi2 rfl ho2 ?_)
    refine bodyPost_ret (results_cr rfl _ _ ⟨w.heap.size, 0, none⟩ _ rfl (load_node _ w.heap.size zero3 (setRow_heap w2 w.heap.size _ _ _ _ hrow) rfl)) rfl ?_
    rw [HH.out]
    exact ⟨_, _, _, rfl, no_in _, below_setRow H2.out.past (Nat.le_refl _) _⟩
  have hni : ¬ (1048576 : Int) < (n : Int) := by omega
  have hlen := hS.len
  have H1 : Hid (Pr w (w.alloc (.cells zero3 26)) w.heap.size ∧ Sl (w.alloc (.cells zero3 26)) A n c xs) := ⟨⟨past_alloc8 _ _, Row.new _ _ _, Nat.le_refl _⟩, hS.past (past_alloc8 _ _)⟩
  have HHL : Hid (parseL xs n = parseW xs n) := Lib.hid (by unfold parseL; rw [if_neg hbig])
  have HLN := Lib.hid hlen
  have hn2 : n ≤ 1048576 := by omega
  clear hS hbig hlen hn0
  go_enter Tryd.func8, Tryd.ntmps8
  go_wp2_with fail
  generalize w.alloc (.cells zero3 26) = w1 at *
  obtain ⟨p, hp⟩ : ∃ p, w.heap.size = p := ⟨_, rfl⟩
  rw [hp] at H1 ⊢
  have HWP := Lib.hid hp
  clear hp
  refine (wnew_any A n c xs w1 H1.out.2 (by omega)).mono ?_
  rintro e w2 ⟨g, B, d, rfl, hrd, hsl, hge, hp2⟩
  rw [HLN.out] at hrd hsl
  have hpa := past_alloc8 w2 (.cells #[.pointer (some ⟨g, 0, none⟩)] 60)
  have hrz := H1.out.1.rz.lt
  have HR : Hid (Rw (w2.alloc (.cells #[.pointer (some ⟨g, 0, none⟩)] 60)) g B n d xs 0 ∧ Pr w (w2.alloc (.cells #[.pointer (some ⟨g, 0, none⟩)] 60)) p ∧ Row (w2.alloc (.cells #[.pointer (some ⟨g, 0, none⟩)] 60)) w2.heap.size 60 #[.pointer (some ⟨g, 0, none⟩)] ∧ p < g ∧ g < w2.heap.size) :=
    Lib.hid ⟨(Rw.past ⟨hrd, hsl, Nat.zero_le _, hn2⟩ hpa), ⟨(H1.out.1.past.trans' hp2).trans' hpa, (H1.out.1.rz.past hp2).past hpa, H1.out.1.wp⟩, Row.new _ _ _, by omega, hrd.lt⟩
  clear hrd hsl hge hp2 hpa hrz H1
  go_wp2_with fail
  generalize w2.alloc (.cells #[.pointer (some ⟨g, 0, none⟩)] 60) = w3 at *
  generalize w2.heap.size = r at *
  have f3 : w3.cell? ⟨r, 0, none⟩ = some (.pointer (some ⟨g, 0, none⟩)) := HR.out.2.2.1.cell 0
  have HND := node_any g B n d xs 8 w3 0 n 0 (by omega) (by omega) HR.out.1 (Nat.le_refl _)
  have HPW : Hid (parseW xs n = (match rd xs 8 0 n with | .err c a => .err c a | .ok t nx => if nx < n then .err 4 nx else .ok t nx)) := Lib.hid rfl
  cases hq : rd xs 8 0 n with
  | err c0 a0 =>
    rw [hq] at HND HPW
    have HH : Hid (parseL xs n = .err c0 a0) := Lib.hid (HHL.out.trans HPW.out)
    refine HND.mono ?_
    rintro e w4 ⟨rfl, hg⟩
    have H4 : Hid (Past w w4 ∧ Row w4 p 26 zero3) := by
      refine Lib.hid ⟨past_of_only HR.out.2.1.past hg HR.out.2.1.past.size (by have := HR.out.2.1.wp; have := HR.out.2.2.2.1; omega), HR.out.2.1.rz.grown hg (by have := HR.out.2.2.2.1; intro e; injection e with e; omega)⟩
    have hpa := past_alloc8 w4 (.cells zero3 26)
    have H5 : Hid (Past w (w4.alloc (.cells zero3 26)) ∧ Row (w4.alloc (.cells zero3 26)) p 26 zero3) := Lib.hid ⟨H4.out.1.trans' hpa, H4.out.2.past hpa⟩
    have hrow := H5.out.2
    obtain ⟨w5, hw5⟩ : ∃ w5, w5 = w4.alloc (.cells zero3 26) := ⟨_, rfl⟩
    rw [← hw5] at hrow H5
    have HW5 := Lib.hid hw5
    clear hg H4 hpa hw5 HR f3 HND hq
    simp only [valFlt]
    go_upto_region 5 with (fail)
    rw [show w4.alloc (.cells #[.int .u8 0, .slice none 0 0, .slice none 0 0] 26) = w5 from HW5.out.symm]
    go_wp2_with (refine wpList_store_row rfl 26 _ _ rfl p _ rfl rfl _ _ hrow hi2 rfl ho2 ?_)
    refine bodyPost_ret (results_cr rfl _ _ ⟨p, 0, none⟩ _ rfl (load_node _ p zero3 (setRow_heap w5 p _ _ _ _ hrow) rfl)) rfl ?_
    rw [HH.out]
    exact ⟨_, _, _, rfl, no_in _, below_setRow H5.out.1 (by have := HWP.out; omega) _⟩
  | ok t nx =>
    rw [hq] at HND HPW
    have hnx := rd_next xs 8 0 n t nx hq
    refine HND.mono ?_
    rintro e w4 ⟨x, y, z, rfl, hlv, hrd, hg⟩
    obtain ⟨tg, kA, kn, kc, kK, km, kd, rfl, rfl, rfl⟩ := (hlv w4 fun _ _ _ => rfl).shape
    have hpa := past_alloc8 w4 (.cells #[.int .u8 tg, .slice kA kn kc, .slice kK km kd] 26)
    have hne : ∀ j, j ≠ g → some j ≠ some g := fun j h e => h (by injection e)
    obtain ⟨w5, hw5⟩ : ∃ w5, w5 = w4.alloc (.cells #[.int .u8 tg, .slice kA kn kc, .slice kK km kd] 26) := ⟨_, rfl⟩
    have hrn : Row w5 w4.heap.size 26 #[.int .u8 tg, .slice kA kn kc, .slice kK km kd] := by rw [hw5]; exact Row.new _ _ _
    rw [← hw5] at hpa
    have H5 : Hid (Past w w5 ∧ Row w5 p 26 zero3 ∧ Row w5 r 60 #[.pointer (some ⟨g, 0, none⟩)] ∧ Rdr w5 g B n d nx ∧ Row w5 w4.heap.size 26 #[.int .u8 tg, .slice kA kn kc, .slice kK km kd] ∧ Past w4 w5 ∧ w3.heap.size ≤ w4.heap.size ∧ p < w3.heap.size) := by
      have h1 := HR.out.2.1
      have h2 := HR.out.2.2
      refine Lib.hid ⟨Past.trans' (past_of_only h1.past hg h1.past.size (by have := h1.wp; omega)) hpa, (h1.rz.grown hg (hne _ (by omega))).past hpa, (h2.1.grown hg (hne _ (by omega))).past hpa, hrd.past hpa, hrn, hpa, hg.size, h1.rz.lt⟩
    have HLV := Lib.hid hlv
    have HW5 := Lib.hid hw5
    clear hg hpa hw5 HR f3 HND hrd hlv hrn hne
    have e2 : w5.cell? ⟨r, 0, none⟩ = some (.pointer (some ⟨g, 0, none⟩)) := H5.out.2.2.1.cell 0
    go_upto_region 5 with (fail)
    rw [← HW5.out]
    go_wp2_with fail
    refine (left_any w5 g B n d nx H5.out.2.2.2.1 hnx.2 (by omega)).mono ?_
    rintro e w6 ⟨rfl, m6, hw6⟩
    have hp6 : Past w5 w6 := by rw [hw6]; exact Past.drewN (Below.refl _ w5) m6
    have H6 : Hid (Past w w6 ∧ Row w6 p 26 zero3 ∧ Row w6 r 60 #[.pointer (some ⟨g, 0, none⟩)] ∧ Rdr w6 g B n d nx ∧ Row w6 w4.heap.size 26 #[.int .u8 tg, .slice kA kn kc, .slice kK km kd] ∧ Past w4 w6) :=
      Lib.hid ⟨H5.out.1.trans' hp6, H5.out.2.1.past hp6, H5.out.2.2.1.past hp6, H5.out.2.2.2.1.past hp6, H5.out.2.2.2.2.1.past hp6, H5.out.2.2.2.2.2.1.trans' hp6⟩
    have HSZ := Lib.hid H5.out.2.2.2.2.2.2
    clear hw6 hp6 H5 e2 HW5
    have e2 : w6.cell? ⟨r, 0, none⟩ = some (.pointer (some ⟨g, 0, none⟩)) := H6.out.2.2.1.cell 0
    by_cases hlt : nx < n
    · have HH : Hid (parseL xs n = .err 4 nx) := Lib.hid (by rw [HHL.out, HPW.out]; exact if_pos hlt)
      have hli : (0 : Int) < ((n - nx : Nat) : Int) := by omega
      have HN := Lib.hid (fun w => new_any 4 (nx : Int) w)
      simp only [valFlt] at HN
      clear hq
      go_wp2_with fail
      refine (wat_any _ g B n d nx H6.out.2.2.2.1).mono ?_
      rintro e w7 ⟨rfl, rfl⟩
      go_wp2_with fail
      refine (HN.out _).mono ?_
      rintro e w7 ⟨rfl, hp⟩
      have H7 : Hid (Past w w7 ∧ Row w7 p 26 zero3) := Lib.hid ⟨H6.out.1.trans' hp, H6.out.2.1.past hp⟩
      have hrow := H7.out.2
      clear hp H6
      go_wp2_with (refine wpList_store_row rfl 26 _ _ rfl p _ rfl rfl _ _ hrow hi2 rfl ho2 ?_)
      refine bodyPost_ret (results_cr rfl _ _ ⟨p, 0, none⟩ _ rfl (load_node _ p zero3 (setRow_heap w7 p _ _ _ _ hrow) rfl)) rfl ?_
      rw [HH.out]
      exact ⟨_, _, _, rfl, no_in _, below_setRow H7.out.1 (by have := HWP.out; omega) _⟩
    · have HH : Hid (parseL xs n = .ok t nx) := Lib.hid (by rw [HHL.out, HPW.out]; exact if_neg hlt)
      have hli : ¬ (0 : Int) < ((n - nx : Nat) : Int) := by omega
      have hrow := H6.out.2.1
      have hrl := H6.out.2.2.2.2.1
      have hi3 := node3 #[.int .u8 tg, .slice kA kn kc, .slice kK km kd] rfl
      have ho3 : (#[Value.int .u8 tg, .slice kA kn kc, .slice kK km kd] : Array Value).all (·.oneCell') = true := by simp [Value.oneCell']
      clear hq
      go_wp2_with (first
        | (refine wpList_load_row rfl 26 _ rfl w4.heap.size rfl _ _ (0, 0) _ hrl Tryd.underlying26 rfl hi3 ?_)
        | (refine wpList_store_row rfl 26 _ _ rfl p _ rfl rfl _ _ hrow hi3 rfl ho3 ?_))
      refine bodyPost_ret (results_cr rfl _ _ ⟨p, 0, none⟩ _ rfl (load_node _ p _ (setRow_heap w6 p _ _ _ _ hrow) rfl)) rfl ?_
      rw [HH.out]
      have hwp := HWP.out
      refine ⟨_, _, _, rfl, HLV.out _ fun k h1 h2 => ?_, below_setRow H6.out.1 (by omega) _⟩
      have hsz := HSZ.out
      rw [setRow_other _ _ _ _ (by omega)]
      exact H6.out.2.2.2.2.2.block k h2

theorem prog8 : Prog8 where
  parse := parse_any
  encode := fun v t w h hf => encode_any h hf
  same := fun v t v2 t2 w h h2 hf hf2 => dsame_any h h2 (by have := hf.2.1; omega)
  depth := fun v t w h hf => depth_any h w (Below.refl _ _) (by have := hf.2.1; omega)
  count := fun v t w h hf => count_any h w (Below.refl _ _) (by have := hf.2.1; omega)
  valid := fun v t w h hf => valid_any h (Below.refl _ _) hf

end Go.Proofs.YtdpnfojpeafdhaaDoor
