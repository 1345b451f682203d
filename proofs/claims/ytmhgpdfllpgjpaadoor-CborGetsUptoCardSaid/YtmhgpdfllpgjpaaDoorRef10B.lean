/- The reference's head of an item. -/
import Derived.Test.YtmhgpdfllpgjpaaDoorRef10A
import Derived.Test.YtmhgpdfllpgjpaaDoorNum
namespace Go.Proofs.YtmhgpdfllpgjpaaDoor
open Go.RowKit
set_option linter.unusedVariables false

/-- How many bytes follow the first one of a head, and what its lowest bits are. -/
def hsz (n : Nat) : Nat := if n < 24 then 0 else if n < 256 then 1 else if n < 65536 then 2 else if n < 4294967296 then 4 else 8
def hlow (n : Nat) : Nat := if n < 24 then n else if n < 256 then 24 else if n < 65536 then 25 else if n < 4294967296 then 26 else 27
def headB (kd n : Nat) : List Int := ((32 * kd + hlow n : Nat) : Int) :: beB (hsz n) (n : Int)
theorem hsz_le (n : Nat) : hsz n ≤ 8 := by
  unfold hsz
  repeat' split
  all_goals omega
theorem hlow_le (n : Nat) : hlow n ≤ 27 := by
  unfold hlow
  repeat' split
  all_goals omega
theorem headB_len (kd n : Nat) : (headB kd n).length = 1 + hsz n := by
  unfold headB
  rw [List.length_cons, beB_len]
  omega
theorem headB_rng (kd n : Nat) (hk : kd ≤ 7) : ∀ x ∈ headB kd n, 0 ≤ x ∧ x < 256 := by
  intro x hx
  unfold headB at hx
  rcases List.mem_cons.1 hx with rfl | hx
  · have := hlow_le n
    omega
  · exact beB_rng _ _ x hx
theorem beB_take (s : Nat) (x : Int) : ∀ j, j < s → (beB s x).take (j + 1) = (beB s x).take j ++ [x / 256 ^ (s - 1 - j) % 256] := by
  intro j hj
  rw [List.take_add_one]
  congr 1
  have h : ∀ (s j : Nat), j < s → (beB s x)[j]? = some (x / 256 ^ (s - 1 - j) % 256) := by
    intro s
    induction s with
    | zero => intro j h; omega
    | succ s ih =>
      intro j h
      cases j with
      | zero => rfl
      | succ j =>
        show (beB s x)[j]? = _
        rw [ih j (by omega), show s + 1 - 1 - (j + 1) = s - 1 - j by omega]
  rw [h s j hj]
  rfl

/-- What Head hands back: bytes of its own. -/
def HeadP (xs : List Int) (w : World) (e : Ending) (w' : World) : Prop := ∃ A c, e = .returned (.slice A xs.length c) ∧ w'.ownsRow w.heap.size 5 1 (.slice A xs.length c) xs.length (xs.map (Value.int .u8)) ∧ Past w w'
/-- What the loop over the number's bytes keeps. -/
structure Hw (w wx : World) (kd n j : Nat) (A : Option Addr) (L c : Nat) (xs : List Int) : Prop where
  own : wx.ownsRow w.heap.size 5 1 (.slice A L c) L (xs.map (Value.int .u8))
  past : Past w wx
  len : xs.length = L
  eq : xs = ((32 * kd + hlow n : Nat) : Int) :: (beB (hsz n) (n : Int)).take j

theorem sl_one10 (w : World) (e : TypeId) (x : Int) (h : 0 ≤ x ∧ x < 256) : Sl (w.alloc (.cells #[.int .u8 x] e)) (some ⟨w.heap.size, 0, none⟩) 1 1 [x] :=
  Sl.of_own (own_one w e x rfl (Nat.le_refl _)) (by simpa using h)
theorem Hw.push {w wx wy : World} {kd n j L c c5 : Nat} {A A5 : Option Addr} {xs : List Int} {x : Int} {o : Obj} (h : Hw w wx kd n j A L c xs) (hx : (beB (hsz n) (n : Int)).take (j + 1) = (beB (hsz n) (n : Int)).take j ++ [x])
    (hown : wy.ownsRow w.heap.size 5 1 (.slice A5 (L + 1) c5) (L + 1) ((xs ++ [x]).map (Value.int .u8))) (hg : (wx.alloc o).grownBy wy (Value.slice A L c).ownBlock) : Hw w wy kd n (j + 1) A5 (L + 1) c5 (xs ++ [x]) :=
  ⟨hown, past_push (h.past.trans' (past_alloc8 wx o)) (Nat.le_refl _) (h.own.alloc o) hg, by rw [List.length_append, h.len]; rfl, by rw [hx, h.eq]; rfl⟩

set_option maxHeartbeats 2000000 in
set_option maxRecDepth 100000 in
theorem rhead_any (kd n : Nat) (hk : kd ≤ 7) (hn : n < 18446744073709551616) (w : World) : Calls Tryd.prog 26 #[.int .i64 (kd : Int), .int .u64 (n : Int)] w (HeadP (headB kd n) w) := by
  have hlw := hlow_le n
  by_cases c0 : n < 24
  · have ci : (n : Int) < 24 := by omega
    have hH : headB kd n = [32 * (kd : Int) + (n : Int)] := by
      have e1 : hsz n = 0 := by unfold hsz; rw [if_pos c0]
      have e2 : hlow n = n := by unfold hlow; rw [if_pos c0]
      unfold headB
      rw [e1, e2]
      show [((32 * kd + n : Nat) : Int)] = _
      rw [show ((32 * kd + n : Nat) : Int) = 32 * (kd : Int) + (n : Int) by omega]
    have HH := Lib.hid hH
    have hw1 : IntKind.u8.wrap (32 * (kd : Int)) = 32 * (kd : Int) := by rw [IntKind.wrap_u8]; omega
    have hw2 : IntKind.u8.wrap (n : Int) = (n : Int) := by rw [IntKind.wrap_u8]; omega
    have hw3 : IntKind.u8.wrap (32 * (kd : Int) + (n : Int)) = 32 * (kd : Int) + (n : Int) := by rw [IntKind.wrap_u8]; omega
    have hki : (kd : Int) ≤ 7 := by omega
    clear hH c0
    go_enter Tryd.func26, Tryd.ntmps26
    go_wp2_with fail
    go_ret
    rw [HH.out]
    exact ⟨some ⟨w.heap.size, 0, none⟩, 1, rfl, own_one w 5 _ rfl (Nat.le_refl _), past_alloc8 _ _⟩
  by_cases c1 : n < 256
  · have hsz1 : hsz n = 1 := by unfold hsz; rw [if_neg c0]; rw [if_pos c1]
    have hlo1 : hlow n = 24 := by unfold hlow; rw [if_neg c0]; rw [if_pos c1]
    have ic0 : ¬ (n : Int) < 24 := by omega
    have ic1 : (n : Int) < 256 := by omega
    have hki : (kd : Int) ≤ 7 := by omega
    have hw1 : IntKind.u8.wrap (32 * (kd : Int) + 24) = 32 * (kd : Int) + 24 := by rw [IntKind.wrap_u8]; omega
    have H0 : Hid (Hw w (w.alloc (.cells #[.int .u8 (32 * (kd : Int) + 24)] 5)) kd n 0 (some ⟨w.heap.size, 0, none⟩) 1 1 [32 * (kd : Int) + 24]) := by
      refine Lib.hid ⟨own_one w 5 _ rfl (Nat.le_refl _), past_alloc8 _ _, rfl, ?_⟩
      rw [hlo1, List.take_zero]
      show [_] = [_]
      congr 1
    have HS1 := Lib.hid hsz1
    clear hsz1 hlo1 c0 c1
    go_enter Tryd.func26, Tryd.ntmps26
    go_wp2_with fail
    go_loopg [7, 8] 1 (fun k s7 s8 wx => ∃ (j L c : Nat) (A : Option Addr) (xs : List Int), j ≤ 1 ∧ k = 1 - j ∧ s8 = .int .i64 (0 - (j : Int)) ∧ s7 = .slice A L c ∧ Hid (Hw w wx kd n j A L c xs))
    case atStart => exact ⟨0, 1, 1, _, _, Nat.zero_le _, rfl, by simp, rfl, H0⟩
    case round =>
      clear H0
      obtain ⟨j, L, c, A, xs, hj, hgk, rfl, rfl, HK⟩ := hrel
      have HGK := Lib.hid hgk
      clear hgk
      by_cases hlt : j < 1
      · have hL : L = 1 + j := by rw [← HK.out.len, HK.out.eq, List.length_cons, List.length_take, beB_len, HS1.out]; omega
        have hj8 : j = 0 := by omega
        clear hlt hj
        rcases hj8 with rfl
        · have hw4 : IntKind.u8.wrap (n : Int) = (n : Int) % 256 := by rw [IntKind.wrap_u8]
          have hL2 : L = 1 := by omega
          clear hL
          subst hL2
          have hbt := beB_take (hsz n) (n : Int) 0 (by rw [HS1.out]; omega)
          rw [HS1.out] at hbt
          have HX : Hid ((beB (hsz n) (n : Int)).take 1 = (beB (hsz n) (n : Int)).take 0 ++ [(n : Int) % 256]) := by
            show _ = _
            rw [HS1.out, hbt]
            rw [show (n : Int) / 256 ^ (1 - 1 - 0) = (n : Int) from Int.ediv_one _]
          clear hbt
          go_wp2_with (at_builtin; refine wpList_append_sl rfl _ _ 22 5 rfl Tryd.underlying22 info8 w.heap.size _ 1 xs rfl (HK.out.own.alloc _) (some ⟨wr.heap.size, 0, none⟩) 1 1 [(n : Int) % 256] rfl (sl_one10 wr 5 _ (by omega)) (by omega) (by have := HK.out.past.size; simp only [World.size_alloc]; omega) ?_; intro v5 w5 hown hgrow; obtain ⟨A5, c5, hv⟩ := own_slice hown; subst hv; have H5 := Lib.hid (HK.out.push HX.out hown hgrow); clear hown hgrow)
          go_roundg (1 - 1)
          case rel => exact ⟨1, 2, c5, A5, _, by omega, rfl, by simp, rfl, H5⟩
          case measure => have := HGK.out; omega
      · obtain rfl : j = 1 := by omega
        have hli : ¬ (0 : Int) ≤ 0 - ((1 : Nat) : Int) := by omega
        go_wp2_with fail
        go_ret
        have hx : xs = headB kd n := by rw [HK.out.eq]; unfold headB; rw [List.take_of_length_le (by rw [beB_len, HS1.out]; exact Nat.le_refl _)]
        rw [← hx]
        have hL := HK.out.len
        subst hL
        exact ⟨A, c, rfl, HK.out.own, HK.out.past⟩
  by_cases c2 : n < 65536
  · have hsz1 : hsz n = 2 := by unfold hsz; rw [if_neg c0]; rw [if_neg c1]; rw [if_pos c2]
    have hlo1 : hlow n = 25 := by unfold hlow; rw [if_neg c0]; rw [if_neg c1]; rw [if_pos c2]
    have ic0 : ¬ (n : Int) < 24 := by omega
    have ic1 : ¬ (n : Int) < 256 := by omega
    have ic2 : (n : Int) < 65536 := by omega
    have hki : (kd : Int) ≤ 7 := by omega
    have hw1 : IntKind.u8.wrap (32 * (kd : Int) + 25) = 32 * (kd : Int) + 25 := by rw [IntKind.wrap_u8]; omega
    have H0 : Hid (Hw w (w.alloc (.cells #[.int .u8 (32 * (kd : Int) + 25)] 5)) kd n 0 (some ⟨w.heap.size, 0, none⟩) 1 1 [32 * (kd : Int) + 25]) := by
      refine Lib.hid ⟨own_one w 5 _ rfl (Nat.le_refl _), past_alloc8 _ _, rfl, ?_⟩
      rw [hlo1, List.take_zero]
      show [_] = [_]
      congr 1
    have HS1 := Lib.hid hsz1
    clear hsz1 hlo1 c0 c1 c2
    go_enter Tryd.func26, Tryd.ntmps26
    go_wp2_with fail
    go_loopg [7, 8] 2 (fun k s7 s8 wx => ∃ (j L c : Nat) (A : Option Addr) (xs : List Int), j ≤ 2 ∧ k = 2 - j ∧ s8 = .int .i64 (1 - (j : Int)) ∧ s7 = .slice A L c ∧ Hid (Hw w wx kd n j A L c xs))
    case atStart => exact ⟨0, 1, 1, _, _, Nat.zero_le _, rfl, by simp, rfl, H0⟩
    case round =>
      clear H0
      obtain ⟨j, L, c, A, xs, hj, hgk, rfl, rfl, HK⟩ := hrel
      have HGK := Lib.hid hgk
      clear hgk
      by_cases hlt : j < 2
      · have hL : L = 1 + j := by rw [← HK.out.len, HK.out.eq, List.length_cons, List.length_take, beB_len, HS1.out]; omega
        have hj8 : j = 0 ∨ j = 1 := by omega
        clear hlt hj
        rcases hj8 with rfl | rfl
        · have hw4 : IntKind.u8.wrap ((n : Int) / 256) = (n : Int) / 256 % 256 := by rw [IntKind.wrap_u8]
          have hL2 : L = 1 := by omega
          clear hL
          subst hL2
          have hbt := beB_take (hsz n) (n : Int) 0 (by rw [HS1.out]; omega)
          rw [HS1.out] at hbt
          have HX : Hid ((beB (hsz n) (n : Int)).take 1 = (beB (hsz n) (n : Int)).take 0 ++ [(n : Int) / 256 % 256]) := by
            show _ = _
            rw [HS1.out, hbt]
            congr 2
          clear hbt
          go_wp2_with (at_builtin; refine wpList_append_sl rfl _ _ 22 5 rfl Tryd.underlying22 info8 w.heap.size _ 1 xs rfl (HK.out.own.alloc _) (some ⟨wr.heap.size, 0, none⟩) 1 1 [(n : Int) / 256 % 256] rfl (sl_one10 wr 5 _ (by omega)) (by omega) (by have := HK.out.past.size; simp only [World.size_alloc]; omega) ?_; intro v5 w5 hown hgrow; obtain ⟨A5, c5, hv⟩ := own_slice hown; subst hv; have H5 := Lib.hid (HK.out.push HX.out hown hgrow); clear hown hgrow)
          go_roundg (2 - 1)
          case rel => exact ⟨1, 2, c5, A5, _, by omega, rfl, by simp, rfl, H5⟩
          case measure => have := HGK.out; omega
        · have hw4 : IntKind.u8.wrap (n : Int) = (n : Int) % 256 := by rw [IntKind.wrap_u8]
          have hL2 : L = 2 := by omega
          clear hL
          subst hL2
          have hbt := beB_take (hsz n) (n : Int) 1 (by rw [HS1.out]; omega)
          rw [HS1.out] at hbt
          have HX : Hid ((beB (hsz n) (n : Int)).take 2 = (beB (hsz n) (n : Int)).take 1 ++ [(n : Int) % 256]) := by
            show _ = _
            rw [HS1.out, hbt]
            rw [show (n : Int) / 256 ^ (2 - 1 - 1) = (n : Int) from Int.ediv_one _]
          clear hbt
          go_wp2_with (at_builtin; refine wpList_append_sl rfl _ _ 22 5 rfl Tryd.underlying22 info8 w.heap.size _ 2 xs rfl (HK.out.own.alloc _) (some ⟨wr.heap.size, 0, none⟩) 1 1 [(n : Int) % 256] rfl (sl_one10 wr 5 _ (by omega)) (by omega) (by have := HK.out.past.size; simp only [World.size_alloc]; omega) ?_; intro v5 w5 hown hgrow; obtain ⟨A5, c5, hv⟩ := own_slice hown; subst hv; have H5 := Lib.hid (HK.out.push HX.out hown hgrow); clear hown hgrow)
          go_roundg (2 - 2)
          case rel => exact ⟨2, 3, c5, A5, _, by omega, rfl, by simp, rfl, H5⟩
          case measure => have := HGK.out; omega
      · obtain rfl : j = 2 := by omega
        have hli : ¬ (0 : Int) ≤ 1 - ((2 : Nat) : Int) := by omega
        go_wp2_with fail
        go_ret
        have hx : xs = headB kd n := by rw [HK.out.eq]; unfold headB; rw [List.take_of_length_le (by rw [beB_len, HS1.out]; exact Nat.le_refl _)]
        rw [← hx]
        have hL := HK.out.len
        subst hL
        exact ⟨A, c, rfl, HK.out.own, HK.out.past⟩
  by_cases c3 : n < 4294967296
  · have hsz1 : hsz n = 4 := by unfold hsz; rw [if_neg c0]; rw [if_neg c1]; rw [if_neg c2]; rw [if_pos c3]
    have hlo1 : hlow n = 26 := by unfold hlow; rw [if_neg c0]; rw [if_neg c1]; rw [if_neg c2]; rw [if_pos c3]
    have ic0 : ¬ (n : Int) < 24 := by omega
    have ic1 : ¬ (n : Int) < 256 := by omega
    have ic2 : ¬ (n : Int) < 65536 := by omega
    have ic3 : (n : Int) < 4294967296 := by omega
    have hki : (kd : Int) ≤ 7 := by omega
    have hw1 : IntKind.u8.wrap (32 * (kd : Int) + 26) = 32 * (kd : Int) + 26 := by rw [IntKind.wrap_u8]; omega
    have H0 : Hid (Hw w (w.alloc (.cells #[.int .u8 (32 * (kd : Int) + 26)] 5)) kd n 0 (some ⟨w.heap.size, 0, none⟩) 1 1 [32 * (kd : Int) + 26]) := by
      refine Lib.hid ⟨own_one w 5 _ rfl (Nat.le_refl _), past_alloc8 _ _, rfl, ?_⟩
      rw [hlo1, List.take_zero]
      show [_] = [_]
      congr 1
    have HS1 := Lib.hid hsz1
    clear hsz1 hlo1 c0 c1 c2 c3
    go_enter Tryd.func26, Tryd.ntmps26
    go_wp2_with fail
    go_loopg [7, 8] 4 (fun k s7 s8 wx => ∃ (j L c : Nat) (A : Option Addr) (xs : List Int), j ≤ 4 ∧ k = 4 - j ∧ s8 = .int .i64 (3 - (j : Int)) ∧ s7 = .slice A L c ∧ Hid (Hw w wx kd n j A L c xs))
    case atStart => exact ⟨0, 1, 1, _, _, Nat.zero_le _, rfl, by simp, rfl, H0⟩
    case round =>
      clear H0
      obtain ⟨j, L, c, A, xs, hj, hgk, rfl, rfl, HK⟩ := hrel
      have HGK := Lib.hid hgk
      clear hgk
      by_cases hlt : j < 4
      · have hL : L = 1 + j := by rw [← HK.out.len, HK.out.eq, List.length_cons, List.length_take, beB_len, HS1.out]; omega
        have hj8 : j = 0 ∨ j = 1 ∨ j = 2 ∨ j = 3 := by omega
        clear hlt hj
        rcases hj8 with rfl | rfl | rfl | rfl
        · have hw4 : IntKind.u8.wrap ((n : Int) / 16777216) = (n : Int) / 16777216 % 256 := by rw [IntKind.wrap_u8]
          have hL2 : L = 1 := by omega
          clear hL
          subst hL2
          have hbt := beB_take (hsz n) (n : Int) 0 (by rw [HS1.out]; omega)
          rw [HS1.out] at hbt
          have HX : Hid ((beB (hsz n) (n : Int)).take 1 = (beB (hsz n) (n : Int)).take 0 ++ [(n : Int) / 16777216 % 256]) := by
            show _ = _
            rw [HS1.out, hbt]
            congr 2
          clear hbt
          go_wp2_with (at_builtin; refine wpList_append_sl rfl _ _ 22 5 rfl Tryd.underlying22 info8 w.heap.size _ 1 xs rfl (HK.out.own.alloc _) (some ⟨wr.heap.size, 0, none⟩) 1 1 [(n : Int) / 16777216 % 256] rfl (sl_one10 wr 5 _ (by omega)) (by omega) (by have := HK.out.past.size; simp only [World.size_alloc]; omega) ?_; intro v5 w5 hown hgrow; obtain ⟨A5, c5, hv⟩ := own_slice hown; subst hv; have H5 := Lib.hid (HK.out.push HX.out hown hgrow); clear hown hgrow)
          go_roundg (4 - 1)
          case rel => exact ⟨1, 2, c5, A5, _, by omega, rfl, by simp, rfl, H5⟩
          case measure => have := HGK.out; omega
        · have hw4 : IntKind.u8.wrap ((n : Int) / 65536) = (n : Int) / 65536 % 256 := by rw [IntKind.wrap_u8]
          have hL2 : L = 2 := by omega
          clear hL
          subst hL2
          have hbt := beB_take (hsz n) (n : Int) 1 (by rw [HS1.out]; omega)
          rw [HS1.out] at hbt
          have HX : Hid ((beB (hsz n) (n : Int)).take 2 = (beB (hsz n) (n : Int)).take 1 ++ [(n : Int) / 65536 % 256]) := by
            show _ = _
            rw [HS1.out, hbt]
            congr 2
          clear hbt
          go_wp2_with (at_builtin; refine wpList_append_sl rfl _ _ 22 5 rfl Tryd.underlying22 info8 w.heap.size _ 2 xs rfl (HK.out.own.alloc _) (some ⟨wr.heap.size, 0, none⟩) 1 1 [(n : Int) / 65536 % 256] rfl (sl_one10 wr 5 _ (by omega)) (by omega) (by have := HK.out.past.size; simp only [World.size_alloc]; omega) ?_; intro v5 w5 hown hgrow; obtain ⟨A5, c5, hv⟩ := own_slice hown; subst hv; have H5 := Lib.hid (HK.out.push HX.out hown hgrow); clear hown hgrow)
          go_roundg (4 - 2)
          case rel => exact ⟨2, 3, c5, A5, _, by omega, rfl, by simp, rfl, H5⟩
          case measure => have := HGK.out; omega
        · have hw4 : IntKind.u8.wrap ((n : Int) / 256) = (n : Int) / 256 % 256 := by rw [IntKind.wrap_u8]
          have hL2 : L = 3 := by omega
          clear hL
          subst hL2
          have hbt := beB_take (hsz n) (n : Int) 2 (by rw [HS1.out]; omega)
          rw [HS1.out] at hbt
          have HX : Hid ((beB (hsz n) (n : Int)).take 3 = (beB (hsz n) (n : Int)).take 2 ++ [(n : Int) / 256 % 256]) := by
            show _ = _
            rw [HS1.out, hbt]
            congr 2
          clear hbt
          go_wp2_with (at_builtin; refine wpList_append_sl rfl _ _ 22 5 rfl Tryd.underlying22 info8 w.heap.size _ 3 xs rfl (HK.out.own.alloc _) (some ⟨wr.heap.size, 0, none⟩) 1 1 [(n : Int) / 256 % 256] rfl (sl_one10 wr 5 _ (by omega)) (by omega) (by have := HK.out.past.size; simp only [World.size_alloc]; omega) ?_; intro v5 w5 hown hgrow; obtain ⟨A5, c5, hv⟩ := own_slice hown; subst hv; have H5 := Lib.hid (HK.out.push HX.out hown hgrow); clear hown hgrow)
          go_roundg (4 - 3)
          case rel => exact ⟨3, 4, c5, A5, _, by omega, rfl, by simp, rfl, H5⟩
          case measure => have := HGK.out; omega
        · have hw4 : IntKind.u8.wrap (n : Int) = (n : Int) % 256 := by rw [IntKind.wrap_u8]
          have hL2 : L = 4 := by omega
          clear hL
          subst hL2
          have hbt := beB_take (hsz n) (n : Int) 3 (by rw [HS1.out]; omega)
          rw [HS1.out] at hbt
          have HX : Hid ((beB (hsz n) (n : Int)).take 4 = (beB (hsz n) (n : Int)).take 3 ++ [(n : Int) % 256]) := by
            show _ = _
            rw [HS1.out, hbt]
            rw [show (n : Int) / 256 ^ (4 - 1 - 3) = (n : Int) from Int.ediv_one _]
          clear hbt
          go_wp2_with (at_builtin; refine wpList_append_sl rfl _ _ 22 5 rfl Tryd.underlying22 info8 w.heap.size _ 4 xs rfl (HK.out.own.alloc _) (some ⟨wr.heap.size, 0, none⟩) 1 1 [(n : Int) % 256] rfl (sl_one10 wr 5 _ (by omega)) (by omega) (by have := HK.out.past.size; simp only [World.size_alloc]; omega) ?_; intro v5 w5 hown hgrow; obtain ⟨A5, c5, hv⟩ := own_slice hown; subst hv; have H5 := Lib.hid (HK.out.push HX.out hown hgrow); clear hown hgrow)
          go_roundg (4 - 4)
          case rel => exact ⟨4, 5, c5, A5, _, by omega, rfl, by simp, rfl, H5⟩
          case measure => have := HGK.out; omega
      · obtain rfl : j = 4 := by omega
        have hli : ¬ (0 : Int) ≤ 3 - ((4 : Nat) : Int) := by omega
        go_wp2_with fail
        go_ret
        have hx : xs = headB kd n := by rw [HK.out.eq]; unfold headB; rw [List.take_of_length_le (by rw [beB_len, HS1.out]; exact Nat.le_refl _)]
        rw [← hx]
        have hL := HK.out.len
        subst hL
        exact ⟨A, c, rfl, HK.out.own, HK.out.past⟩
  have hsz1 : hsz n = 8 := by unfold hsz; rw [if_neg c0]; rw [if_neg c1]; rw [if_neg c2]; rw [if_neg c3]
  have hlo1 : hlow n = 27 := by unfold hlow; rw [if_neg c0]; rw [if_neg c1]; rw [if_neg c2]; rw [if_neg c3]
  have ic0 : ¬ (n : Int) < 24 := by omega
  have ic1 : ¬ (n : Int) < 256 := by omega
  have ic2 : ¬ (n : Int) < 65536 := by omega
  have ic3 : ¬ (n : Int) < 4294967296 := by omega
  have hki : (kd : Int) ≤ 7 := by omega
  have hw1 : IntKind.u8.wrap (32 * (kd : Int) + 27) = 32 * (kd : Int) + 27 := by rw [IntKind.wrap_u8]; omega
  have H0 : Hid (Hw w (w.alloc (.cells #[.int .u8 (32 * (kd : Int) + 27)] 5)) kd n 0 (some ⟨w.heap.size, 0, none⟩) 1 1 [32 * (kd : Int) + 27]) := by
    refine Lib.hid ⟨own_one w 5 _ rfl (Nat.le_refl _), past_alloc8 _ _, rfl, ?_⟩
    rw [hlo1, List.take_zero]
    show [_] = [_]
    congr 1
  have HS1 := Lib.hid hsz1
  clear hsz1 hlo1 c0 c1 c2 c3
  go_enter Tryd.func26, Tryd.ntmps26
  go_wp2_with fail
  go_loopg [7, 8] 8 (fun k s7 s8 wx => ∃ (j L c : Nat) (A : Option Addr) (xs : List Int), j ≤ 8 ∧ k = 8 - j ∧ s8 = .int .i64 (7 - (j : Int)) ∧ s7 = .slice A L c ∧ Hid (Hw w wx kd n j A L c xs))
  case atStart => exact ⟨0, 1, 1, _, _, Nat.zero_le _, rfl, by simp, rfl, H0⟩
  case round =>
    clear H0
    obtain ⟨j, L, c, A, xs, hj, hgk, rfl, rfl, HK⟩ := hrel
    have HGK := Lib.hid hgk
    clear hgk
    by_cases hlt : j < 8
    · have hL : L = 1 + j := by rw [← HK.out.len, HK.out.eq, List.length_cons, List.length_take, beB_len, HS1.out]; omega
      have hj8 : j = 0 ∨ j = 1 ∨ j = 2 ∨ j = 3 ∨ j = 4 ∨ j = 5 ∨ j = 6 ∨ j = 7 := by omega
      clear hlt hj
      rcases hj8 with rfl | rfl | rfl | rfl | rfl | rfl | rfl | rfl
      · have hw4 : IntKind.u8.wrap ((n : Int) / 72057594037927936) = (n : Int) / 72057594037927936 % 256 := by rw [IntKind.wrap_u8]
        have hL2 : L = 1 := by omega
        clear hL
        subst hL2
        have hbt := beB_take (hsz n) (n : Int) 0 (by rw [HS1.out]; omega)
        rw [HS1.out] at hbt
        have HX : Hid ((beB (hsz n) (n : Int)).take 1 = (beB (hsz n) (n : Int)).take 0 ++ [(n : Int) / 72057594037927936 % 256]) := by
          show _ = _
          rw [HS1.out, hbt]
          congr 2
        clear hbt
        go_wp2_with (at_builtin; refine wpList_append_sl rfl _ _ 22 5 rfl Tryd.underlying22 info8 w.heap.size _ 1 xs rfl (HK.out.own.alloc _) (some ⟨wr.heap.size, 0, none⟩) 1 1 [(n : Int) / 72057594037927936 % 256] rfl (sl_one10 wr 5 _ (by omega)) (by omega) (by have := HK.out.past.size; simp only [World.size_alloc]; omega) ?_; intro v5 w5 hown hgrow; obtain ⟨A5, c5, hv⟩ := own_slice hown; subst hv; have H5 := Lib.hid (HK.out.push HX.out hown hgrow); clear hown hgrow)
        go_roundg (8 - 1)
        case rel => exact ⟨1, 2, c5, A5, _, by omega, rfl, by simp, rfl, H5⟩
        case measure => have := HGK.out; omega
      · have hw4 : IntKind.u8.wrap ((n : Int) / 281474976710656) = (n : Int) / 281474976710656 % 256 := by rw [IntKind.wrap_u8]
        have hL2 : L = 2 := by omega
        clear hL
        subst hL2
        have hbt := beB_take (hsz n) (n : Int) 1 (by rw [HS1.out]; omega)
        rw [HS1.out] at hbt
        have HX : Hid ((beB (hsz n) (n : Int)).take 2 = (beB (hsz n) (n : Int)).take 1 ++ [(n : Int) / 281474976710656 % 256]) := by
          show _ = _
          rw [HS1.out, hbt]
          congr 2
        clear hbt
        go_wp2_with (at_builtin; refine wpList_append_sl rfl _ _ 22 5 rfl Tryd.underlying22 info8 w.heap.size _ 2 xs rfl (HK.out.own.alloc _) (some ⟨wr.heap.size, 0, none⟩) 1 1 [(n : Int) / 281474976710656 % 256] rfl (sl_one10 wr 5 _ (by omega)) (by omega) (by have := HK.out.past.size; simp only [World.size_alloc]; omega) ?_; intro v5 w5 hown hgrow; obtain ⟨A5, c5, hv⟩ := own_slice hown; subst hv; have H5 := Lib.hid (HK.out.push HX.out hown hgrow); clear hown hgrow)
        go_roundg (8 - 2)
        case rel => exact ⟨2, 3, c5, A5, _, by omega, rfl, by simp, rfl, H5⟩
        case measure => have := HGK.out; omega
      · have hw4 : IntKind.u8.wrap ((n : Int) / 1099511627776) = (n : Int) / 1099511627776 % 256 := by rw [IntKind.wrap_u8]
        have hL2 : L = 3 := by omega
        clear hL
        subst hL2
        have hbt := beB_take (hsz n) (n : Int) 2 (by rw [HS1.out]; omega)
        rw [HS1.out] at hbt
        have HX : Hid ((beB (hsz n) (n : Int)).take 3 = (beB (hsz n) (n : Int)).take 2 ++ [(n : Int) / 1099511627776 % 256]) := by
          show _ = _
          rw [HS1.out, hbt]
          congr 2
        clear hbt
        go_wp2_with (at_builtin; refine wpList_append_sl rfl _ _ 22 5 rfl Tryd.underlying22 info8 w.heap.size _ 3 xs rfl (HK.out.own.alloc _) (some ⟨wr.heap.size, 0, none⟩) 1 1 [(n : Int) / 1099511627776 % 256] rfl (sl_one10 wr 5 _ (by omega)) (by omega) (by have := HK.out.past.size; simp only [World.size_alloc]; omega) ?_; intro v5 w5 hown hgrow; obtain ⟨A5, c5, hv⟩ := own_slice hown; subst hv; have H5 := Lib.hid (HK.out.push HX.out hown hgrow); clear hown hgrow)
        go_roundg (8 - 3)
        case rel => exact ⟨3, 4, c5, A5, _, by omega, rfl, by simp, rfl, H5⟩
        case measure => have := HGK.out; omega
      · have hw4 : IntKind.u8.wrap ((n : Int) / 4294967296) = (n : Int) / 4294967296 % 256 := by rw [IntKind.wrap_u8]
        have hL2 : L = 4 := by omega
        clear hL
        subst hL2
        have hbt := beB_take (hsz n) (n : Int) 3 (by rw [HS1.out]; omega)
        rw [HS1.out] at hbt
        have HX : Hid ((beB (hsz n) (n : Int)).take 4 = (beB (hsz n) (n : Int)).take 3 ++ [(n : Int) / 4294967296 % 256]) := by
          show _ = _
          rw [HS1.out, hbt]
          congr 2
        clear hbt
        go_wp2_with (at_builtin; refine wpList_append_sl rfl _ _ 22 5 rfl Tryd.underlying22 info8 w.heap.size _ 4 xs rfl (HK.out.own.alloc _) (some ⟨wr.heap.size, 0, none⟩) 1 1 [(n : Int) / 4294967296 % 256] rfl (sl_one10 wr 5 _ (by omega)) (by omega) (by have := HK.out.past.size; simp only [World.size_alloc]; omega) ?_; intro v5 w5 hown hgrow; obtain ⟨A5, c5, hv⟩ := own_slice hown; subst hv; have H5 := Lib.hid (HK.out.push HX.out hown hgrow); clear hown hgrow)
        go_roundg (8 - 4)
        case rel => exact ⟨4, 5, c5, A5, _, by omega, rfl, by simp, rfl, H5⟩
        case measure => have := HGK.out; omega
      · have hw4 : IntKind.u8.wrap ((n : Int) / 16777216) = (n : Int) / 16777216 % 256 := by rw [IntKind.wrap_u8]
        have hL2 : L = 5 := by omega
        clear hL
        subst hL2
        have hbt := beB_take (hsz n) (n : Int) 4 (by rw [HS1.out]; omega)
        rw [HS1.out] at hbt
        have HX : Hid ((beB (hsz n) (n : Int)).take 5 = (beB (hsz n) (n : Int)).take 4 ++ [(n : Int) / 16777216 % 256]) := by
          show _ = _
          rw [HS1.out, hbt]
          congr 2
        clear hbt
        go_wp2_with (at_builtin; refine wpList_append_sl rfl _ _ 22 5 rfl Tryd.underlying22 info8 w.heap.size _ 5 xs rfl (HK.out.own.alloc _) (some ⟨wr.heap.size, 0, none⟩) 1 1 [(n : Int) / 16777216 % 256] rfl (sl_one10 wr 5 _ (by omega)) (by omega) (by have := HK.out.past.size; simp only [World.size_alloc]; omega) ?_; intro v5 w5 hown hgrow; obtain ⟨A5, c5, hv⟩ := own_slice hown; subst hv; have H5 := Lib.hid (HK.out.push HX.out hown hgrow); clear hown hgrow)
        go_roundg (8 - 5)
        case rel => exact ⟨5, 6, c5, A5, _, by omega, rfl, by simp, rfl, H5⟩
        case measure => have := HGK.out; omega
      · have hw4 : IntKind.u8.wrap ((n : Int) / 65536) = (n : Int) / 65536 % 256 := by rw [IntKind.wrap_u8]
        have hL2 : L = 6 := by omega
        clear hL
        subst hL2
        have hbt := beB_take (hsz n) (n : Int) 5 (by rw [HS1.out]; omega)
        rw [HS1.out] at hbt
        have HX : Hid ((beB (hsz n) (n : Int)).take 6 = (beB (hsz n) (n : Int)).take 5 ++ [(n : Int) / 65536 % 256]) := by
          show _ = _
          rw [HS1.out, hbt]
          congr 2
        clear hbt
        go_wp2_with (at_builtin; refine wpList_append_sl rfl _ _ 22 5 rfl Tryd.underlying22 info8 w.heap.size _ 6 xs rfl (HK.out.own.alloc _) (some ⟨wr.heap.size, 0, none⟩) 1 1 [(n : Int) / 65536 % 256] rfl (sl_one10 wr 5 _ (by omega)) (by omega) (by have := HK.out.past.size; simp only [World.size_alloc]; omega) ?_; intro v5 w5 hown hgrow; obtain ⟨A5, c5, hv⟩ := own_slice hown; subst hv; have H5 := Lib.hid (HK.out.push HX.out hown hgrow); clear hown hgrow)
        go_roundg (8 - 6)
        case rel => exact ⟨6, 7, c5, A5, _, by omega, rfl, by simp, rfl, H5⟩
        case measure => have := HGK.out; omega
      · have hw4 : IntKind.u8.wrap ((n : Int) / 256) = (n : Int) / 256 % 256 := by rw [IntKind.wrap_u8]
        have hL2 : L = 7 := by omega
        clear hL
        subst hL2
        have hbt := beB_take (hsz n) (n : Int) 6 (by rw [HS1.out]; omega)
        rw [HS1.out] at hbt
        have HX : Hid ((beB (hsz n) (n : Int)).take 7 = (beB (hsz n) (n : Int)).take 6 ++ [(n : Int) / 256 % 256]) := by
          show _ = _
          rw [HS1.out, hbt]
          congr 2
        clear hbt
        go_wp2_with (at_builtin; refine wpList_append_sl rfl _ _ 22 5 rfl Tryd.underlying22 info8 w.heap.size _ 7 xs rfl (HK.out.own.alloc _) (some ⟨wr.heap.size, 0, none⟩) 1 1 [(n : Int) / 256 % 256] rfl (sl_one10 wr 5 _ (by omega)) (by omega) (by have := HK.out.past.size; simp only [World.size_alloc]; omega) ?_; intro v5 w5 hown hgrow; obtain ⟨A5, c5, hv⟩ := own_slice hown; subst hv; have H5 := Lib.hid (HK.out.push HX.out hown hgrow); clear hown hgrow)
        go_roundg (8 - 7)
        case rel => exact ⟨7, 8, c5, A5, _, by omega, rfl, by simp, rfl, H5⟩
        case measure => have := HGK.out; omega
      · have hw4 : IntKind.u8.wrap (n : Int) = (n : Int) % 256 := by rw [IntKind.wrap_u8]
        have hL2 : L = 8 := by omega
        clear hL
        subst hL2
        have hbt := beB_take (hsz n) (n : Int) 7 (by rw [HS1.out]; omega)
        rw [HS1.out] at hbt
        have HX : Hid ((beB (hsz n) (n : Int)).take 8 = (beB (hsz n) (n : Int)).take 7 ++ [(n : Int) % 256]) := by
          show _ = _
          rw [HS1.out, hbt]
          rw [show (n : Int) / 256 ^ (8 - 1 - 7) = (n : Int) from Int.ediv_one _]
        clear hbt
        go_wp2_with (at_builtin; refine wpList_append_sl rfl _ _ 22 5 rfl Tryd.underlying22 info8 w.heap.size _ 8 xs rfl (HK.out.own.alloc _) (some ⟨wr.heap.size, 0, none⟩) 1 1 [(n : Int) % 256] rfl (sl_one10 wr 5 _ (by omega)) (by omega) (by have := HK.out.past.size; simp only [World.size_alloc]; omega) ?_; intro v5 w5 hown hgrow; obtain ⟨A5, c5, hv⟩ := own_slice hown; subst hv; have H5 := Lib.hid (HK.out.push HX.out hown hgrow); clear hown hgrow)
        go_roundg (8 - 8)
        case rel => exact ⟨8, 9, c5, A5, _, by omega, rfl, by simp, rfl, H5⟩
        case measure => have := HGK.out; omega
    · obtain rfl : j = 8 := by omega
      have hli : ¬ (0 : Int) ≤ 7 - ((8 : Nat) : Int) := by omega
      go_wp2_with fail
      go_ret
      have hx : xs = headB kd n := by rw [HK.out.eq]; unfold headB; rw [List.take_of_length_le (by rw [beB_len, HS1.out]; exact Nat.le_refl _)]
      rw [← hx]
      have hL := HK.out.len
      subst hL
      exact ⟨A, c, rfl, HK.out.own, HK.out.past⟩

end Go.Proofs.YtmhgpdfllpgjpaaDoor
