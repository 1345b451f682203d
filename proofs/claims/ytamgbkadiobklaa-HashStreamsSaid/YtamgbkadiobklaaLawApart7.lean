/- For every slice of bytes the law HashApart of package pyxlaw07 returns true; there is no further condition. -/
import Derived.Test.YtamgbkadiobklaaFrame7
import Derived.Test.YtamgbkadiobklaaImp7
namespace Go.Proofs.Ytamgbkadiobklaa.hashApart
open Go.ChangeShapes Go.WideShapes Go.ChangeAt Go.RowKit
set_option linter.unusedVariables false

/-- Two streams of one input, in blocks of the call's own. -/
structure Ap (H : Prog7) (w wx : World) (gx gy : Nat) (S : Nat → Lane) (kx ky : Nat) : Prop where
  past : Past w wx
  x : H.St gx 136 S wx kx
  y : H.St gy 136 S wx ky
  hx : w.heap.size ≤ gx
  hy : w.heap.size ≤ gy
  ne : gx ≠ gy
section
variable {H : Prog7} {w wx wy : World} {gx gy kx ky : Nat} {S : Nat → Lane}
theorem Ap.later (h : Ap H w wx gx gy S kx ky) (hp : Past wx wy) : Ap H w wy gx gy S kx ky := ⟨h.past.trans' hp, H.past h.x hp, H.past h.y hp, h.hx, h.hy, h.ne⟩
theorem Ap.set (h : Ap H w wx gx gy S kx ky) {p : Addr} (v : Value) (hp : w.heap.size ≤ p.block) (h1 : p.block ≠ gx) (h2 : p.block ≠ gy) : Ap H w (wx.setCell p v) gx gy S kx ky :=
  ⟨h.past.set hp v, H.set h.x h1, H.set h.y h2, h.hx, h.hy, h.ne⟩
theorem Ap.nextX (h : Ap H w wx gx gy S kx ky) (hg : wx.grownBy wy (some gx)) {k : Nat} (hs : H.St gx 136 S wy k) : Ap H w wy gx gy S k ky :=
  ⟨past_of_only h.past hg h.past.size h.hx, hs, H.grown h.y hg (fun e => h.ne (by injection e with e; exact e.symm)), h.hx, h.hy, h.ne⟩
theorem Ap.nextY (h : Ap H w wx gx gy S kx ky) (hg : wx.grownBy wy (some gy)) {k : Nat} (hs : H.St gy 136 S wy k) : Ap H w wy gx gy S kx k :=
  ⟨past_of_only h.past hg h.past.size h.hy, H.grown h.x hg (fun e => h.ne (by injection e with e)), hs, h.hx, h.hy, h.ne⟩
end
/-- A slice of a call's own, in a block that holds no stream. -/
def Ow (w wx : World) (gx gy : Nat) (v : Value) (n : Nat) : Prop := ∃ ys : List Int, wx.ownsRow w.heap.size 5 1 v n (ys.map (Value.int .u8)) ∧ ∀ g, v.ownBlock = some g → g ≠ gx ∧ g ≠ gy
theorem outp_zero (S : Nat → Lane) (R n : Nat) : outp S R 0 n = bl (rout S R) n := bl_ext fun i _ => by rw [Nat.zero_add]
theorem outp_drop (S : Nat → Lane) (R k n : Nat) : ((bl (rout S R) (k + n)).drop k).take n = outp S R k n := by
  rw [bl_add, List.drop_left' (bl_len _ _)]
  unfold outp
  rw [List.take_of_length_le (by rw [bl_len]; exact Nat.le_refl _)]
theorem slice_tail (b o d : Nat) (hd : 180 ≤ d) (w : World) : (Instr.slice 23 (.slice (some ⟨b, o, none⟩) 180 d) (some (.int .i64 160)) none none).run Try.prog w = .ok (.slice (some ⟨b, o + 160, none⟩) 20 (d - 160)) w := by
  rw [run_slice_l w 23 (some ⟨b, o, none⟩) 180 d Try.underlying23 .i64 160 (by omega) (by omega)]
  have hs : (sizeOf (Try.prog.elem 23)).run Try.prog w = .ok 1 w := by kernel_rfl
  rw [hs]
  have e : (160 : Int).toNat = 160 := rfl
  simp only [Result.andThen, sliced, e]
  rw [if_neg (by omega), Option.map_some, add_none]
theorem sl_setApart {w : World} {A : Option Addr} {n c : Nat} {xs : List Int} {p : Addr} (v : Value) (h : Sl w A n c xs) (hA : ∀ b o, A = some ⟨b, o, none⟩ → b ≠ p.block) : Sl (w.setCell p v) A n c xs :=
  ⟨h.len, h.cap, h.big, fun hn => by
    obtain ⟨b, o, rfl, hc⟩ := h.bytes hn
    refine ⟨b, o, rfl, fun i hi => ?_⟩
    rw [World.cell?_setCell_other]
    · exact hc i hi
    · intro e
      exact hA b o rfl (congrArg Addr.block e).symm, h.rng, h.nil0⟩
/-- A slice that keeps outside of a block that grows. -/
theorem sl_apart {w w' : World} {A : Option Addr} {n c g : Nat} {xs : List Int} (h : Sl w A n c xs) (hg : w.grownBy w' (some g)) (hA : ∀ b o, A = some ⟨b, o, none⟩ → b ≠ g) : Sl w' A n c xs :=
  ⟨h.len, h.cap, h.big, fun hn => by
    obtain ⟨b, o, rfl, hc⟩ := h.bytes hn
    refine ⟨b, o, rfl, fun i hi => hg.cell (hc i hi) (fun e => ?_)⟩
    injection e with e
    exact hA b o rfl e, h.rng, h.nil0⟩

set_option maxHeartbeats 4000000 in
theorem walk (H : Prog7) (A : Option Addr) (n c : Nat) (zs : List Int) (w : World) (hz : IsRow .u8 w A n c zs) :
    Calls Try.prog 7 #[.slice A n c] w fun e w' => e = .returned (.bool true) ∧ Past w w' := by
  have HA := Lib.hid (awake_any H)
  have hs := Sl.of_row hz
  generalize zs.take n = xs at hs
  have hcp := hs.cap
  have hbg := hs.big
  unfold maxLen at hbg
  have HS := Lib.hid hs
  clear hz hs
  by_cases hno : 300 < n
  · go_enter Try.func7, Try.ntmps7
    go_wp2_with fail
    refine (HA.out _).mono ?_
    rintro e w1 ⟨rfl, hp⟩
    have H1 := Lib.hid hp
    clear hp
    go_wp2_with fail
    refine (HA.out _).mono ?_
    rintro e w2 ⟨rfl, hp⟩
    have H2 := Lib.hid (H1.out.trans' hp)
    clear hp
    go_wp2_with fail
    go_ret
    exact ⟨rfl, H2.out⟩
  · have hn : n ≤ 300 := by omega
    go_enter Try.func7, Try.ntmps7
    go_wp2_with fail
    refine (HA.out _).mono ?_
    rintro e w1 ⟨rfl, hp⟩
    have H1 : Hid (Past w w1 ∧ Sl w1 A n c xs) := Lib.hid ⟨hp, HS.out.past hp⟩
    clear hp HA hno
    go_wp2_with (at_builtin; refine wpList_append_sl rfl _ _ 23 5 rfl Try.underlying23 info8 w.heap.size _ 0 [] rfl (own_empty w1 _ rfl H1.out.1.size) A n c xs rfl (H1.out.2.past ((Below.refl _ _).alloc (Nat.le_refl _) _)) ?a1 ?a2 ?_)
    case a1 => omega
    case a2 => exact Nat.le_trans H1.out.1.size (by simp)
    intro v2 w2 hown hgrow
    have H2 : Hid (Past w w2 ∧ Sl w2 A n c xs ∧ w2.ownsRow w.heap.size 5 1 v2 n (xs.map (Value.int .u8))) := by
      have hp : Past w w2 := (H1.out.1.trans' (past_alloc6 w1 (.cells #[] 5))).grown hgrow (Nat.le_trans H1.out.1.size (by simp)) (own_block_ge (own_empty w1 5 rfl H1.out.1.size))
      exact Lib.hid ⟨hp, HS.out.past hp, by simpa using hown⟩
    clear hown hgrow H1
    obtain ⟨BA, bc, rfl⟩ := own_slice H2.out.2.2
    have hcl : (cat (fun _ => xs) 1).length ≤ 1000 := by rw [cat_one, HS.out.len]; omega
    have HN := Lib.hid (fun wx B d (h : Sl wx B n d xs) => H.new256 _ 1 1 _ _ _ _ (Sls.one wx 23 h) (by omega) hcl)
    have HN' : Hid (∀ wx B d, Sl wx B n d xs → Calls Try.prog 20 #[.slice (some ⟨wx.heap.size, 0, none⟩) 1 1] (wx.alloc (.cells #[.slice B n d] 23)) (News (fun w' g => H.St g 136 (rstate xs 136 31) w' 0) (wx.alloc (.cells #[.slice B n d] 23)))) := by
      refine Lib.hid fun wx B d h => ?_
      have := HN.out wx B d h
      rwa [cat_one] at this
    clear HN hcl
    have HX := Lib.hid (fun (N : Int) wx (hp : Past w wx) (hN : N ≤ 100000) => rshake256_any N A n c xs wx (HS.out.past hp) (by omega) hN)
    generalize rstate xs 136 31 = S at *
    go_wp2_with fail
    refine (HN'.out w2 BA bc (Sl.of_own H2.out.2.2 HS.out.rng)).mono ?_
    rintro e w3 ⟨gx, rfl, hgx, hst, hp⟩
    have H3 : Hid (Past w w3 ∧ H.St gx 136 S w3 0 ∧ w2.heap.size < gx ∧ w3.ownsRow w.heap.size 5 1 (.slice BA n bc) n (xs.map (Value.int .u8))) := by
      have hp23 : Past w2 w3 := (past_alloc6 _ _).trans' hp
      exact Lib.hid ⟨H2.out.1.trans' hp23, hst, by have := hgx; simp only [World.size_alloc] at this; omega, own_past H2.out.2.2 hp23⟩
    clear hgx hst hp
    go_wp2_with fail
    refine (HN'.out w3 A c (HS.out.past H3.out.1)).mono ?_
    rintro e w4 ⟨gy, rfl, hgy, hst, hp⟩
    have H4 : Hid (Ap H w w4 gx gy S 0 0 ∧ Ow w w4 gx gy (.slice BA n bc) n) := by
      have hp34 : Past w3 w4 := (past_alloc6 _ _).trans' hp
      have hxl := H.lt H3.out.2.1
      have h23 : w2.heap.size ≤ w3.heap.size := by have := H3.out.2.2.1; omega
      simp only [World.size_alloc] at hgy
      have hwy := H3.out.1.size
      have hw2 := H2.out.1.size
      refine Lib.hid ⟨⟨H3.out.1.trans' hp34, H.past H3.out.2.1 hp34, hst, by have := H3.out.2.2.1; omega, by omega, by omega⟩, xs, own_past H3.out.2.2.2 hp34, fun g hg => ?_⟩
      have hlt := (H2.out.2.2.lt g hg).2
      have := H3.out.2.2.1
      omega
    clear hgy hst hp H3 H2 HN'
    go_wp2_with fail
    go_loopg [6] n (fun k s6 wx => ∃ i : Nat, i ≤ n ∧ k = n - i ∧ s6 = .int .i64 (i : Int) ∧ Hid (Ap H w wx gx gy S 0 0 ∧ Ow w wx gx gy (.slice BA n bc) n))
    case atStart => exact ⟨0, Nat.zero_le _, rfl, rfl, H4⟩
    case round =>
      clear H4
      obtain ⟨i, hi, hgk, rfl, HO⟩ := hrel
      have HGK := Lib.hid hgk
      clear hgk
      by_cases hlt : i < n
      · obtain ⟨ys, ho, hb⟩ := HO.out.2
        obtain ⟨g, cur, rfl, hg, hrow, hcur⟩ := own_row ho (by omega)
        have hc := (hrow.cell i).trans (hcur i hlt)
        have hf := hrow.fr i
        have HB := Lib.hid hb
        have HOw := Lib.hid ho
        have HG := Lib.hid hg
        generalize ys.getD i 0 = y at *
        clear ho hb hg hrow hcur
        go_wp2_with fail
        go_roundg (n - (i + 1))
        case rel => exact ⟨i + 1, by omega, rfl, by go_num, Lib.hid ⟨HO.out.1.set _ HG.out (HB.out g rfl).1 (HB.out g rfl).2, _, own_set HOw.out i _, HB.out⟩⟩
        case measure => have := HGK.out; omega
      · obtain rfl : i = n := by omega
        have H5 := Lib.hid HO.out.1
        clear HO HGK
        go_wp2_with fail
        refine (H.next gx 136 S 0 10 wr (.inr rfl) H5.out.x (by omega) (by omega)).mono ?_
        rintro e w6 ⟨PA, pc, rfl, ho, hg, hs⟩
        have e10 : (10 : Int).toNat = 10 := rfl
        rw [e10] at ho hs ⊢
        have hA6 := H5.out.nextX hg hs
        have hxl := H.lt H5.out.x
        have hyl := H.lt H5.out.y
        have H6 : Hid (Ap H w w6 gx gy S 10 0 ∧ w6.ownsRow wr.heap.size 5 1 (.slice PA 10 pc) 10 ((outp S 136 0 10).map (Value.int .u8)) ∧ gx < wr.heap.size ∧ gy < wr.heap.size ∧ w.heap.size ≤ wr.heap.size ∧ wr.heap.size ≤ w6.heap.size) := Lib.hid ⟨hA6, ho, hxl, hyl, H5.out.past.size, hg.size⟩
        clear ho hg hs hA6 hxl hyl H5 e10
        have HP6 := Lib.hid (Sl.of_own H6.out.2.1 (outp_rng S 136 0 10))
        go_wp2_with (at_builtin; refine wpList_append_sl rfl _ _ 23 5 rfl Try.underlying23 info8 w6.heap.size _ 0 [] rfl (own_empty w6 _ rfl (Nat.le_refl _)) PA 10 pc (outp S 136 0 10) rfl (HP6.out.past (past_alloc6 _ _)) ?a1 ?a2 ?_)
        case a1 => omega
        case a2 => simp
        intro v7 w7 hown hgrow
        have hp67 : Past w6 w7 := (past_alloc6 w6 (.cells #[] 5)).grown hgrow (by simp) (own_block_ge (own_empty w6 5 rfl (Nat.le_refl _)))
        have H7 : Hid (Ap H w w7 gx gy S 10 0 ∧ Ow w w7 gx gy (.slice PA 10 pc) 10 ∧ w7.ownsRow w6.heap.size 5 1 v7 10 ((outp S 136 0 10).map (Value.int .u8)) ∧ (∀ g, (Value.slice PA 10 pc).ownBlock = some g → g < w6.heap.size ∧ w.heap.size ≤ g)) := by
          refine Lib.hid ⟨H6.out.1.later hp67, ⟨outp S 136 0 10, own_mono (own_past H6.out.2.1 hp67) H6.out.2.2.2.2.1, fun g hg => ?_⟩, by simpa using hown, fun g hg => ?_⟩
          · have := (H6.out.2.1.lt g hg).1
            have := H6.out.2.2
            omega
          · have := H6.out.2.1.lt g hg
            have := H6.out.2.2
            omega
        clear hown hgrow hp67 HP6
        obtain ⟨WA, wc, rfl⟩ := own_slice H7.out.2.2.1
        obtain ⟨hw, _, rfl, hwb, _, _⟩ := own_row H7.out.2.2.1 (by omega)
        obtain ⟨hp, _, rfl, hpb, _, _⟩ := own_row H6.out.2.1 (by omega)
        have H8 : Hid (Ap H w w7 gx gy S 10 0 ∧ Ow w w7 gx gy (.slice (some ⟨hp, 0, none⟩) 10 pc) 10 ∧ Sl w7 (some ⟨hw, 0, none⟩) 10 wc (outp S 136 0 10)) := Lib.hid ⟨H7.out.1, H7.out.2.1, Sl.of_own H7.out.2.2.1 (outp_rng S 136 0 10)⟩
        have HNN : Hid (w.heap.size ≤ hp ∧ hp < hw ∧ gx < hw ∧ gy < hw) := by
          have h1 := H7.out.2.2.2 hp rfl
          have h2 := H6.out.2.2
          exact Lib.hid ⟨by omega, by omega, by omega, by omega⟩
        clear H7 H6 hwb hpb
        go_wp2_with fail
        go_loopg [9] 10 (fun k s9 wx => ∃ j : Nat, j ≤ 10 ∧ k = 10 - j ∧ s9 = .int .i64 (j : Int) ∧ Hid (Ap H w wx gx gy S 10 0 ∧ Ow w wx gx gy (.slice (some ⟨hp, 0, none⟩) 10 pc) 10 ∧ Sl wx (some ⟨hw, 0, none⟩) 10 wc (outp S 136 0 10)))
        case atStart => exact ⟨0, Nat.zero_le _, rfl, rfl, H8⟩
        case round =>
          clear H8
          obtain ⟨j, hj, hgk, rfl, HO⟩ := hrel
          have HGK := Lib.hid hgk
          clear hgk
          by_cases hlt : j < 10
          · have hji : (j : Int) < 10 := by omega
            obtain ⟨ys, ho, hb⟩ := HO.out.2.1
            obtain ⟨g, cur, hge, hg, hrow, hcur⟩ := own_row ho (by omega)
            obtain rfl : hp = g := by injection hge with hge; injection hge
            have hc := (hrow.cell j).trans (hcur j hlt)
            have hf := hrow.fr j
            have HB := Lib.hid hb
            have HOw := Lib.hid ho
            generalize ys.getD j 0 = y at *
            clear ho hb hg hrow hcur hge
            go_wp2_with fail
            go_roundg (10 - (j + 1))
            case rel => exact ⟨j + 1, by omega, rfl, by go_num, Lib.hid ⟨HO.out.1.set _ HNN.out.1 (HB.out hp rfl).1 (HB.out hp rfl).2, ⟨_, own_set HOw.out j _, HB.out⟩, sl_setApart _ HO.out.2.2 (fun b o e => by
              injection e with e
              injection e with e
              have := HNN.out
              show b ≠ hp
              omega)⟩⟩
            case measure => have := HGK.out; omega
          · obtain rfl : j = 10 := by omega
            have H9 : Hid (Ap H w wr gx gy S 10 0 ∧ Sl wr (some ⟨hw, 0, none⟩) 10 wc (outp S 136 0 10)) := Lib.hid ⟨HO.out.1, HO.out.2.2⟩
            clear HO HGK hlt hj
            have e10 : (10 : Int).toNat = 10 := rfl
            have e20 : (20 : Int).toNat = 20 := rfl
            have e150 : (150 : Int).toNat = 150 := rfl
            have e180 : (180 : Int).toNat = 180 := rfl
            have hxx := HX.out 10
            have hxy := HX.out 180
            rw [e10, ← outp_zero] at hxx
            rw [e180] at hxy
            have HX10 := Lib.hid hxx
            have HX180 := Lib.hid hxy
            have hwx : ∀ b o, (some ⟨hw, 0, none⟩ : Option Addr) = some ⟨b, o, none⟩ → b ≠ gx := fun b o e => by
              injection e with e
              injection e with e
              have := HNN.out
              omega
            have hwy : ∀ b o, (some ⟨hw, 0, none⟩ : Option Addr) = some ⟨b, o, none⟩ → b ≠ gy := fun b o e => by
              injection e with e
              injection e with e
              have := HNN.out
              omega
            have HWX := Lib.hid hwx
            have HWY := Lib.hid hwy
            clear hxx hxy HX hwx hwy e10 e180
            go_wp2_with fail
            refine (H.next gx 136 S 10 150 wr (.inr rfl) H9.out.1.x (by omega) (by omega)).mono ?_
            rintro e w10 ⟨PB, pd, rfl, ho, hg, hs⟩
            rw [e150] at hs
            have H10 : Hid (Ap H w w10 gx gy S 160 0 ∧ Sl w10 (some ⟨hw, 0, none⟩) 10 wc (outp S 136 0 10)) := Lib.hid ⟨H9.out.1.nextX hg hs, sl_apart H9.out.2 hg HWX.out⟩
            clear ho hg hs H9 e150
            go_wp2_with fail
            refine (HX10.out _ H10.out.1.past (by omega)).mono ?_
            rintro e w11 ⟨B1, d1, rfl, hs, hp⟩
            have H11 : Hid (Ap H w w11 gx gy S 160 0 ∧ Sl w11 (some ⟨hw, 0, none⟩) 10 wc (outp S 136 0 10) ∧ Sl w11 B1 10 d1 (outp S 136 0 10)) := Lib.hid ⟨H10.out.1.later hp, H10.out.2.past hp, hs⟩
            clear hs hp H10 HX10
            go_wp2_with fail
            refine (rsame_self _ _ _ _ _ _ _ H11.out.2.1 H11.out.2.2).mono ?_
            rintro e w' ⟨rfl, m1, rfl⟩
            have H12 : Hid (Ap H w (w11.drewN m1) gx gy S 160 0 ∧ Sl (w11.drewN m1) (some ⟨hw, 0, none⟩) 10 wc (outp S 136 0 10)) := Lib.hid ⟨H11.out.1.later (Past.ofDrewN _ _), H11.out.2.1.past (Past.ofDrewN _ _)⟩
            clear H11
            generalize w11.drewN m1 = w12 at *
            go_wp2_with fail
            refine (H.next gy 136 S 0 10 w12 (.inr rfl) H12.out.1.y (by omega) (by omega)).mono ?_
            rintro e w13 ⟨PC, pe, rfl, ho, hg, hs⟩
            have e10 : (10 : Int).toNat = 10 := rfl
            rw [e10] at ho hs ⊢
            have H13 : Hid (Ap H w w13 gx gy S 160 10 ∧ Sl w13 (some ⟨hw, 0, none⟩) 10 wc (outp S 136 0 10) ∧ Sl w13 PC 10 pe (outp S 136 0 10)) := Lib.hid ⟨H12.out.1.nextY hg hs, sl_apart H12.out.2 hg HWY.out, Sl.of_own ho (outp_rng S 136 0 10)⟩
            clear ho hg hs e10 H12
            go_wp2_with fail
            refine (rsame_self _ _ _ _ _ _ _ H13.out.2.2 H13.out.2.1).mono ?_
            rintro e w' ⟨rfl, m2, rfl⟩
            have H14 : Hid (Ap H w (w13.drewN m2) gx gy S 160 10) := Lib.hid (H13.out.1.later (Past.ofDrewN _ _))
            clear H13
            generalize w13.drewN m2 = w14 at *
            go_wp2_with fail
            refine (H.next gx 136 S 160 20 w14 (.inr rfl) H14.out.x (by omega) (by omega)).mono ?_
            rintro e w15 ⟨PD, pf, rfl, ho, hg, hs⟩
            rw [e20] at ho hs ⊢
            have H15 : Hid (Ap H w w15 gx gy S 180 10 ∧ Sl w15 PD 20 pf (outp S 136 160 20)) := Lib.hid ⟨H14.out.nextX hg hs, Sl.of_own ho (outp_rng S 136 160 20)⟩
            clear ho hg hs e20 H14
            go_wp2_with fail
            refine (HX180.out _ H15.out.1.past (by omega)).mono ?_
            rintro e w16 ⟨B2, d2, rfl, hs, hp⟩
            obtain ⟨b2, o2, rfl, _⟩ := hs.bytes (by omega)
            have hd2 := hs.cap
            have hct := hs.cut2 (i := 160) (m := 20) (by omega)
            rw [if_neg (by omega), Option.map_some, add_none, outp_drop S 136 160 20] at hct
            have H16 : Hid (Ap H w w16 gx gy S 180 10 ∧ Sl w16 PD 20 pf (outp S 136 160 20) ∧ Sl w16 (some ⟨b2, o2 + 160, none⟩) 20 (d2 - 160) (outp S 136 160 20)) := Lib.hid ⟨H15.out.1.later hp, H15.out.2.past hp, hct⟩
            have hsl := slice_tail b2 o2 d2 hd2
            clear hs hp hct H15
            go_wp2_with fail
            refine (rsame_self _ _ _ _ _ _ _ H16.out.2.1 H16.out.2.2).mono ?_
            rintro e w' ⟨rfl, m3, rfl⟩
            have H17 := Lib.hid ((H16.out.1.past).drewN m3)
            clear H16
            generalize w16.drewN m3 = w17 at *
            go_wp2_with fail
            go_ret
            exact ⟨rfl, H17.out⟩

set_option maxRecDepth 100000 in
theorem lifted (H7 : Prog7) (os : Os) (started : os.Started) (H : Type) (enc : TypeId × Value → H) :
    ReturnsInHanded {} Try.checked os 7 .any (Rows.hashApartSpec.pre6 enc Try.prog Try.f7 Rows.hashApartRow.domain false) (Rows.hashApartSpec.post enc Try.prog Try.f7 false true false false) := by
  refine returnsInHanded_of_change (C := Try.checked) own started (by kernel_rfl) Try.func7
    (ChangeSpec.witness6 (enc := enc) (C := Try.checked) false ⟨#[], #[.slice none 0 0], []⟩ 8 (by kernel_rfl) (by kernel_rfl) (by kernel_rfl) (by kernel_rfl)) ?_
  intro W base args ds gs before hval0 hW hcnd _
  have hval : ∀ (j : Nat) t v, Try.f7.params[j]? = some t → args[j]? = some v → Value.okWide Try.prog W .any base t v := hval0
  have hW' := hW
  obtain ⟨p, q, hA0, hV, rfl, hfz, hnd⟩ := hW
  have hA : DataW.TrodAll enc Try.prog W 0 (fun _ => true) true Try.f7.params.toList args.toList ds p := hA0
  rw [Try.params7] at hA hval
  obtain ⟨v0, vs0, d0, ds0, p0, q0, hargs, rfl, rfl, h0, r0⟩ := trodAll_cons hA
  obtain ⟨rfl, rfl, rfl⟩ := trodAll_nil r0
  obtain rfl : args = #[v0] := by cases args; simp_all
  obtain ⟨rfl, rfl⟩ := trodVars_none hV
  obtain ⟨a0, len0, cap0, rfl⟩ := okWide_slice Try.underlying23 (hval 0 23 v0 rfl rfl)
  have k0 := h0
  have lt0 : ∀ x ∈ p0, x.block < W.heap.size := by obtain ⟨m, hm⟩ := k0; exact DataW.trod_lt m _ _ _ hm
  obtain ⟨z0, w0⟩ : ∃ zs, IsRow .u8 W a0 len0 cap0 zs := by
    obtain ⟨fuel, hf⟩ := h0
    rcases open_ints Try.underlying23 Try.underlying5 (by kernel_rfl) hf with ⟨hcs, _⟩ | ⟨x, l, c, zs, hcs, _, hl, hm, hz, _, hcell, hwz⟩
    · simp [Value.cells] at hcs
      obtain ⟨rfl, rfl, rfl⟩ := hcs
      exact ⟨[], .inl ⟨rfl, rfl, rfl, rfl⟩⟩
    · simp [Value.cells] at hcs
      obtain ⟨rfl, rfl, rfl⟩ := hcs
      exact ⟨zs, .inr ⟨_, rfl, hl, hm, by simpa using hz, hcell, hwz⟩⟩
  clear hA0 hval0
  refine (walk H7 a0 len0 cap0 z0 W w0).mono fun e W' ⟨he, bel⟩ => ?_
  subst he
  exact ⟨_, rfl, _, _, _, [], _, [], hW', trodAll_mk1 (shut_bool Try.underlying4 _), (trodAll_cons_mk (Below.trod laidOut (by kernel_rfl) (of_decide_eq_true (by kernel_rfl)) k0 bel lt0) trodAll_mk0), rfl, bel.frame _, fun h => by cases h⟩

theorem over (H7 : Prog7) : Rows.hashApartRow.holds Try.pinned (OpenSpec.ofChange Rows.hashApartSpec) :=
  OpenClaim.holds_of_wide 7 Try.f7 rfl rfl rfl rfl rfl rfl rfl ⟨rfl, rfl, rfl, rfl, rfl⟩ rfl rfl rfl rfl rfl (by kernel_rfl) Try.func7 (by kernel_rfl)
    (of_decide_eq_true (by kernel_rfl)) (by unfold Func.isWrapper; first | (rw [if_pos (by decide +kernel)]; kernel_rfl) | (rw [if_neg (by decide +kernel)]; exact ⟨rfl, rfl⟩))
    (fun os started H enc _ => lifted H7 os started H enc)

theorem proved : Rows.HashApartSaid := over prog7

end Go.Proofs.Ytamgbkadiobklaa.hashApart
