/- For every input and every list of lengths the law HashStreams of package pyxlaw07 returns true; there is no further condition. -/
import Derived.Test.YtamgbkadiobklaaLawApart7
import Derived.Test.YtamgbkadiobklaaImp7
import Derived.IntWalk
import Derived.Deep.RegionHeld3
import Derived.Test.YtamgbkadiobklaaEq
namespace Go.Proofs.Ytamgbkadiobklaa.hashStreams
open Go.ChangeShapes Go.WideShapes Go.ChangeAt Go.RowKit
open hashApart (sl_apart)
set_option linter.unusedVariables false

/-- The sum of the first i lengths. -/
def psum (ls : List Int) (i : Nat) : Nat := ((ls.take i).map Int.toNat).sum
theorem psum_zero (ls : List Int) : psum ls 0 = 0 := rfl
theorem psum_succ (ls : List Int) (i : Nat) (h : i < ls.length) : psum ls (i + 1) = psum ls i + (ls.getD i 0).toNat := by
  unfold psum
  rw [take_snoc' ls i h, List.map_append, List.sum_append]
  simp
theorem psum_le (ls : List Int) (h : ∀ x ∈ ls, 0 ≤ x ∧ x < 256) : ∀ i, i ≤ ls.length → psum ls i ≤ 255 * i
  | 0, _ => by rw [psum_zero]; omega
  | i + 1, hi => by
    rw [psum_succ ls i (by omega)]
    have h1 := psum_le ls h i (by omega)
    have h2 := h (ls.getD i 0) (by rw [List.getD_eq_getElem?_getD, List.getElem?_eq_getElem (by omega)]; exact List.getElem_mem _)
    omega
theorem psum_mono (ls : List Int) {i : Nat} : ∀ m, i ≤ m → m ≤ ls.length → psum ls i ≤ psum ls m
  | 0, h, _ => by obtain rfl : i = 0 := by omega
                  exact Nat.le_refl _
  | m + 1, h, hm => by
    rcases Nat.lt_or_ge m i with h1 | h1
    · obtain rfl : i = m + 1 := by omega
      exact Nat.le_refl _
    · rw [psum_succ ls m (by omega)]
      have := psum_mono ls m h1 (by omega)
      omega
theorem outp_cut (S : Nat → Lane) (R k n m : Nat) (h : k + n ≤ m) : ((bl (rout S R) m).drop k).take n = outp S R k n := by
  obtain ⟨r, rfl⟩ : ∃ r, m = k + (n + r) := ⟨m - k - n, by omega⟩
  rw [bl_add, List.drop_left' (bl_len _ _)]
  unfold outp
  rw [bl_take _ _ _ (by omega)]
theorem slice_cut (A : Option Addr) (n c i m : Nat) (h : i + m ≤ n) (hc : n ≤ c) (w : World) : (Instr.slice 23 (.slice A n c) (some (.int .i64 (i : Int))) (some (.int .i64 ((i : Int) + (m : Int)))) none).run Try.prog w = .ok (.slice (if c = i then A else A.map (·.add i)) m (c - i)) w := by
  rw [run_slice_lh w 23 A n c Try.underlying23 .i64 .i64 (i : Int) ((i : Int) + (m : Int)) (by omega) (by omega) (by omega)]
  have hs : (sizeOf (Try.prog.elem 23)).run Try.prog w = .ok 1 w := by kernel_rfl
  rw [hs]
  simp only [Result.andThen, sliced, Int.toNat_natCast, show ((i : Int) + (m : Int)).toNat = i + m by omega]
  rw [Nat.add_sub_cancel_left, Nat.mul_one]

/-- Two streams, and the two outputs that they are held against. -/
structure Md (H : Prog7) (w wx : World) (gx gy : Nat) (Sx Sy : Nat → Lane) (n : Nat) (PA : Option Addr) (pc : Nat) (QA : Option Addr) (qc : Nat) (kx ky : Nat) : Prop where
  past : Past w wx
  x : H.St gx 168 Sx wx kx
  y : H.St gy 136 Sy wx ky
  hx : w.heap.size ≤ gx
  hy : w.heap.size ≤ gy
  ne : gx ≠ gy
  p : Sl wx PA n pc (bl (rout Sx 168) n)
  q : Sl wx QA n qc (bl (rout Sy 136) n)
  pa : ∀ b o, PA = some ⟨b, o, none⟩ → b ≠ gx ∧ b ≠ gy
  qa : ∀ b o, QA = some ⟨b, o, none⟩ → b ≠ gx ∧ b ≠ gy
section
variable {H : Prog7} {w wx wy : World} {gx gy n pc qc kx ky : Nat} {Sx Sy : Nat → Lane} {PA QA : Option Addr}
theorem Md.later (h : Md H w wx gx gy Sx Sy n PA pc QA qc kx ky) (hp : Past wx wy) : Md H w wy gx gy Sx Sy n PA pc QA qc kx ky :=
  ⟨h.past.trans' hp, H.past h.x hp, H.past h.y hp, h.hx, h.hy, h.ne, h.p.past hp, h.q.past hp, h.pa, h.qa⟩
theorem Md.nextX (h : Md H w wx gx gy Sx Sy n PA pc QA qc kx ky) (hg : wx.grownBy wy (some gx)) {k : Nat} (hs : H.St gx 168 Sx wy k) : Md H w wy gx gy Sx Sy n PA pc QA qc k ky :=
  ⟨past_of_only h.past hg h.past.size h.hx, hs, H.grown h.y hg (fun e => h.ne (by injection e with e; exact e.symm)), h.hx, h.hy, h.ne, sl_apart h.p hg fun b o e => (h.pa b o e).1, sl_apart h.q hg fun b o e => (h.qa b o e).1, h.pa, h.qa⟩
theorem Md.nextY (h : Md H w wx gx gy Sx Sy n PA pc QA qc kx ky) (hg : wx.grownBy wy (some gy)) {k : Nat} (hs : H.St gy 136 Sy wy k) : Md H w wy gx gy Sx Sy n PA pc QA qc kx k :=
  ⟨past_of_only h.past hg h.past.size h.hy, H.grown h.x hg (fun e => h.ne (by injection e with e)), hs, h.hx, h.hy, h.ne, sl_apart h.p hg fun b o e => (h.pa b o e).2, sl_apart h.q hg fun b o e => (h.qa b o e).2, h.pa, h.qa⟩
end

set_option maxHeartbeats 4000000 in
set_option maxRecDepth 100000 in
theorem walk (H : Prog7) (A : Option Addr) (n c : Nat) (zs : List Int) (LA : Option Addr) (ln lc : Nat) (us : List Int) (w : World) (hz : IsRow .u8 w A n c zs) (hu : IsRow .u8 w LA ln lc us) :
    Calls Try.prog 5 #[.slice A n c, .slice LA ln lc] w fun e w' => e = .returned (.bool true) ∧ Past w w' := by
  have HA := Lib.hid (awake_any H)
  have hs := Sl.of_row hz
  have hs2 := Sl.of_row hu
  generalize zs.take n = xs at hs
  generalize us.take ln = ls at hs2
  have hcp := hs.cap
  have hbg := hs.big
  have hcp2 := hs2.cap
  have hbg2 := hs2.big
  unfold maxLen at hbg hbg2
  have HS := Lib.hid hs
  have HL := Lib.hid hs2
  clear hz hs hu hs2
  by_cases hno : 500 < n ∨ 20 < ln
  · by_cases hn : 500 < n
    · clear hno
      go_enter Try.func5, Try.ntmps5
      go_wp2_with fail
      refine (HA.out _).mono ?_
      rintro e w1 ⟨rfl, hp⟩
      have H1 := Lib.hid hp
      clear hp
      go_wp2_with fail
      refine (HA.out _).mono ?_
      rintro e w2 ⟨rfl, hp⟩
      have H2 := Lib.hid (H1.out.trans' hp)
      clear hp
      go_wp2_with fail
      go_ret
      exact ⟨rfl, H2.out⟩
    · have hl : 20 < ln := by omega
      clear hno
      go_enter Try.func5, Try.ntmps5
      go_wp2_with fail
      refine (HA.out _).mono ?_
      rintro e w1 ⟨rfl, hp⟩
      have H1 := Lib.hid hp
      clear hp
      go_wp2_with fail
      refine (HA.out _).mono ?_
      rintro e w2 ⟨rfl, hp⟩
      have H2 := Lib.hid (H1.out.trans' hp)
      clear hp
      go_wp2_with fail
      go_ret
      exact ⟨rfl, H2.out⟩
  · have hn : n ≤ 500 := by omega
    have hl : ln ≤ 20 := by omega
    have hcl : (cat (fun _ => xs) 1).length ≤ 1000 := by rw [cat_one, HS.out.len]; omega
    have h1 := fun wx (h : Sl wx A n c xs) => H.new128 _ 1 1 _ _ _ _ (Sls.one wx 23 h) (by omega) hcl
    have h2 := fun wx (h : Sl wx A n c xs) => H.new256 _ 1 1 _ _ _ _ (Sls.one wx 23 h) (by omega) hcl
    simp only [cat_one] at h1 h2
    have HN1 := Lib.hid h1
    have HN2 := Lib.hid h2
    have HX1 := Lib.hid (fun (N : Int) wx (hp : Past w wx) (hN : N ≤ 100000) => rshake128_fresh N A n c xs wx (HS.out.past hp) (by omega) hN)
    have HX2 := Lib.hid (fun (N : Int) wx (hp : Past w wx) (hN : N ≤ 100000) => rshake256_fresh N A n c xs wx (HS.out.past hp) (by omega) hN)
    have HPS := Lib.hid (fun i (hi : i < ln) => psum_succ ls i (by rw [HL.out.len]; exact hi))
    have HPL := Lib.hid (fun i (hi : i ≤ ln) => psum_le ls HL.out.rng i (by rw [HL.out.len]; exact hi))
    have HPM := Lib.hid (fun i (hi : i ≤ ln) => psum_mono ls (i := i) ln hi (by rw [HL.out.len]; exact Nat.le_refl _))
    generalize rstate xs 168 31 = Sx at *
    generalize rstate xs 136 31 = Sy at *
    clear h1 h2 hcl hno
    go_enter Try.func5, Try.ntmps5
    go_wp2_with fail
    refine (HA.out _).mono ?_
    rintro e w1 ⟨rfl, hp⟩
    have H1 := Lib.hid hp
    clear hp HA
    go_wp2_with fail
    refine (HN1.out w1 (HS.out.past H1.out)).mono ?_
    rintro e w2 ⟨gx, rfl, hgx, hst, hp⟩
    have H2 : Hid (Past w w2 ∧ H.St gx 168 Sx w2 0 ∧ w.heap.size ≤ gx ∧ gx < w2.heap.size) := by
      simp only [World.size_alloc] at hgx
      have := H1.out.size
      exact Lib.hid ⟨(H1.out.trans' (past_alloc6 _ _)).trans' hp, hst, by omega, H.lt hst⟩
    clear hgx hst hp H1
    go_wp2_with fail
    refine (HN2.out w2 (HS.out.past H2.out.1)).mono ?_
    rintro e w3 ⟨gy, rfl, hgy, hst, hp⟩
    have H3 : Hid (Past w w3 ∧ H.St gx 168 Sx w3 0 ∧ H.St gy 136 Sy w3 0 ∧ w.heap.size ≤ gx ∧ w.heap.size ≤ gy ∧ gx ≠ gy) := by
      simp only [World.size_alloc] at hgy
      have h1 := H2.out.1.size
      have h2 := H2.out.2.2
      have hp23 : Past w2 w3 := (past_alloc6 _ _).trans' hp
      exact Lib.hid ⟨H2.out.1.trans' hp23, H.past H2.out.2.1 hp23, hst, by omega, by omega, by omega⟩
    clear hgy hst hp H2 HN1 HN2
    go_wp2_with fail
    go_loopg [7, 8] ln (fun k s7 s8 wx => ∃ i : Nat, i ≤ ln ∧ k = ln - i ∧ s7 = .int .i64 (psum ls i : Int) ∧ s8 = .int .i64 (i : Int) ∧ Hid (wx = w3))
    case atStart => exact ⟨0, Nat.zero_le _, rfl, rfl, rfl, Lib.hid rfl⟩
    case round =>
      obtain ⟨i, hi, hgk, rfl, rfl, HO⟩ := hrel
      have HGK := Lib.hid hgk
      clear hgk
      by_cases hlt : i < ln
      · have hpl := HPL.out i hi
        have hps := HPS.out i hlt
        obtain ⟨b, o, rfl, hc⟩ := HL.out.bytes (by omega)
        have hcell : wr.cell? ⟨b, o + i, none⟩ = some (.int .u8 (ls.getD i 0)) := by
          have := hc i hlt
          rw [HO.out, Below.cell H3.out.1 (cell_lt this)]
          exact this
        have hrg := HL.out.rng (ls.getD i 0) (by rw [List.getD_eq_getElem?_getD, List.getElem?_eq_getElem (by rw [HL.out.len]; exact hlt)]; exact List.getElem_mem _)
        obtain ⟨kk, hk⟩ : ∃ kk : Nat, ls.getD i 0 = (kk : Int) := ⟨(ls.getD i 0).toNat, by omega⟩
        rw [hk, Int.toNat_natCast] at hps
        rw [hk] at hcell hrg
        have HPSs := Lib.hid hps
        clear hc hk hps
        generalize psum ls i = at0 at *
        go_wp2_with fail
        go_roundg (ln - (i + 1))
        case rel => exact ⟨i + 1, by omega, rfl, by rw [HPSs.out]; go_num, by go_num, HO⟩
        case measure => have := HGK.out; omega
      · obtain rfl : i = ln := by omega
        have hwr := HO.out
        subst hwr
        have hpl := HPL.out i (Nat.le_refl _)
        obtain ⟨tot, htot⟩ : ∃ tot, psum ls i = tot := ⟨_, rfl⟩
        have HTOT := Lib.hid htot
        rw [htot] at hpl ⊢
        clear htot hlt HGK HO
        have hx1 := HX1.out (tot : Int)
        have hx2 := HX2.out (tot : Int)
        simp only [Int.toNat_natCast] at hx1 hx2
        have HX3 := Lib.hid hx1
        have HX4 := Lib.hid hx2
        clear hx1 hx2 HX1 HX2
        go_wp2_with fail
        refine (HX3.out wr H3.out.1 (by omega)).mono ?_
        rintro e w4 ⟨PA, pc, rfl, hs4, hp4, hf4⟩
        have H4 := Lib.hid (And.intro hs4 (And.intro hp4 hf4))
        clear hs4 hp4 hf4
        go_wp2_with fail
        refine (HX4.out w4 (H3.out.1.trans' H4.out.2.1) (by omega)).mono ?_
        rintro e w5 ⟨QA, qc, rfl, hs5, hp5, hf5⟩
        have H5 : Hid (Md H w w5 gx gy Sx Sy tot PA pc QA qc 0 0) := by
          have hp := H4.out.2.1.trans' hp5
          have hlx := H.lt H3.out.2.1
          have hly := H.lt H3.out.2.2.1
          have h45 := H4.out.2.1.size
          refine Lib.hid ⟨H3.out.1.trans' hp, H.past H3.out.2.1 hp, H.past H3.out.2.2.1 hp, H3.out.2.2.2.1, H3.out.2.2.2.2.1, H3.out.2.2.2.2.2, H4.out.1.past hp5, hs5, fun b o e => ?_, fun b o e => ?_⟩
          · have := H4.out.2.2 b o e
            omega
          · have := hf5 b o e
            omega
        clear hs5 hp5 hf5 H4 H3 HX3 HX4
        go_wp2_with fail
        have htl : tot ≤ 5100 := by omega
        go_loopg [11, 12] i (fun k s11 s12 wx => ∃ j : Nat, j ≤ i ∧ k = i - j ∧ s11 = .int .i64 (psum ls j : Int) ∧ s12 = .int .i64 (j : Int) ∧ Hid (Md H w wx gx gy Sx Sy tot PA pc QA qc (psum ls j) (psum ls j)))
        case atStart => exact ⟨0, Nat.zero_le _, rfl, rfl, rfl, H5⟩
        case round =>
          clear H5
          obtain ⟨j, hj, hgk, rfl, rfl, HO⟩ := hrel
          have HGK := Lib.hid hgk
          clear hgk
          by_cases hlt : j < i
          · have hps := HPS.out j hlt
            have hpm := HPM.out (j + 1) (by omega)
            rw [HTOT.out] at hpm
            obtain ⟨b, o, rfl, hc⟩ := HL.out.bytes (by omega)
            have hcell : wr.cell? ⟨b, o + j, none⟩ = some (.int .u8 (ls.getD j 0)) := by
              have := hc j hlt
              rw [Below.cell HO.out.past (cell_lt this)]
              exact this
            have hrg := HL.out.rng (ls.getD j 0) (by rw [List.getD_eq_getElem?_getD, List.getElem?_eq_getElem (by rw [HL.out.len]; exact hlt)]; exact List.getElem_mem _)
            obtain ⟨kk, hk⟩ : ∃ kk : Nat, ls.getD j 0 = (kk : Int) := ⟨(ls.getD j 0).toNat, by omega⟩
            rw [hk, Int.toNat_natCast] at hps
            rw [hk] at hcell hrg
            rw [hps] at hpm
            have HPSs := Lib.hid hps
            clear hc hk hps
            generalize psum ls j = at0 at *
            have hkk : kk ≤ 255 := by omega
            have ht := Int.toNat_natCast kk
            have HY1 := Lib.hid (fun wx (h : Md H w wx gx gy Sx Sy tot PA pc QA qc at0 at0) => H.next gx 168 Sx at0 (kk : Int) wx (.inl rfl) h.x (by omega) (by omega))
            have HY2 := Lib.hid (fun wx (h : Md H w wx gx gy Sx Sy tot PA pc QA qc (at0 + kk) at0) => H.next gy 136 Sy at0 (kk : Int) wx (.inr rfl) h.y (by omega) (by omega))
            have HY3 : Hid (∀ wx (N : Int), N < 0 → Md H w wx gx gy Sx Sy tot PA pc QA qc (at0 + kk) (at0 + kk) → Calls Try.prog 21 #[.pointer (some ⟨gx, 0, none⟩), .int .i64 N] wx (Nexts gx (H.St gx 168 Sx) [] (at0 + kk) 0 wx)) := by
              refine Lib.hid fun wx N hN h => ?_
              have h0 := H.next gx 168 Sx (at0 + kk) N wx (.inl rfl) h.x (by omega) (by omega)
              rw [show N.toNat = 0 by omega] at h0
              exact h0
            simp only [Int.toNat_natCast] at HY1 HY2
            have hw1 : IntKind.i64.wrap ((at0 : Int) + (kk : Int)) = (at0 : Int) + (kk : Int) := IntWalk.i64_in _ (by omega)
            have hw2 : IntKind.i64.wrap (-1 - (j : Int)) = -1 - (j : Int) := IntWalk.i64_in _ (by omega)
            have hs1 := slice_cut PA tot pc at0 kk hpm HO.out.p.cap
            have hs2 := slice_cut QA tot qc at0 kk hpm HO.out.q.cap
            have HC1 := Lib.hid (fun wx (h : Sl wx PA tot pc (bl (rout Sx 168) tot)) => (outp_cut Sx 168 at0 kk tot hpm) ▸ h.cut2 hpm)
            have HC2 := Lib.hid (fun wx (h : Sl wx QA tot qc (bl (rout Sy 136) tot)) => (outp_cut Sy 136 at0 kk tot hpm) ▸ h.cut2 hpm)
            have HD : Hid (Md H w wr.drew gx gy Sx Sy tot PA pc QA qc at0 at0) := Lib.hid (HO.out.later (Past.ofDrewN wr 1))
            clear HO ht
            generalize (if pc = at0 then PA else PA.map (·.add at0)) = PC at *
            generalize (if qc = at0 then QA else QA.map (·.add at0)) = QC at *
            have HFS := Lib.hid (And.intro hw1 (And.intro hw2 (And.intro hs1 hs2)))
            clear hw1 hw2 hs1 hs2
            go_wp2_with fail
            obtain ⟨hw1, hw2, hs1, hs2⟩ := HFS.out
            -- region
            refine wp_region_held_drew (S := fun _ => True) (by kernel_rfl) trivial (fun hH => ?_)
            refine held_take 0 69 (v := .pointer (some ⟨gx, 0, none⟩)) rfl rfl (by kernel_rfl) (by kernel_rfl) (by kernel_rfl) (fun _ _ _ h => h) (Or.inl ⟨by rfl, fun w _ => by go_simp⟩) hH ?_
            simp only [List.setIfInBounds_toArray, List.set_cons_zero, List.set_cons_succ]
            refine held_take 1 70 (v := .int .i64 (kk : Int)) rfl rfl (by kernel_rfl) (by kernel_rfl) (by kernel_rfl) (fun _ _ _ h => h) (Or.inl ⟨by rfl, fun w _ => by go_simp⟩) hH ?_
            simp only [List.setIfInBounds_toArray, List.set_cons_zero, List.set_cons_succ]
            refine held_take 3 72 (v := .slice PA tot pc) rfl rfl (by kernel_rfl) (by kernel_rfl) (by kernel_rfl) (fun _ _ _ h => h) (Or.inl ⟨by rfl, fun w _ => by go_simp⟩) hH ?_
            simp only [List.setIfInBounds_toArray, List.set_cons_zero, List.set_cons_succ]
            refine held_take 4 73 (v := .int .i64 (at0 : Int)) rfl rfl (by kernel_rfl) (by kernel_rfl) (by kernel_rfl) (fun _ _ _ h => h) (Or.inl ⟨by rfl, fun w _ => by go_simp⟩) hH ?_
            simp only [List.setIfInBounds_toArray, List.set_cons_zero, List.set_cons_succ]
            refine held_take 5 74 (v := .int .i64 (at0 : Int)) rfl rfl (by kernel_rfl) (by kernel_rfl) (by kernel_rfl) (fun _ _ _ h => h) (Or.inl ⟨by rfl, fun w _ => by go_simp⟩) hH ?_
            simp only [List.setIfInBounds_toArray, List.set_cons_zero, List.set_cons_succ]
            refine held_take 6 75 (v := .int .i64 (kk : Int)) rfl rfl (by kernel_rfl) (by kernel_rfl) (by kernel_rfl) (fun _ _ _ h => h) (Or.inl ⟨by rfl, fun w _ => by go_simp⟩) hH ?_
            simp only [List.setIfInBounds_toArray, List.set_cons_zero, List.set_cons_succ]
            refine held_take 7 76 (v := .int .i64 ((at0 : Int) + (kk : Int))) rfl rfl (by kernel_rfl) (by kernel_rfl) (by kernel_rfl) (fun _ _ _ h => h) (Or.inl ⟨by rfl, fun w _ => by go_simp⟩) hH ?_
            simp only [List.setIfInBounds_toArray, List.set_cons_zero, List.set_cons_succ]
            refine held_take 8 77 (v := .slice PC kk (pc - at0)) rfl rfl (by kernel_rfl) (by kernel_rfl) (by kernel_rfl) (fun _ _ _ h => h) (Or.inl ⟨by rfl, fun w _ => by go_simp⟩) hH ?_
            simp only [List.setIfInBounds_toArray, List.set_cons_zero, List.set_cons_succ]
            refine wpAnyH_ready (rs := [2]) (by kernel_rfl) (by simp) ?_
            refine AllReadyH.cons rfl (fun K hK => ?_) AllReadyH.nil
            go_simp
            refine (HY1.out _ HD.out).mono ?_
            rintro e7 w7 ⟨B1, d1, rfl, ho7, hg7, hs7⟩
            have HP7 := Lib.hid (HD.out.nextX hg7 hs7)
            have HS7 := Lib.hid (Sl.of_own ho7 (outp_rng Sx 168 at0 kk))
            clear ho7 hg7 hs7
            refine hK.out _ _ trivial (fun hH => ?_)
            clear hK K
            refine wpAnyH_ready (rs := [9]) (by kernel_rfl) (by simp) ?_
            refine AllReadyH.cons rfl (fun K hK => ?_) AllReadyH.nil
            go_simp
            refine (rsame_self _ _ _ _ _ _ _ HS7.out (HC1.out _ HP7.out.p)).mono ?_
            rintro e8 w8 ⟨rfl, m8, hw8⟩
            have HP8 : Hid (Md H w w8 gx gy Sx Sy tot PA pc QA qc (at0 + kk) at0) := by rw [hw8]; exact Lib.hid (HP7.out.later (Past.ofDrewN w7 m8))
            clear hw8 HS7 HP7
            refine hK.out _ _ trivial (fun hH => ?_)
            clear hK K
            refine held_take 10 79 (v := .bool false) rfl rfl (by kernel_rfl) (by kernel_rfl) (by kernel_rfl) (fun _ _ _ h => h) (Or.inl ⟨by rfl, fun w _ => by go_simp⟩) hH ?_
            simp only [List.setIfInBounds_toArray, List.set_cons_zero, List.set_cons_succ]
            refine held_take 11 80 (v := .bool false) rfl rfl (by kernel_rfl) (by kernel_rfl) (by kernel_rfl) (fun _ _ _ h => h) (Or.inl ⟨by rfl, fun w _ => by go_simp⟩) hH ?_
            simp only [List.setIfInBounds_toArray, List.set_cons_zero, List.set_cons_succ]
            refine held_take 12 81 (v := .pointer (some ⟨gy, 0, none⟩)) rfl rfl (by kernel_rfl) (by kernel_rfl) (by kernel_rfl) (fun _ _ _ h => h) (Or.inl ⟨by rfl, fun w _ => by go_simp⟩) hH ?_
            simp only [List.setIfInBounds_toArray, List.set_cons_zero, List.set_cons_succ]
            refine held_take 13 82 (v := .int .i64 (kk : Int)) rfl rfl (by kernel_rfl) (by kernel_rfl) (by kernel_rfl) (fun _ _ _ h => h) (Or.inl ⟨by rfl, fun w _ => by go_simp⟩) hH ?_
            simp only [List.setIfInBounds_toArray, List.set_cons_zero, List.set_cons_succ]
            refine held_take 15 84 (v := .slice QA tot qc) rfl rfl (by kernel_rfl) (by kernel_rfl) (by kernel_rfl) (fun _ _ _ h => h) (Or.inl ⟨by rfl, fun w _ => by go_simp⟩) hH ?_
            simp only [List.setIfInBounds_toArray, List.set_cons_zero, List.set_cons_succ]
            refine held_take 16 85 (v := .int .i64 (at0 : Int)) rfl rfl (by kernel_rfl) (by kernel_rfl) (by kernel_rfl) (fun _ _ _ h => h) (Or.inl ⟨by rfl, fun w _ => by go_simp⟩) hH ?_
            simp only [List.setIfInBounds_toArray, List.set_cons_zero, List.set_cons_succ]
            refine held_take 17 86 (v := .int .i64 (at0 : Int)) rfl rfl (by kernel_rfl) (by kernel_rfl) (by kernel_rfl) (fun _ _ _ h => h) (Or.inl ⟨by rfl, fun w _ => by go_simp⟩) hH ?_
            simp only [List.setIfInBounds_toArray, List.set_cons_zero, List.set_cons_succ]
            refine held_take 18 87 (v := .int .i64 (kk : Int)) rfl rfl (by kernel_rfl) (by kernel_rfl) (by kernel_rfl) (fun _ _ _ h => h) (Or.inl ⟨by rfl, fun w _ => by go_simp⟩) hH ?_
            simp only [List.setIfInBounds_toArray, List.set_cons_zero, List.set_cons_succ]
            refine held_take 19 88 (v := .int .i64 ((at0 : Int) + (kk : Int))) rfl rfl (by kernel_rfl) (by kernel_rfl) (by kernel_rfl) (fun _ _ _ h => h) (Or.inl ⟨by rfl, fun w _ => by go_simp⟩) hH ?_
            simp only [List.setIfInBounds_toArray, List.set_cons_zero, List.set_cons_succ]
            refine held_take 20 89 (v := .slice QC kk (qc - at0)) rfl rfl (by kernel_rfl) (by kernel_rfl) (by kernel_rfl) (fun _ _ _ h => h) (Or.inl ⟨by rfl, fun w _ => by go_simp⟩) hH ?_
            simp only [List.setIfInBounds_toArray, List.set_cons_zero, List.set_cons_succ]
            refine wpAnyH_ready (rs := [14]) (by kernel_rfl) (by simp) ?_
            refine AllReadyH.cons rfl (fun K hK => ?_) AllReadyH.nil
            go_simp
            refine (HY2.out _ HP8.out).mono ?_
            rintro e9 w9 ⟨B2, d2, rfl, ho9, hg9, hs9⟩
            have HP9 := Lib.hid (HP8.out.nextY hg9 hs9)
            have HS9 := Lib.hid (Sl.of_own ho9 (outp_rng Sy 136 at0 kk))
            clear ho9 hg9 hs9 HP8
            refine hK.out _ _ trivial (fun hH => ?_)
            clear hK K
            refine wpAnyH_ready (rs := [21]) (by kernel_rfl) (by simp) ?_
            refine AllReadyH.cons rfl (fun K hK => ?_) AllReadyH.nil
            go_simp
            refine (rsame_self _ _ _ _ _ _ _ HS9.out (HC2.out _ HP9.out.q)).mono ?_
            rintro e10 w10 ⟨rfl, m10, hw10⟩
            have HP10 : Hid (Md H w w10 gx gy Sx Sy tot PA pc QA qc (at0 + kk) (at0 + kk)) := by rw [hw10]; exact Lib.hid (HP9.out.later (Past.ofDrewN w9 m10))
            clear hw10 HS9 HP9
            refine hK.out _ _ trivial (fun hH => ?_)
            clear hK K
            refine held_take 22 91 (v := .bool false) rfl rfl (by kernel_rfl) (by kernel_rfl) (by kernel_rfl) (fun _ _ _ h => h) (Or.inl ⟨by rfl, fun w _ => by go_simp⟩) hH ?_
            simp only [List.setIfInBounds_toArray, List.set_cons_zero, List.set_cons_succ]
            refine held_take 23 92 (v := .bool false) rfl rfl (by kernel_rfl) (by kernel_rfl) (by kernel_rfl) (fun _ _ _ h => h) (Or.inl ⟨by rfl, fun w _ => by go_simp⟩) hH ?_
            simp only [List.setIfInBounds_toArray, List.set_cons_zero, List.set_cons_succ]
            refine held_take 24 93 (v := .bool false) rfl rfl (by kernel_rfl) (by kernel_rfl) (by kernel_rfl) (fun _ _ _ h => h) (Or.inl ⟨by rfl, fun w _ => by go_simp⟩) hH ?_
            simp only [List.setIfInBounds_toArray, List.set_cons_zero, List.set_cons_succ]
            refine held_take 25 94 (v := .pointer (some ⟨gx, 0, none⟩)) rfl rfl (by kernel_rfl) (by kernel_rfl) (by kernel_rfl) (fun _ _ _ h => h) (Or.inl ⟨by rfl, fun w _ => by go_simp⟩) hH ?_
            simp only [List.setIfInBounds_toArray, List.set_cons_zero, List.set_cons_succ]
            refine held_take 26 95 (v := .int .i64 (j : Int)) rfl rfl (by kernel_rfl) (by kernel_rfl) (by kernel_rfl) (fun _ _ _ h => h) (Or.inl ⟨by rfl, fun w _ => by go_simp⟩) hH ?_
            simp only [List.setIfInBounds_toArray, List.set_cons_zero, List.set_cons_succ]
            refine held_take 27 96 (v := .int .i64 (-1 - (j : Int))) rfl rfl (by kernel_rfl) (by kernel_rfl) (by kernel_rfl) (fun _ _ _ h => h) (Or.inl ⟨by rfl, fun w _ => by go_simp⟩) hH ?_
            simp only [List.setIfInBounds_toArray, List.set_cons_zero, List.set_cons_succ]
            refine wpAnyH_ready (rs := [28]) (by kernel_rfl) (by simp) ?_
            refine AllReadyH.cons rfl (fun K hK => ?_) AllReadyH.nil
            go_simp
            refine (HY3.out _ _ (by omega) HP10.out).mono ?_
            rintro e11 w11 ⟨B3, d3, rfl, ho11, hg11, hs11⟩
            have HP11 := Lib.hid (HP10.out.nextX hg11 hs11)
            clear ho11 hg11 hs11 HP10
            refine hK.out _ _ trivial (fun hH => ?_)
            clear hK K
            refine held_take 29 98 (v := .int .i64 0) rfl rfl (by kernel_rfl) (by kernel_rfl) (by kernel_rfl) (fun _ _ _ h => h) (Or.inl ⟨by rfl, fun w _ => by go_simp⟩) hH ?_
            simp only [List.setIfInBounds_toArray, List.set_cons_zero, List.set_cons_succ]
            refine held_take 30 99 (v := .bool false) rfl rfl (by kernel_rfl) (by kernel_rfl) (by kernel_rfl) (fun _ _ _ h => h) (Or.inl ⟨by rfl, fun w _ => by go_simp⟩) hH ?_
            simp only [List.setIfInBounds_toArray, List.set_cons_zero, List.set_cons_succ]
            refine held_take 31 100 (v := .bool false) rfl rfl (by kernel_rfl) (by kernel_rfl) (by kernel_rfl) (fun _ _ _ h => h) (Or.inl ⟨by rfl, fun w _ => by go_simp⟩) hH ?_
            simp only [List.setIfInBounds_toArray, List.set_cons_zero, List.set_cons_succ]
            refine wpAnyH_done (by kernel_rfl) ?_ _
            -- end of region
            clear hw1 hw2 hs1 hs2
            go_wp2_with fail
            refine (H.blocks gx 168 Sx (at0 + kk) w11 (.inl rfl) HP11.out.x).mono ?_
            rintro e w12 ⟨rfl, hp⟩
            have HP12 := Lib.hid (HP11.out.later hp)
            clear hp HP11
            go_wp2_with fail
            all_goals
              refine (H.blocks gy 136 Sy (at0 + kk) w12 (.inr rfl) HP12.out.y).mono ?_
              rintro e w13 ⟨rfl, hp⟩
              have HP13 := Lib.hid (HP12.out.later hp)
              clear hp HP12
              go_wp2_with fail
            all_goals
              go_roundg (i - (j + 1))
            all_goals first
              | exact ⟨j + 1, by omega, rfl, by rw [HPSs.out]; go_num, by go_num, by rw [HPSs.out]; exact HP13⟩
              | (have := HGK.out; omega)
          · obtain rfl : j = i := by omega
            go_wp2_with fail
            go_ret
            exact ⟨rfl, HO.out.past⟩

set_option maxRecDepth 100000 in
theorem lifted (H7 : Prog7) (os : Os) (started : os.Started) (H : Type) (enc : TypeId × Value → H) :
    ReturnsInHanded {} Try.checked os 5 .any (Rows.hashStreamsSpec.pre6 enc Try.prog Try.f5 Rows.hashStreamsRow.domain false) (Rows.hashStreamsSpec.post enc Try.prog Try.f5 false true false false) := by
  refine returnsInHanded_of_change (C := Try.checked) own started (by kernel_rfl) Try.func5
    (ChangeSpec.witness6 (enc := enc) (C := Try.checked) false ⟨#[], #[.slice none 0 0, .slice none 0 0], []⟩ 8 (by kernel_rfl) (by kernel_rfl) (by kernel_rfl) (by kernel_rfl)) ?_
  intro W base args ds gs before hval0 hW hcnd _
  have hval : ∀ (j : Nat) t v, Try.f5.params[j]? = some t → args[j]? = some v → Value.okWide Try.prog W .any base t v := hval0
  have hW' := hW
  obtain ⟨p, q, hA0, hV, rfl, hfz, hnd⟩ := hW
  have hA : DataW.TrodAll enc Try.prog W 0 (fun _ => true) true Try.f5.params.toList args.toList ds p := hA0
  rw [Try.params5] at hA hval
  obtain ⟨v0, vs0, d0, ds0, p0, q0, hargs, rfl, rfl, h0, r0⟩ := trodAll_cons hA
  obtain ⟨v1, vs1, d1, ds1, p1, q1, rfl, rfl, rfl, h1, r1⟩ := trodAll_cons r0
  obtain ⟨rfl, rfl, rfl⟩ := trodAll_nil r1
  obtain rfl : args = #[v0, v1] := by cases args; simp_all
  obtain ⟨rfl, rfl⟩ := trodVars_none hV
  obtain ⟨a0, len0, cap0, rfl⟩ := okWide_slice Try.underlying23 (hval 0 23 v0 rfl rfl)
  have k0 := h0
  have lt0 : ∀ x ∈ p0, x.block < W.heap.size := by obtain ⟨m, hm⟩ := k0; exact DataW.trod_lt m _ _ _ hm
  obtain ⟨z0, w0⟩ : ∃ zs, IsRow .u8 W a0 len0 cap0 zs := by
    obtain ⟨fuel, hf⟩ := h0
    rcases open_ints Try.underlying23 Try.underlying5 (by kernel_rfl) hf with ⟨hcs, _⟩ | ⟨x, l, c, zs, hcs, _, hl, hm, hz, _, hcell, hwz⟩
    · simp [Value.cells] at hcs
      obtain ⟨rfl, rfl, rfl⟩ := hcs
      exact ⟨[], .inl ⟨rfl, rfl, rfl, rfl⟩⟩
    · simp [Value.cells] at hcs
      obtain ⟨rfl, rfl, rfl⟩ := hcs
      exact ⟨zs, .inr ⟨_, rfl, hl, hm, by simpa using hz, hcell, hwz⟩⟩
  obtain ⟨a1, len1, cap1, rfl⟩ := okWide_slice Try.underlying23 (hval 1 23 v1 rfl rfl)
  have k1 := h1
  have lt1 : ∀ x ∈ p1, x.block < W.heap.size := by obtain ⟨m, hm⟩ := k1; exact DataW.trod_lt m _ _ _ hm
  obtain ⟨z1, w1⟩ : ∃ zs, IsRow .u8 W a1 len1 cap1 zs := by
    obtain ⟨fuel, hf⟩ := h1
    rcases open_ints Try.underlying23 Try.underlying5 (by kernel_rfl) hf with ⟨hcs, _⟩ | ⟨x, l, c, zs, hcs, _, hl, hm, hz, _, hcell, hwz⟩
    · simp [Value.cells] at hcs
      obtain ⟨rfl, rfl, rfl⟩ := hcs
      exact ⟨[], .inl ⟨rfl, rfl, rfl, rfl⟩⟩
    · simp [Value.cells] at hcs
      obtain ⟨rfl, rfl, rfl⟩ := hcs
      exact ⟨zs, .inr ⟨_, rfl, hl, hm, by simpa using hz, hcell, hwz⟩⟩
  clear hA0 hval0
  refine (walk H7 a0 len0 cap0 z0 a1 len1 cap1 z1 W w0 w1).mono fun e W' ⟨he, bel⟩ => ?_
  subst he
  exact ⟨_, rfl, _, _, _, [], _, [], hW', trodAll_mk1 (shut_bool Try.underlying4 _), (trodAll_cons_mk (Below.trod laidOut (by kernel_rfl) (of_decide_eq_true (by kernel_rfl)) k0 bel lt0) (trodAll_cons_mk (Below.trod laidOut (by kernel_rfl) (of_decide_eq_true (by kernel_rfl)) k1 bel lt1) trodAll_mk0)), rfl, bel.frame _, fun h => by cases h⟩

theorem over (H7 : Prog7) : Rows.hashStreamsRow.holds Try.pinned (OpenSpec.ofChange Rows.hashStreamsSpec) :=
  OpenClaim.holds_of_wide 5 Try.f5 rfl rfl rfl rfl rfl rfl rfl ⟨rfl, rfl, rfl, rfl, rfl⟩ rfl rfl rfl rfl rfl (by kernel_rfl) Try.func5 (by kernel_rfl)
    (of_decide_eq_true (by kernel_rfl)) (by unfold Func.isWrapper; first | (rw [if_pos (by decide +kernel)]; kernel_rfl) | (rw [if_neg (by decide +kernel)]; exact ⟨rfl, rfl⟩))
    (fun os started H enc _ => lifted H7 os started H enc)

theorem proved : Rows.HashStreamsSaid := over prog7

end Go.Proofs.Ytamgbkadiobklaa.hashStreams
