/- The program's reader, whole; its Parse. -/
import Derived.Test.YtmhgpdfllpgjpaaDoorC10O
import Derived.Laws.EntriesVeiled
namespace Go.Proofs.YtmhgpdfllpgjpaaDoor
open Go.RowKit
set_option linter.unusedVariables false

theorem pread_any (q g : Nat) (A : Option Addr) (n c : Nat) (A1 : Option Addr) (c1 : Nat) (xs : List Int) : ∀ (lv : Nat) (ab : Int) (w : World) (p : Nat), Rs w q g A n c A1 c1 xs p → 0 ≤ ab → ab + (lv : Int) = 8 →
    Calls Tryd.prog 31 #[ptr q, .int .i64 ab] w (PReadP (rd xs lv p) w g A1 n c1)
  | 0, ab, w, p, h, h0, h8 => pread_step w q g A n c A1 c1 xs p ab h _ true (decide_eq_true (by omega)) (by omega) (fun e => by cases e) (fun e => by cases e)
  | lv + 1, ab, w, p, h, h0, h8 => pread_step w q g A n c A1 c1 xs p ab h (rd xs lv) false (decide_eq_false (by omega)) (by omega)
      (fun _ wz nm nx hz hm => kids_any wz q g A n c A1 c1 xs nx nm lv (ab + 1) hz hm fun wy p' hy => pread_any q g A n c A1 c1 xs lv (ab + 1) wy p' hy (by omega) (by omega))
      (fun _ wz nm nx hz hm => pairs_any wz q g A n c A1 c1 xs nx nm lv (ab + 1) hz hm fun wy p' hy => pread_any q g A n c A1 c1 xs lv (ab + 1) wy p' hy (by omega) (by omega))

def ParseP (r : R10) (w : World) (e : Ending) (w' : World) : Prop :=
  match r with
  | .bad cd a => ∃ x y z u, e = .returned (.tuple #[.agg #[x, y, z, u], (Ch.flt (cd : Int) (a : Int)).val]) ∧ InM w' (.agg #[x, y, z, u]) (.node 0 0 [] []) ∧ Past w w'
  | .good t _ => ∃ x y z u, e = .returned (.tuple #[.agg #[x, y, z, u], .nilIface]) ∧ InM w' (.agg #[x, y, z, u]) t ∧ Past w w'
/-- What parsing leads to, at strings of any length. -/
def parsL (xs : List Int) (n : Nat) : R10 := if 1048576 < n then .bad 1 1048576 else pars xs
theorem zero4_in (w : World) : InM w (.agg zero4) (.node 0 0 [] []) :=
  .mk (fun _ => undef) (fun _ => undef) (fun _ => undef) (fun _ => undef) (by omega) (by omega) (Sl.nil w) rfl (Nat.le_refl _) (Nat.zero_le _) (fun _ => rfl) (fun h => absurd h (Nat.lt_irrefl 0)) (fun i hi => absurd hi (Nat.not_lt_zero i))
theorem past_row10 {w wx : World} {q : Nat} (h : Past w wx) (hq : w.heap.size ≤ q) (cs : Array Value) : Past w (wx.setRow q cs) :=
  ⟨h.os, h.tape, h.output, by simpa using h.size, fun i hi => (setRow_other _ _ _ _ (by omega)).trans (h.block i hi)⟩
theorem past_of_grown {w w1 w2 : World} {g : Nat} (h : Past w w1) (hg : w1.grownBy w2 (some g)) (hge : w.heap.size ≤ g) : Past w w2 :=
  h.grown hg h.size fun x hx => by injection hx with hx; omega

set_option maxHeartbeats 4000000 in
set_option maxRecDepth 100000 in
theorem parse_any (A : Option Addr) (n c : Nat) (xs : List Int) (w : World) (h : Sl w A n c xs) :
    Calls Tryd.prog 9 #[.slice A n c] w (ParseP (parsL xs n) w) := by
  have hw1 := past_alloc8 w (.cells zero4 27)
  have hi4 : ∀ a b c d : Value, (Tryd.prog.info? 27).map (·.size) = some (#[a, b, c, d] : Array Value).size := fun _ _ _ _ => item_sz _ rfl
  have hi2 := hi4 (.int .i64 0) (.int .u64 0) (.slice none 0 0) (.slice none 0 0)
  have ho2 : zero4.all (·.oneCell') = true := by simp [zero4, Value.oneCell']
  by_cases hbig : 1048576 < n
  · have HQ : Hid (parsL xs n = .bad 1 1048576) := Lib.hid (if_pos hbig)
    have HNE := Lib.hid (fun w => new_any 1 1048576 w)
    simp only [valFlt] at HNE
    have hbi : (1048576 : Int) < (n : Int) := by omega
    have HR1 : Hid (Row (w.alloc (.cells zero4 27)) w.heap.size 27 zero4 ∧ Past w (w.alloc (.cells zero4 27))) := Lib.hid ⟨Row.new _ _ _, hw1⟩
    clear h hw1 hbig
    go_enter Tryd.func9, Tryd.ntmps9
    go_wp2_with fail
    generalize w.alloc (.cells zero4 27) = w1 at *
    obtain ⟨h0, hh0⟩ : ∃ h0, w.heap.size = h0 := ⟨_, rfl⟩
    have HG : Hid (w.heap.size ≤ h0) := Lib.hid (by omega)
    rw [hh0] at HR1 ⊢
    clear hh0
    refine (HNE.out _).mono ?_
    rintro e w2 ⟨rfl, hp⟩
    have H2 := Lib.hid (And.intro (HR1.out.1.past hp) (HR1.out.2.trans' hp))
    have hrow := H2.out.1
    clear hp HR1
    go_wp2_with (refine wpList_store_row rfl 27 _ _ rfl h0 _ rfl rfl _ _ hrow hi2 rfl ho2 ?_)
    refine bodyPost_ret (results_cr10 rfl _ _ ⟨h0, 0, none⟩ _ rfl (load_item _ h0 zero4 (setRow_heap w2 h0 _ _ _ _ hrow) rfl)) rfl ?_
    rw [HQ.out]
    exact ⟨_, _, _, _, rfl, zero4_in _, past_row10 H2.out.2 HG.out _⟩
  · have hq0 : parsL xs n = pars xs := if_neg hbig
    have hbi : ¬ (1048576 : Int) < (n : Int) := by omega
    have HNW := Lib.hid (fun w1 (hp : Past w w1) => wnew_any A n c xs w1 (h.past hp) (by omega))
    have HS := Lib.hid h
    have HL := Lib.hid h.len
    have HR1 : Hid (Row (w.alloc (.cells zero4 27)) w.heap.size 27 zero4 ∧ Past w (w.alloc (.cells zero4 27)) ∧ w.heap.size < (w.alloc (.cells zero4 27)).heap.size) := Lib.hid ⟨Row.new _ _ _, hw1, by simp⟩
    have eg := enters_read
    have HNE := Lib.hid (fun a w => new_any 4 a w)
    simp only [valFlt] at HNE
    have hn20 : n ≤ 1048576 := by omega
    clear h hw1 hbig
    go_enter Tryd.func9, Tryd.ntmps9
    go_wp2_with fail
    generalize w.alloc (.cells zero4 27) = w1 at *
    obtain ⟨h0, hh0⟩ : ∃ h0, w.heap.size = h0 := ⟨_, rfl⟩
    have HG : Hid (w.heap.size ≤ h0) := Lib.hid (by omega)
    rw [hh0] at HR1 ⊢
    clear hh0
    refine (HNW.out _ HR1.out.2.1).mono ?_
    rintro e w2 ⟨g, A1, c1, rfl, hrd, hs1, hgg, hp2⟩
    rw [HL.out] at hrd hs1
    obtain ⟨w3, hw3⟩ : ∃ w3, w3 = (w2.alloc (.cells #[.slice A n c, ptr g, fnV w2.heap.size] 70)) := ⟨_, rfl⟩
    obtain ⟨q, hq⟩ : ∃ q, w2.heap.size = q := ⟨_, rfl⟩
    have H3 : Hid (Rs w3 q g A n c A1 c1 xs 0 ∧ Row w3 h0 27 zero4 ∧ Past w w3 ∧ w.heap.size ≤ g ∧ h0 < g) := by
      have hp3 : Past w2 w3 := by rw [hw3]; exact past_alloc8 _ _
      have hgl := hrd.lt
      have hs0 := HR1.out.2.1.size
      have hl0 := HR1.out.2.2
      refine Lib.hid ⟨⟨?_, hrd.past hp3, hs1.past hp3, HS.out.past ((HR1.out.2.1.trans' hp2).trans' hp3), Nat.zero_le _, hn20, by omega⟩, HR1.out.1.past (hp2.trans' hp3), (HR1.out.2.1.trans' hp2).trans' hp3, by omega, by omega⟩
      rw [hw3, ← hq]
      exact Row.new _ _ _
    have HW3 := Lib.hid hw3
    have HQ := Lib.hid hq
    have hc0 := pread_any q g A n c A1 c1 xs 8 0 w3 0 H3.out.1 (by omega) (by decide)
    have HC := Lib.hid hc0
    clear hrd hs1 hgg hp2 hw3 hq HR1 HS HNW hc0
    go_upto_region 5 with (fail)
    rw [← HW3.out]
    try rw [HQ.out]
    have r2 : w3.cell? ⟨q, 2, none⟩ = some (fnV q) := H3.out.1.c2
    clear HW3 HQ
    cases hq : rd xs 8 0 with
    | bad c0 a0 =>
      rw [hq] at HC
      have HR : Hid (parsL xs n = .bad c0 a0) := Lib.hid (by rw [hq0]; unfold pars; rw [hq])
      clear hq hq0
      go_wp2_with fail
      refine HC.out.mono ?_
      rintro e w4 ⟨rfl, hg4⟩
      obtain ⟨w5, hw5⟩ : ∃ w5, w5 = w4.alloc (.cells zero4 27) := ⟨_, rfl⟩
      have hp5 : Past w4 w5 := by rw [hw5]; exact past_alloc8 _ _
      have H5 : Hid (Past w w5 ∧ Row w5 h0 27 zero4) := Lib.hid ⟨(past_of_grown H3.out.2.2.1 hg4 H3.out.2.2.2.1).trans' hp5, (H3.out.2.1.grown hg4 (by have := H3.out.2.2.2.2; intro e; injection e with e; omega)).past hp5⟩
      have hrow := H5.out.2
      clear hg4 hp5 HC r2
      simp only [valFlt]
      go_wp2_with (refine wpList_store_row rfl 27 _ _ rfl h0 _ rfl rfl _ _ (by first | exact hrow | (rw [← hw5]; exact hrow)) hi2 rfl ho2 ?_)
      try rw [← hw5]
      refine bodyPost_ret (results_cr10 rfl _ _ ⟨h0, 0, none⟩ _ rfl (load_item _ h0 zero4 (setRow_heap w5 h0 _ _ _ _ hrow) rfl)) rfl ?_
      rw [HR.out]
      exact ⟨_, _, _, _, rfl, zero4_in _, past_row10 H5.out.1 HG.out _⟩
    | good t e1 =>
      rw [hq] at HC
      have HE1 : Hid (e1 ≤ n) := Lib.hid (by
        have := (rd_short xs H3.out.1.sl.rng (by rw [HL.out]; exact hn20) hq).2.1
        rw [HL.out] at this
        exact this)
      have hpr : parsL xs n = if e1 < n then .bad 4 e1 else .good t e1 := by rw [hq0]; unfold pars; rw [hq, ← HL.out]
      have HPR := Lib.hid hpr
      clear hq hq0 hpr
      go_wp2_with fail
      refine HC.out.mono ?_
      rintro e w4 ⟨x, y, z, u, rfl, hlv, hrd4, hg4⟩
      obtain ⟨kt, kn, kA, kln, kc, kK, km, kd, rfl, rfl, rfl, rfl⟩ := (hlv w4 fun _ _ _ => rfl).shape
      obtain ⟨w5, hw5⟩ : ∃ w5, w5 = w4.alloc (.cells #[.int .i64 kt, .int .u64 kn, .slice kA kln kc, .slice kK km kd] 27) := ⟨_, rfl⟩
      obtain ⟨xb, hxb⟩ : ∃ xb, w4.heap.size = xb := ⟨_, rfl⟩
      have hp5 : Past w4 w5 := by rw [hw5]; exact past_alloc8 _ _
      have hrs5 := (H3.out.1.move hg4 hrd4 HE1.out).past hp5
      have H5 : Hid (Past w w5 ∧ Row w5 h0 27 zero4 ∧ Rs w5 q g A n c A1 c1 xs e1 ∧ Row w5 xb 27 #[.int .i64 kt, .int .u64 kn, .slice kA kln kc, .slice kK km kd] ∧ w3.heap.size ≤ w4.heap.size ∧ h0 < w3.heap.size) :=
        Lib.hid ⟨(past_of_grown H3.out.2.2.1 hg4 H3.out.2.2.2.1).trans' hp5, (H3.out.2.1.grown hg4 (by have := H3.out.2.2.2.2; intro e; injection e with e; omega)).past hp5, hrs5, by rw [hw5, ← hxb]; exact Row.new _ _ _, hg4.size, H3.out.2.1.lt⟩
      have HLV : Hid (∀ w'', (∀ k, w3.heap.size ≤ k → k < w4.heap.size → w''.heap[k]? = w5.heap[k]?) → InM w'' (.agg #[.int .i64 kt, .int .u64 kn, .slice kA kln kc, .slice kK km kd]) t) := Lib.hid fun w'' hag => hlv w'' fun k h1 h2 => by
        rw [hag k h1 h2, hp5.block k h2]
      have HW5 := Lib.hid hw5
      have HXB := Lib.hid hxb
      have f1 : w5.cell? ⟨q, 1, none⟩ = some (ptr g) := H5.out.2.2.1.c1'
      have HLF := Lib.hid (left_any w5 g A1 n c1 e1 H5.out.2.2.1.rd HE1.out (by omega))
      clear hg4 hp5 hrs5 hlv hrd4 HC r2 hw5 hxb
      go_upto_region 8 with (fail)
      rw [← HW5.out]
      try rw [HXB.out]
      clear HW5
      obtain ⟨lf, hlf⟩ : ∃ lf, n - e1 = lf := ⟨_, rfl⟩
      rw [hlf] at HLF
      have HLFE := Lib.hid hlf
      clear hlf
      go_wp2_with fail
      refine HLF.out.mono ?_
      rintro e w6 ⟨rfl, m, hw6⟩
      have H6 : Hid (Past w w6 ∧ Row w6 h0 27 zero4 ∧ Rs w6 q g A n c A1 c1 xs e1 ∧ Row w6 xb 27 #[.int .i64 kt, .int .u64 kn, .slice kA kln kc, .slice kK km kd] ∧ w6.heap = w5.heap) := by
        have hp6 : Past w5 w6 := by rw [hw6]; exact Past.drewN (Below.refl _ _) m
        exact Lib.hid ⟨H5.out.1.trans' hp6, H5.out.2.1.past hp6, H5.out.2.2.1.past hp6, H5.out.2.2.2.1.past hp6, by rw [hw6]; rfl⟩
      have f1 : w6.cell? ⟨q, 1, none⟩ = some (ptr g) := H6.out.2.2.1.c1'
      clear hw6 HLF
      by_cases htr : e1 < n
      · have HR : Hid (parsL xs n = .bad 4 e1) := Lib.hid (by rw [HPR.out, if_pos htr])
        have hlf0 : (0 : Int) < (lf : Int) := by have := HLFE.out; omega
        clear htr
        go_wp2_with fail
        refine (wat_any w6 g A1 n c1 e1 H6.out.2.2.1.rd).mono ?_
        rintro e w7 ⟨rfl, rfl⟩
        go_wp2_with fail
        refine (HNE.out _ _).mono ?_
        rintro e w7 ⟨rfl, hp7⟩
        have H7 : Hid (Past w w7 ∧ Row w7 h0 27 zero4) := Lib.hid ⟨H6.out.1.trans' hp7, H6.out.2.1.past hp7⟩
        have hrow := H7.out.2
        clear hp7
        go_wp2_with (refine wpList_store_row rfl 27 _ _ rfl h0 _ rfl rfl _ _ hrow hi2 rfl ho2 ?_)
        refine bodyPost_ret (results_cr10 rfl _ _ ⟨h0, 0, none⟩ _ rfl (load_item _ h0 zero4 (setRow_heap w7 h0 _ _ _ _ hrow) rfl)) rfl ?_
        rw [HR.out]
        exact ⟨_, _, _, _, rfl, zero4_in _, past_row10 H7.out.1 HG.out _⟩
      · have HR : Hid (parsL xs n = .good t e1) := Lib.hid (by rw [HPR.out, if_neg htr])
        have hlf0 : ¬ (0 : Int) < (lf : Int) := by have := HLFE.out; omega
        have hrx := H6.out.2.2.2.1
        have hr0 := H6.out.2.1
        have hj2 := hi4 (.int .i64 kt) (.int .u64 kn) (.slice kA kln kc) (.slice kK km kd)
        have hjo : (#[.int .i64 kt, .int .u64 kn, .slice kA kln kc, .slice kK km kd] : Array Value).all (·.oneCell') = true := by simp [Value.oneCell']
        clear htr
        go_wp2_with (first
          | (refine wpList_load_row rfl 27 _ rfl xb rfl _ _ (0, 0) _ hrx Tryd.underlying27 rfl hj2 ?_)
          | (refine wpList_store_row rfl 27 _ _ rfl h0 _ rfl rfl _ _ hr0 hj2 rfl hjo ?_))
        refine bodyPost_ret (results_cr10 rfl _ _ ⟨h0, 0, none⟩ _ rfl (load_item _ h0 _ (setRow_heap w6 h0 _ _ _ _ hr0) rfl)) rfl ?_
        rw [HR.out]
        refine ⟨_, _, _, _, rfl, HLV.out _ fun k h1 h2 => ?_, past_row10 H6.out.1 HG.out _⟩
        have := H5.out.2.2.2.2.2
        rw [setRow_other _ _ _ _ (by omega), H6.out.2.2.2.2]

end Go.Proofs.YtmhgpdfllpgjpaaDoor
