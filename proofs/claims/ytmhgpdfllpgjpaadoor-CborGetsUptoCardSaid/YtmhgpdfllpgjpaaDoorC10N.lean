/- The program's reading of pairs, over the contract of reading an item. -/
import Derived.Test.YtmhgpdfllpgjpaaDoorC10M
import Derived.BigQuiet
import Derived.Deep.QuietTactic
namespace Go.Proofs.YtmhgpdfllpgjpaaDoor
open Go.RowKit
set_option linter.unusedVariables false

set_option maxRecDepth 100000 in
theorem slice_cut10 (A : Option Addr) (n c p e : Nat) (h : p ≤ e) (he : e ≤ n) (hc : n ≤ c) (w : World) : (Instr.slice 22 (.slice A n c) (some (.int .i64 (p : Int))) (some (.int .i64 (e : Int))) none).run Tryd.prog w = .ok (.slice (if c = p then A else A.map (·.add p)) (e - p) (c - p)) w := by
  rw [run_slice_lh w 22 A n c Tryd.underlying22 .i64 .i64 (p : Int) (e : Int) (by omega) (by omega) (by omega)]
  have hs : (sizeOf (Tryd.prog.elem 22)).run Tryd.prog w = .ok 1 w := by kernel_rfl
  rw [hs]
  simp only [Result.andThen, sliced, Int.toNat_natCast]
  rw [Nat.mul_one]
theorem quiet_at10 {w : World} {g : Nat} {A : Option Addr} {n c k j : Nat} (h : Rdr (w.drewN j) g A n c k) : Calls Tryd.prog 33 #[ptr g] (w.drewN j) fun e w'' => e = .returned (.int .i64 (k : Int)) ∧ ∃ m, w'' = w.drewN m :=
  (wat_any _ g A n c k h).mono fun _ _ ⟨he, hm⟩ => ⟨he, j, hm.symm⟩

/-! ### Two trees at once -/
theorem KidAt.step {wx wy : World} {q : Nat} {v v' : Value} {cells more : List Value} {i : Nat} {t : T} (h : KidAt wx q v cells i t) (hl : i * 4 + 4 ≤ cells.length) (hgrow : wx.grownBy wy v.ownBlock) (hat : v'.ownBlock = v.ownBlock ∨ v'.ownBlock = some wx.heap.size) : KidAt wy q v' (cells ++ more) i t := by
  obtain ⟨x', y', z', u', lo', hi', hx, hy, hz, hu, hlo', hhi', hkb', hin'⟩ := h
  refine ⟨x', y', z', u', lo', hi', ?_, ?_, ?_, ?_, hlo', Nat.le_trans hhi' hgrow.size, fun kb hk => ?_, fun w'' hw => ?_⟩
  · rw [List.getElem?_append_left (by omega)]
    exact hx
  · rw [List.getElem?_append_left (by omega)]
    exact hy
  · rw [List.getElem?_append_left (by omega)]
    exact hz
  · rw [List.getElem?_append_left (by omega)]
    exact hu
  · rcases hat with ha | ha
    · exact hkb' kb (by rw [← ha]; exact hk)
    · rw [ha] at hk
      injection hk with hk
      omega
  · refine hin' w'' fun k h1 h2 => ?_
    rw [hw k h1 h2]
    refine hgrow.block k (by omega) fun e => ?_
    have := hkb' k e.symm
    omega
theorem KidAt.fresh {wx wy : World} {q : Nat} {v v' : Value} {cells : List Value} {i : Nat} {t : T} {x y z u : Value} {lo hi : Nat} (hx : cells[i * 4]? = some x) (hy : cells[i * 4 + 1]? = some y) (hz : cells[i * 4 + 2]? = some z) (hu : cells[i * 4 + 3]? = some u)
    (hlo : q < lo) (hhi : hi ≤ wx.heap.size) (hkb : ∀ kb, v.ownBlock = some kb → kb < lo) (hin : ∀ w'', (∀ k, lo ≤ k → k < hi → w''.heap[k]? = wx.heap[k]?) → InM w'' (.agg #[x, y, z, u]) t)
    (hgrow : wx.grownBy wy v.ownBlock) (hat : v'.ownBlock = v.ownBlock ∨ v'.ownBlock = some wx.heap.size) : KidAt wy q v' cells i t := by
  refine ⟨x, y, z, u, lo, hi, hx, hy, hz, hu, hlo, Nat.le_trans hhi hgrow.size, fun kb hk => ?_, fun w'' hw => hin w'' fun k h1 h2 => ?_⟩
  · rcases hat with ha | ha
    · exact .inl (hkb kb (by rw [← ha]; exact hk))
    · rw [ha] at hk
      injection hk with hk
      omega
  · rw [hw k h1 h2]
    refine hgrow.block k (by omega) fun e => ?_
    have := hkb k e.symm
    omega
theorem Kds.push2 {wx wy : World} {q : Nat} {e : TypeId} {v v' : Value} {m : Nat} {kids : List T} {cells : List Value} (h : Kds wx q e v m kids cells) {x y z u x2 y2 z2 u2 : Value} {t t2 : T} {lo hi lo2 hi2 : Nat}
    (hlo : q < lo) (hhi : hi ≤ wx.heap.size) (hkb : ∀ kb, v.ownBlock = some kb → kb < lo) (hin : ∀ w'', (∀ k, lo ≤ k → k < hi → w''.heap[k]? = wx.heap[k]?) → InM w'' (.agg #[x, y, z, u]) t)
    (hlo2 : q < lo2) (hhi2 : hi2 ≤ wx.heap.size) (hkb2 : ∀ kb, v.ownBlock = some kb → kb < lo2) (hin2 : ∀ w'', (∀ k, lo2 ≤ k → k < hi2 → w''.heap[k]? = wx.heap[k]?) → InM w'' (.agg #[x2, y2, z2, u2]) t2)
    (hown : wy.ownsRow (q + 1) e 4 v' (m + 2) (cells ++ [x, y, z, u, x2, y2, z2, u2])) (hgrow : wx.grownBy wy v.ownBlock) (hat : v'.ownBlock = v.ownBlock ∨ v'.ownBlock = some wx.heap.size) : Kds wy q e v' (m + 2) (kids ++ [t, t2]) (cells ++ [x, y, z, u, x2, y2, z2, u2]) := by
  have hcl : cells.length = m * 4 := h.own.1
  have hg : ∀ j w0, ([x, y, z, u, x2, y2, z2, u2] : List Value)[j]? = some w0 → (cells ++ [x, y, z, u, x2, y2, z2, u2])[m * 4 + j]? = some w0 := fun j w0 hj => by
    rw [List.getElem?_append_right (by omega), show m * 4 + j - cells.length = j by omega]
    exact hj
  refine ⟨by rw [List.length_append, h.len]; rfl, hown, fun i hi2' => ?_⟩
  by_cases him : i < m
  · rw [List.getD_eq_getElem?_getD, List.getElem?_append_left (by rw [h.len]; exact him), ← List.getD_eq_getElem?_getD]
    exact (h.at0 i him).step (by omega) hgrow hat
  · by_cases hi0 : i = m
    · subst hi0
      rw [List.getD_eq_getElem?_getD, List.getElem?_append_right (by rw [h.len]; exact Nat.le_refl _), h.len, Nat.sub_self]
      exact KidAt.fresh (hg 0 x rfl) (hg 1 y rfl) (hg 2 z rfl) (hg 3 u rfl) hlo hhi hkb hin hgrow hat
    · obtain rfl : i = m + 1 := by omega
      rw [List.getD_eq_getElem?_getD, List.getElem?_append_right (by rw [h.len]; omega), h.len, show m + 1 - m = 1 by omega]
      refine KidAt.fresh ?_ ?_ ?_ ?_ hlo2 hhi2 hkb2 hin2 hgrow hat
      · rw [show (m + 1) * 4 = m * 4 + 4 by omega]; exact hg 4 x2 rfl
      · rw [show (m + 1) * 4 + 1 = m * 4 + 5 by omega]; exact hg 5 y2 rfl
      · rw [show (m + 1) * 4 + 2 = m * 4 + 6 by omega]; exact hg 6 z2 rfl
      · rw [show (m + 1) * 4 + 3 = m * 4 + 7 by omega]; exact hg 7 u2 rfl
theorem eight_cells (w : World) (e : TypeId) (a0 a1 a2 a3 a4 a5 a6 a7 : Value) : ∀ j v, [a0, a1, a2, a3, a4, a5, a6, a7][j]? = some v → (w.alloc (.cells #[a0, a1, a2, a3, a4, a5, a6, a7] e)).cell? ((⟨w.heap.size, 0, none⟩ : Addr).add j) = some v := by
  intro j v hj
  rw [add_none, (Row.new w e #[a0, a1, a2, a3, a4, a5, a6, a7]).cell, Nat.zero_add]
  match j, hj with
  | 0, hj => exact hj
  | 1, hj => exact hj
  | 2, hj => exact hj
  | 3, hj => exact hj
  | 4, hj => exact hj
  | 5, hj => exact hj
  | 6, hj => exact hj
  | 7, hj => exact hj

/-- The key before. -/
def BefR (q g : Nat) (A : Option Addr) (n c : Nat) (A1 : Option Addr) (c1 : Nat) (xs : List Int) (s : Value) (bx : List Int) : Prop :=
  ∃ BA bl bc, s = .slice BA bl bc ∧ ∀ wy k, Rs wy q g A n c A1 c1 xs k → Sl wy BA bl bc bx
def befX (i m : Nat) (kids : List T) : List Int := if i = 0 then [] else txt (kids.getD (m - 2) default)

set_option maxHeartbeats 8000000 in
set_option maxRecDepth 100000 in
theorem pairs_any (w : World) (q g : Nat) (A : Option Addr) (n c : Nat) (A1 : Option Addr) (c1 : Nat) (xs : List Int) (nx0 nm lv : Nat) (ab : Int) (h : Rs w q g A n c A1 c1 xs nx0) (hnm : nm < 18446744073709551616)
    (ihn : ∀ wz p, Rs wz q g A n c A1 c1 xs p → Calls Tryd.prog 31 #[ptr q, .int .i64 ab] wz (PReadP (rd xs lv p) wz g A1 n c1)) :
    Calls Tryd.prog 49 #[ptr q, .int .u64 (nm : Int), .int .i64 ab] w (KidsQ (itemsR (rd xs lv) true nm nx0 []) w g A1 n c1) := by
  obtain ⟨B, hB⟩ : ∃ B, w.heap.size = B + 1 := ⟨w.heap.size - 1, by have := h.rd.lt; omega⟩
  have H0 : Hid (Kl true xs lv w w B q g A n c A1 c1 nm nx0 0 nx0 0 none 0 [] [] ∧ BefR q g A n c A1 c1 xs (.slice none 0 0) (befX 0 0 [])) :=
    Lib.hid ⟨⟨rfl, h, World.grownBy.refl _ _, Kds.nil _ _ _, Nat.zero_le _, hB, h.olds⟩, none, 0, 0, rfl, fun wy k _ => Sl.nil wy⟩
  have HIH := Lib.hid ihn
  have HLB : Hid (∀ p t e, rd xs lv p = .good t e → p < e ∧ e ≤ n ∧ (xs.drop p).take (e - p) = txt t) := Lib.hid (fun p t e hq => by
    have h1 := rd_short xs h.sl.rng (by rw [h.len]; exact h.hn) hq
    rw [h.len] at h1
    exact ⟨h1.1, h1.2.1, (rd_good xs h.sl.rng lv p t e hq).txt⟩)
  have HCP := Lib.hid h.sl.cap
  obtain ⟨iN, hiN, hzN, hsN, hbN⟩ := info_parts infoD4
  have eg := enters_read
  have hn := h.hn
  have HNE := Lib.hid (fun a w => new_any 7 a w)
  simp only [valFlt] at HNE
  clear h ihn hB
  go_enter Tryd.func49, Tryd.ntmps49
  go_wp2_with fail
  go_loopg [8, 9, 10, 11, 12, 13, 14, 16] nm (fun kk s8 s9 _ _ _ _ _ s16 wx => ∃ (i nx m d : Nat) (K : Option Addr) (kids : List T) (cells : List Value) (b9 : Value), i ≤ nm ∧ kk = nm - i ∧ m = 2 * i ∧ s8 = .slice K m d ∧ s9 = b9 ∧ s16 = .int .u64 (i : Int) ∧ Hid (Kl true xs lv w wx B q g A n c A1 c1 nm nx0 i nx m K d kids cells ∧ BefR q g A n c A1 c1 xs b9 (befX i m kids)))
  case atStart => exact ⟨0, nx0, 0, 0, none, [], [], _, Nat.zero_le _, rfl, rfl, rfl, rfl, rfl, H0⟩
  case round =>
    clear H0
    obtain ⟨i, nx, m, d, K, kids, cells, s9, hi, hgk, hm2, rfl, hs9, rfl, HK⟩ := hrel
    have hs9' := hs9.symm
    subst hs9'
    clear hs9
    have HGK := Lib.hid hgk
    have HM2 := Lib.hid hm2
    clear hgk hm2
    have f1 : wr.cell? ⟨q, 1, none⟩ = some (ptr g) := HK.out.1.rs.c1'
    have f2 : wr.cell? ⟨q, 2, none⟩ = some (fnV q) := HK.out.1.rs.c2
    by_cases hlt : i < nm
    · have hlti : (i : Int) < (nm : Int) := by omega
      have HC := Lib.hid (HIH.out wr nx HK.out.1.rs)
      cases hq : rd xs lv nx with
      | bad c0 a0 =>
        rw [hq] at HC
        have HQ : Hid (itemsR (rd xs lv) true nm nx0 [] = .inl (c0, a0)) := Lib.hid (by
          rw [HK.out.1.same, show nm - i = (nm - (i + 1)) + 1 by omega]
          unfold itemsR
          rw [hq])
        clear hq
        go_wp2_with fail
        refine (wat_any wr g A1 n c1 nx HK.out.1.rs.rd).mono ?_
        rintro e w2 ⟨rfl, rfl⟩
        go_wp2_with fail
        refine HC.out.mono ?_
        rintro e w3 ⟨rfl, hg3⟩
        have HE : Hid (w.grownBy w3 (some g)) := only_trans HK.out.1.grown hg3
        clear hg3 HK HC f1 f2
        simp only [valFlt]
        go_wp2_with fail
        go_ret2
        rw [HQ.out]
        exact ⟨rfl, only_trans HE.out (only_of_past (past_alloc8 _ _) _)⟩
      | good t n1 =>
        rw [hq] at HC
        have hn1 := HLB.out nx t n1 hq
        have hacc : (kids ≠ [] ∧ befB (txt (kids.getD (kids.length - 2) default)) (txt t) = false) ↔ befB (befX i m kids) (txt t) = false := by
          have hkl := HK.out.1.kds.len
          have := HM2.out
          unfold befX
          by_cases hi0 : i = 0
          · rw [if_pos hi0, befB_nil _ (txt_ne t)]
            have : kids = [] := List.eq_nil_of_length_eq_zero (by omega)
            simp [this]
          · rw [if_neg hi0, hkl]
            have : kids ≠ [] := by
              intro h0
              rw [h0] at hkl
              simp at hkl
              omega
            exact ⟨fun h => h.2, fun h => ⟨this, h⟩⟩
        have hit : itemsR (rd xs lv) true (nm - i) nx kids = if befB (befX i m kids) (txt t) = false then .inl (7, nx) else match rd xs lv n1 with
            | .bad c p => .inl (c, p)
            | .good v nv => itemsR (rd xs lv) true (nm - (i + 1)) nv (kids ++ [t, v]) := by
          rw [show nm - i = (nm - (i + 1)) + 1 by omega]
          conv => lhs; unfold itemsR
          rw [hq]
          simp only [if_true]
          by_cases hb : befB (befX i m kids) (txt t) = false
          · rw [if_pos (hacc.2 hb), if_pos hb]
            try rfl
          · rw [if_neg (fun h => hb (hacc.1 h)), if_neg hb]
            cases rd xs lv n1 <;> rfl
        have HIT := Lib.hid hit
        clear hq hacc hit
        go_wp2_with fail
        refine (wat_any wr g A1 n c1 nx HK.out.1.rs.rd).mono ?_
        rintro e w2 ⟨rfl, rfl⟩
        go_wp2_with fail
        refine HC.out.mono ?_
        rintro e w3 ⟨x, y, z, u, rfl, hlv, hrd, hg3⟩
        obtain ⟨kt, kn, kA, kln, kc, kK, km, kd, rfl, rfl, rfl, rfl⟩ := (hlv w3 fun _ _ _ => rfl).shape
        have hgB : g ≤ B := by have := HK.out.1.olds.hg; have := HK.out.1.wb; omega
        have hk3 := HK.out.1.kds.grown hg3 hgB
        have hrs3 := HK.out.1.rs.move hg3 hrd (by omega)
        obtain ⟨w4, hw4⟩ : ∃ w4, w4 = w3.alloc (.cells #[.int .i64 kt, .int .u64 kn, .slice kA kln kc, .slice kK km kd] 27) := ⟨_, rfl⟩
        have hp4 : Past w3 w4 := by rw [hw4]; exact past_alloc8 _ _
        have hr4 : Row w4 w3.heap.size 27 #[.int .i64 kt, .int .u64 kn, .slice kA kln kc, .slice kK km kd] := by rw [hw4]; exact Row.new _ _ _
        have hks : wr.heap.size ≤ w3.heap.size := hg3.size
        obtain ⟨kb, hkb⟩ : ∃ kb, w3.heap.size = kb := ⟨_, rfl⟩
        have hlv4 : ∀ w'', (∀ k, wr.heap.size ≤ k → k < kb → w''.heap[k]? = w4.heap[k]?) → InM w'' (.agg #[.int .i64 kt, .int .u64 kn, .slice kA kln kc, .slice kK km kd]) t := fun w'' hag => hlv w'' fun k h1 h2 => by
          rw [hag k h1 (by omega), hp4.block k h2]
        have H4 : Hid (Rs w4 q g A n c A1 c1 xs n1 ∧ w.grownBy w4 (some g) ∧ Kds w4 B 27 (.slice K m d) m kids cells ∧ wr.heap.size ≤ kb ∧ Row w4 kb 27 #[.int .i64 kt, .int .u64 kn, .slice kA kln kc, .slice kK km kd]) :=
          Lib.hid ⟨hrs3.past hp4, only_trans HK.out.1.grown (only_trans hg3 (only_of_past hp4 _)), hk3.later hp4, by omega, by rw [← hkb]; exact hr4⟩
        have HLV := Lib.hid hlv4
        have HSM := Lib.hid HK.out.1.same
        have HGQ := Lib.hid (And.intro HK.out.1.wb HK.out.1.olds)
        have HKO : Hid ((∀ kb, (Value.slice K m d).ownBlock = some kb → kb < wr.heap.size) ∧ w.heap.size ≤ wr.heap.size) := Lib.hid ⟨fun kb hk => (HK.out.1.kds.own.lt kb hk).2, HK.out.1.grown.size⟩
        have hmn := HK.out.1.mn
        have hm8 : m ≤ 1048576 := by omega
        have HBF := Lib.hid HK.out.2
        have HE4 := Lib.hid hw4
        have k0 : w4.cell? ⟨q, 0, none⟩ = some (.slice A n c) := H4.out.1.c0
        have k1 : w4.cell? ⟨q, 1, none⟩ = some (ptr g) := H4.out.1.c1'
        clear hrd hg3 hk3 hrs3 hp4 hlv hlv4 hw4 hr4 hks HK HC f1 f2
        have hsl := slice_cut10 A n c nx n1 (by omega) hn1.2.1 HCP.out
        go_upto_region 9 with (fail)
        rw [← HE4.out]
        try rw [hkb]
        clear HE4 hkb
        go_quiet ((go_at_call 33; exact quiet_at10 (H4.out.1.rd.drewN _)))
        obtain ⟨w5, hw5⟩ : ∃ w5, w5 = w4.drewN nq := ⟨_, rfl⟩
        rw [← hw5]
        have hp5 : Past w4 w5 := by rw [hw5]; exact Past.drewN (Below.refl _ _) _
        have H5 : Hid (Rs w5 q g A n c A1 c1 xs n1 ∧ w.grownBy w5 (some g) ∧ Kds w5 B 27 (.slice K m d) m kids cells ∧ wr.heap.size ≤ kb ∧ Row w5 kb 27 #[.int .i64 kt, .int .u64 kn, .slice kA kln kc, .slice kK km kd]) :=
          Lib.hid ⟨H4.out.1.past hp5, only_trans H4.out.2.1 (only_of_past hp5 _), H4.out.2.2.1.later hp5, H4.out.2.2.2.1, H4.out.2.2.2.2.past hp5⟩
        have HLV5 : Hid (∀ w'', (∀ k, wr.heap.size ≤ k → k < kb → w''.heap[k]? = w5.heap[k]?) → InM w'' (.agg #[.int .i64 kt, .int .u64 kn, .slice kA kln kc, .slice kK km kd]) t) := Lib.hid fun w'' hag => HLV.out w'' fun k h1 h2 => by
          rw [hag k h1 h2, hp5.block k (by have := H4.out.2.2.2.2.lt; omega)]
        clear hw5 hp5 HLV H4 k0 k1 hsl
        have HENC : Hid (∀ wy k, Rs wy q g A n c A1 c1 xs k → Sl wy (if c = nx then A else A.map (·.add nx)) (n1 - nx) (c - nx) (txt t)) := Lib.hid fun wy k hrs => by
          have := hrs.sl.cut2 (i := nx) (m := n1 - nx) (by omega)
          rwa [hn1.2.2] at this
        obtain ⟨EA, hEA⟩ : ∃ EA, (if c = nx then A else A.map (·.add nx)) = EA := ⟨_, rfl⟩
        rw [hEA] at HENC ⊢
        clear hEA
        obtain ⟨BA, bl, bc, rfl, hbs⟩ := HBF.out
        have HAS := Lib.hid (ascend_any (hbs w5 n1 H5.out.1) (HENC.out w5 n1 H5.out.1))
        clear hbs
        have hel : ∃ el, n1 - nx = el := ⟨_, rfl⟩
        obtain ⟨el, hel⟩ := hel
        have hec : ∃ ec, c - nx = ec := ⟨_, rfl⟩
        obtain ⟨ec, hec⟩ := hec
        rw [hel, hec] at HAS HENC ⊢
        have HEL := Lib.hid hel
        clear hel hec
        go_wp2_with fail
        refine HAS.out.mono ?_
        rintro e w6 ⟨rfl, rfl⟩
        cases hbb : befB (befX i m kids) (txt t) with
        | false =>
          have HQ : Hid (itemsR (rd xs lv) true nm nx0 [] = .inl (7, nx)) := Lib.hid (by rw [HSM.out, HIT.out, if_pos hbb])
          clear hbb HAS
          go_wp2_with fail
          refine (HNE.out _ _).mono ?_
          rintro e w7 ⟨rfl, hp7⟩
          have HF : Hid (w.grownBy w7 (some g)) := Lib.hid (only_trans H5.out.2.1 (only_of_past hp7 _))
          clear hp7
          go_wp2_with fail
          go_ret2
          rw [HQ.out]
          exact ⟨rfl, HF.out⟩
        | true =>
          have hit2 := HIT.out
          rw [if_neg (by rw [hbb]; decide)] at hit2
          have HIT2 := Lib.hid hit2
          clear hit2 hbb HAS HIT HBF
          have HC2 := Lib.hid (HIH.out w5 n1 H5.out.1)
          have f2 : w5.cell? ⟨q, 2, none⟩ = some (fnV q) := H5.out.1.c2
          cases hq2 : rd xs lv n1 with
          | bad c0 a0 =>
            rw [hq2] at HC2
            have HQ : Hid (itemsR (rd xs lv) true nm nx0 [] = .inl (c0, a0)) := Lib.hid (by rw [HSM.out, HIT2.out, hq2])
            clear hq2
            go_wp2_with fail
            refine HC2.out.mono ?_
            rintro e w7 ⟨rfl, hg7⟩
            have HE : Hid (w.grownBy w7 (some g)) := only_trans H5.out.2.1 hg7
            clear hg7 HC2 f2
            simp only [valFlt]
            go_wp2_with fail
            go_ret2
            rw [HQ.out]
            exact ⟨rfl, only_trans HE.out (only_of_past (past_alloc8 _ _) _)⟩
          | good t2 n2 =>
            rw [hq2] at HC2
            have hn2 := HLB.out n1 t2 n2 hq2
            have HSM2 : Hid (itemsR (rd xs lv) true nm nx0 [] = itemsR (rd xs lv) true (nm - (i + 1)) n2 (kids ++ [t, t2])) := Lib.hid (by rw [HSM.out, HIT2.out, hq2])
            clear hq2 HIT2
            go_wp2_with fail
            refine HC2.out.mono ?_
            rintro e w7 ⟨x2, y2, z2, u2, rfl, hlv2, hrd2, hg7⟩
            obtain ⟨kt2, kn2, kA2, kln2, kc2, kK2, km2, kd2, rfl, rfl, rfl, rfl⟩ := (hlv2 w7 fun _ _ _ => rfl).shape
            have hgB : g ≤ B := by have := HGQ.out.1; have := HGQ.out.2.hg; omega
            have hgk : g < kb := by have := HGQ.out.2.hg; have := H5.out.2.2.2.1; have := HKO.out.2; omega
            have hrs7 := H5.out.1.move hg7 hrd2 (by omega)
            have hk7 := H5.out.2.2.1.grown hg7 hgB
            have hr7 := H5.out.2.2.2.2.grown hg7 (by intro e; injection e with e; omega)
            have hlt5 := H5.out.2.2.2.2.lt
            obtain ⟨w8, hw8⟩ : ∃ w8, w8 = w7.alloc (.cells #[.int .i64 kt2, .int .u64 kn2, .slice kA2 kln2 kc2, .slice kK2 km2 kd2] 27) := ⟨_, rfl⟩
            have hp8 : Past w7 w8 := by rw [hw8]; exact past_alloc8 _ _
            have hr8 : Row w8 w7.heap.size 27 #[.int .i64 kt2, .int .u64 kn2, .slice kA2 kln2 kc2, .slice kK2 km2 kd2] := by rw [hw8]; exact Row.new _ _ _
            have H8 : Hid (Rs w8 q g A n c A1 c1 xs n2 ∧ w.grownBy w8 (some g) ∧ Kds w8 B 27 (.slice K m d) m kids cells ∧ Row w8 kb 27 #[.int .i64 kt, .int .u64 kn, .slice kA kln kc, .slice kK km kd] ∧ w5.heap.size ≤ w7.heap.size ∧ kb < w5.heap.size ∧ w7.heap.size ≤ w8.heap.size ∧ wr.heap.size ≤ kb) :=
              Lib.hid ⟨hrs7.past hp8, only_trans H5.out.2.1 (only_trans hg7 (only_of_past hp8 _)), hk7.later hp8, hr7.past hp8, hg7.size, hlt5, hp8.size, H5.out.2.2.2.1⟩
            have HL1 : Hid (∀ w'', (∀ k, wr.heap.size ≤ k → k < kb → w''.heap[k]? = w8.heap[k]?) → InM w'' (.agg #[.int .i64 kt, .int .u64 kn, .slice kA kln kc, .slice kK km kd]) t) := Lib.hid fun w'' hag => HLV5.out w'' fun k h1 h2 => by
              have := HGQ.out.2.hg
              have := HKO.out.2
              rw [hag k h1 h2, hp8.block k (by have := hg7.size; omega), hg7.block k (by omega) (by intro e; injection e with e; omega)]
            have HL2 : Hid (∀ w'', (∀ k, w5.heap.size ≤ k → k < w7.heap.size → w''.heap[k]? = w8.heap[k]?) → InM w'' (.agg #[.int .i64 kt2, .int .u64 kn2, .slice kA2 kln2 kc2, .slice kK2 km2 kd2]) t2) := Lib.hid fun w'' hag => hlv2 w'' fun k h1 h2 => by
              rw [hag k h1 h2, hp8.block k h2]
            have HE8 := Lib.hid hw8
            have k0 : w8.cell? ⟨kb, 0, none⟩ = some (.int .i64 kt) := H8.out.2.2.2.1.cell 0
            have k1 : w8.cell? ⟨kb, 1, none⟩ = some (.int .u64 kn) := H8.out.2.2.2.1.cell 1
            have k2 : w8.cell? ⟨kb, 2, none⟩ = some (.slice kA kln kc) := H8.out.2.2.2.1.cell 2
            have k3 : w8.cell? ⟨kb, 3, none⟩ = some (.slice kK km kd) := H8.out.2.2.2.1.cell 3
            have j0 : w8.cell? ⟨w7.heap.size, 0, none⟩ = some (.int .i64 kt2) := hr8.cell 0
            have j1 : w8.cell? ⟨w7.heap.size, 1, none⟩ = some (.int .u64 kn2) := hr8.cell 1
            have j2 : w8.cell? ⟨w7.heap.size, 2, none⟩ = some (.slice kA2 kln2 kc2) := hr8.cell 2
            have j3 : w8.cell? ⟨w7.heap.size, 3, none⟩ = some (.slice kK2 km2 kd2) := hr8.cell 3
            clear hlv2 hrd2 hg7 hrs7 hk7 hr7 hw8 hp8 hr8 HC2 f2 H5 HLV5 hlt5
            go_upto_region 16 with (fail)
            rw [← HE8.out]
            obtain ⟨vb, hvb⟩ : ∃ vb, w7.heap.size = vb := ⟨_, rfl⟩
            rw [hvb] at j0 j1 j2 j3 HL2 H8 ⊢
            clear HE8 hvb
            go_wp2_with (at_builtin; refine wpList_append_own_at _ rfl _ _ 25 rfl (B + 1) 27 iN _ 4 64 Tryd.underlying25 hiN hzN hsN hbN rfl (by decide) (.slice K m d) m cells rfl ?b1 ⟨w8.heap.size, 0, none⟩ 2 2 [.int .i64 kt, .int .u64 kn, .slice kA kln kc, .slice kK km kd, .int .i64 kt2, .int .u64 kn2, .slice kA2 kln2 kc2, .slice kK2 km2 kd2] rfl rfl (eight_cells w8 _ _ _ _ _ _ _ _ _) ?b2 ?b3 ?b4 ?b5 ?_)
            case b1 => exact H8.out.2.2.1.own.alloc _
            case b2 => simp [Value.oneCell']
            case b3 => unfold maxLen; omega
            case b4 => omega
            case b5 => have := HGQ.out.1; have := HKO.out.2; have := H8.out.2.2.2.2; simp; omega
            intro v' w9 hown hgrow _ hat
            obtain ⟨K', d', rfl⟩ := own_slice hown
            have hpa := past_alloc8 w8 (.cells #[.int .i64 kt, .int .u64 kn, .slice kA kln kc, .slice kK km kd, .int .i64 kt2, .int .u64 kn2, .slice kA2 kln2 kc2, .slice kK2 km2 kd2] 27)
            have hol := H8.out.2.2.1.own.lt
            have hob : ∀ kb, (Value.slice K m d).ownBlock = some kb → w.heap.size ≤ kb := fun kb hk => by have := (hol kb hk).1; have := HGQ.out.1; omega
            have hszs := H8.out.2.2.2.2
            have H9 : Hid (Kl true xs lv w w9 B q g A n c A1 c1 nm nx0 (i + 1) n2 (m + 2) K' d' (kids ++ [t, t2]) (cells ++ [.int .i64 kt, .int .u64 kn, .slice kA kln kc, .slice kK km kd, .int .i64 kt2, .int .u64 kn2, .slice kA2 kln2 kc2, .slice kK2 km2 kd2]) ∧ BefR q g A n c A1 c1 xs (.slice EA el ec) (befX (i + 1) (m + 2) (kids ++ [t, t2]))) := by
              refine Lib.hid ⟨⟨HSM2.out, ?_, ?_, ?_, by omega, HGQ.out.1, HGQ.out.2⟩, EA, el, ec, rfl, fun wy k hrs => ?_⟩
              · exact (H8.out.1.past hpa).far HGQ.out.2 hgrow hob
              · exact grown_own (only_trans H8.out.2.1 (only_of_past hpa (some g))) hgrow hob
              · refine Kds.push2 (H8.out.2.2.1.later hpa) (lo := wr.heap.size) (hi := kb) (lo2 := w5.heap.size) (hi2 := vb) (by have := HGQ.out.1; have := HKO.out.2; omega) (by have := hpa.size; omega) HKO.out.1 (fun w'' hw => HL1.out w'' fun k h1 h2 => ?_) (by have := HGQ.out.1; have := HKO.out.2; have := H8.out.2.2.2.1.lt; omega) (by have := hpa.size; omega) (fun kk hk => by have := HKO.out.1 kk hk; omega) (fun w'' hw => HL2.out w'' fun k h1 h2 => ?_) hown hgrow (by rw [World.size_alloc]; exact hat)
                · rw [hw k h1 h2, hpa.block k (by omega)]
                · rw [hw k h1 h2, hpa.block k (by omega)]
              · have hkl := H8.out.2.2.1.len
                have e : befX (i + 1) (m + 2) (kids ++ [t, t2]) = txt t := by
                  unfold befX
                  rw [if_neg (by omega), show m + 2 - 2 = m by omega, List.getD_eq_getElem?_getD, List.getElem?_append_right (by omega), hkl, Nat.sub_self]
                  rfl
                rw [e]
                exact HENC.out wy k hrs
            clear hown hgrow hat hpa hol hob k0 k1 k2 k3 j0 j1 j2 j3 H8 HL1 HL2 HSM HSM2 HKO HENC
            have hmm : m + 2 = 2 * (i + 1) := by have := HM2.out; omega
            have HMM := Lib.hid hmm
            clear hmm
            go_wp2_with fail
            go_roundg (nm - (i + 1))
            case rel => exact ⟨i + 1, n2, m + 2, d', K', _, _, _, by omega, rfl, HMM.out, rfl, rfl, by go_num, H9⟩
            case measure => have := HGK.out; omega
    · obtain rfl : i = nm := by omega
      have HQ : Hid (itemsR (rd xs lv) true i nx0 [] = .inr (kids, nx)) := Lib.hid (by
        rw [HK.out.1.same, Nat.sub_self]
        rfl)
      have hli : ¬ (i : Int) < (i : Int) := by omega
      clear hlt
      go_wp2_with fail
      go_ret2
      rw [HQ.out]
      refine ⟨K, m, d, rfl, fun k hk w'' hag => HK.out.1.kds.node (by omega) w'' fun j h1 h2 => hag j (by have := HK.out.1.wb; omega) h2, HK.out.1.rs.rd, HK.out.1.grown⟩

end Go.Proofs.YtmhgpdfllpgjpaaDoor
