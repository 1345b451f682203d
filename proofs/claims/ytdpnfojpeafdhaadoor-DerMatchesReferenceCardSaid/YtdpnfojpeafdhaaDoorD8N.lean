/- The program's reading of the kids, over the contract of reading a node. -/
import Derived.Test.YtdpnfojpeafdhaaDoorD8L
namespace Go.Proofs.YtdpnfojpeafdhaaDoor
open Go.RowKit
set_option linter.unusedVariables false

theorem Kds.grown {wx wy : World} {q g : Nat} {e : TypeId} {v : Value} {m : Nat} {kids : List T} {cells : List Value} (h : Kds wx q e v m kids cells) (hg : wx.grownBy wy (some g)) (hq : g ≤ q) : Kds wy q e v m kids cells := by
  refine ⟨h.len, h.own.kept hg (.inr ?_), fun i hi => (h.at0 i hi).agree hg.size fun k hk hlt _ => hg.block k hlt fun e => by injection e with e; omega⟩
  intro e
  have := (h.own.lt g e).1
  omega
theorem Sl.far {w w' : World} {A : Option Addr} {n c : Nat} {xs : List Int} {row : Option Nat} (h : Sl w A n c xs) (hg : w.grownBy w' row) (hb : ∀ b o, A = some ⟨b, o, none⟩ → 0 < n → some b ≠ row) : Sl w' A n c xs :=
  ⟨h.len, h.cap, h.big, fun hn => by
    obtain ⟨b, o, rfl, hc⟩ := h.bytes hn
    exact ⟨b, o, rfl, fun i hi => hg.cell (hc i hi) (hb b o rfl hn)⟩, h.rng, h.nil0⟩
theorem Sl.old {w : World} {A : Option Addr} {n c : Nat} {xs : List Int} (h : Sl w A n c xs) : ∀ b o, A = some ⟨b, o, none⟩ → 0 < n → b < w.heap.size := by
  intro b o e hn
  obtain ⟨b', o', e', hc⟩ := h.bytes hn
  subst e
  injection e' with e'
  injection e' with e1 e2
  subst e1
  exact cell_lt (hc 0 hn)
/-- What the loop over the kids keeps. -/
structure Kl (xs : List Int) (lv : Nat) (tag : Int) (w wx : World) (g q nx l : Nat) (A : Option Addr) (n c : Nat) (a m f : Nat) (K : Option Addr) (d : Nat) (kids : List T) (cells : List Value) : Prop where
  fuel : nx + l ≤ a + f
  same : kidsW (rd xs lv) tag (nx + l) l nx [] = kidsW (rd xs lv) tag (nx + l) f a kids
  rw : Rw wx g A n c xs a
  grown : w.grownBy wx (some g)
  rb : Row wx q 60 #[.pointer (some ⟨g, 0, none⟩)]
  kds : Kds wx q 26 (.slice K m d) m kids cells
  gq : g < q
  wq : w.heap.size = q
  old : ∀ b o, A = some ⟨b, o, none⟩ → 0 < n → b < q
theorem infoD3 : (Tryd.prog.info? 26).map (fun i => (i.zero, i.size, i.bytes)) = some (some (.agg #[.int .u8 0, .slice none 0 0, .slice none 0 0]), 3, 56) := by kernel_rfl

set_option maxHeartbeats 4000000 in
set_option maxRecDepth 100000 in
theorem kids_any (w : World) (g : Nat) (A : Option Addr) (n c : Nat) (xs : List Int) (nx l lv : Nat) (above : Int) (tag : Int) (ht : 0 ≤ tag ∧ tag < 256) (h : Rw w g A n c xs nx) (hl : nx + l ≤ n)
    (ihn : ∀ wz at0, Rw wz g A n c xs at0 → Calls Tryd.prog 25 #[rdV g, .int .i64 ((nx : Int) + (l : Int)), .int .i64 above] wz (NodeP (rd xs lv at0 (nx + l)) wz g A n c)) :
    Calls Tryd.prog 43 #[rdV g, .int .i64 ((nx : Int) + (l : Int)), .int .i64 above] w (KidsP (kidsW (rd xs lv) tag (nx + l) l nx []) tag w g A n c) := by
  have hp := past_alloc8 w (.cells #[.pointer (some ⟨g, 0, none⟩)] 60)
  have H0 : Hid (Kl xs lv tag w (w.alloc (.cells #[.pointer (some ⟨g, 0, none⟩)] 60)) g w.heap.size nx l A n c nx 0 l none 0 [] []) :=
    Lib.hid ⟨Nat.le_refl _, rfl, h.past hp, only_of_past hp _, Row.new _ _ _, Kds.nil _ _ _, h.rd.lt, rfl, h.sl.old⟩
  have hnn := h.hn
  have HIH := Lib.hid ihn
  have HT := Lib.hid ht
  obtain ⟨iN, hiN, hzN, hsN, hbN⟩ := info_parts infoD3
  clear h hp ihn ht
  go_enter Tryd.func43, Tryd.ntmps43
  go_wp2_with fail
  generalize w.alloc (.cells #[.pointer (some ⟨g, 0, none⟩)] 60) = w1 at *
  generalize w.heap.size = q at *
  go_loopg [8, 9, 10] l (fun k s8 _ _ wx => ∃ (a m d f : Nat) (K : Option Addr) (kids : List T) (cells : List Value), nx ≤ a ∧ a ≤ nx + l ∧ k = nx + l - a ∧ m ≤ a ∧ s8 = .slice K m d ∧ Hid (Kl xs lv tag w wx g q nx l A n c a m f K d kids cells))
  case atStart => exact ⟨nx, 0, 0, l, none, [], [], Nat.le_refl _, Nat.le_add_right _ _, by omega, Nat.zero_le _, rfl, H0⟩
  case round =>
    clear H0
    obtain ⟨a, m, d, f, K, kids, cells, ha1, ha2, hgk, hma, rfl, HK⟩ := hrel
    have HGK := Lib.hid hgk
    clear hgk
    have f0 : wr.cell? ⟨q, 0, none⟩ = some (.pointer (some ⟨g, 0, none⟩)) := HK.out.rb.cell 0
    by_cases hlt : a < nx + l
    · obtain ⟨f, rfl⟩ : ∃ f', f = f' + 1 := ⟨f - 1, by have := HK.out.fuel; omega⟩
      have hlti : (a : Int) < (nx : Int) + (l : Int) := by omega
      have HC := Lib.hid (HIH.out wr a HK.out.rw)
      go_wp2_with fail
      refine (wat_any _ g A n c a HK.out.rw.rd).mono ?_
      rintro e w2 ⟨rfl, rfl⟩
      cases hq : rd xs lv a (nx + l) with
      | err c0 a0 =>
        rw [hq] at HC
        have HQ : Hid (kidsW (rd xs lv) tag (nx + l) l nx [] = .err c0 a0) := Lib.hid (by rw [HK.out.same]; simp only [kidsW]; rw [if_pos hlt, hq])
        clear hq
        go_wp2_with fail
        refine HC.out.mono ?_
        rintro e w3 ⟨rfl, hg3⟩
        have HE : Hid (w.grownBy w3 (some g)) := only_trans HK.out.grown hg3
        clear hg3 HK HC f0
        simp only [valFlt]
        go_wp2_with fail
        go_ret2
        rw [HQ.out]
        exact ⟨rfl, only_trans HE.out (only_of_past (past_alloc8 _ _) _)⟩
      | ok t n1 =>
        rw [hq] at HC
        have hn1 := rd_next xs lv a (nx + l) t n1 hq
        have HKS : Hid (kidsW (rd xs lv) tag (nx + l) (f + 1) a kids = kidsW (rd xs lv) tag (nx + l) f n1 (kids ++ [t])) := Lib.hid (by
          rw [kidsW, if_pos hlt, hq])
        clear hq
        go_wp2_with fail
        refine HC.out.mono ?_
        rintro e w3 ⟨x, y, z, rfl, hlv, hrd, hg3⟩
        obtain ⟨kt, kA, kn, kc, kK, km, kd, rfl, rfl, rfl⟩ := (hlv w3 fun _ _ _ => rfl).shape
        have hk3 := HK.out.kds.grown hg3 (Nat.le_of_lt HK.out.gq)
        have hrw3 := HK.out.rw.move hg3 hrd (by omega)
        have hrb3 := HK.out.rb.grown hg3 (by have := HK.out.gq; intro e; injection e with e; omega)
        have hp4 := past_alloc8 w3 (.cells #[.int .u8 kt, .slice kA kn kc, .slice kK km kd] 26)
        have H4 : Hid (Rw w3 g A n c xs n1 ∧ w.grownBy w3 (some g) ∧ Row w3 q 60 #[.pointer (some ⟨g, 0, none⟩)] ∧ Kds w3 q 26 (.slice K m d) m kids cells ∧ wr.heap.size ≤ w3.heap.size ∧ q < wr.heap.size) :=
          Lib.hid ⟨hrw3, only_trans HK.out.grown hg3, hrb3, hk3, hg3.size, HK.out.rb.lt⟩
        have HLV := Lib.hid hlv
        have HSM := Lib.hid (And.intro HK.out.fuel (HK.out.same.trans HKS.out))
        have HGQ := Lib.hid (And.intro HK.out.gq (And.intro HK.out.wq HK.out.old))
        have hkol := fun kb hk => (HK.out.kds.own.lt kb hk).2
        have HKO := Lib.hid hkol
        have hm8 : m ≤ 1048576 := by omega
        obtain ⟨w4, hw4⟩ : ∃ w4, w4 = w3.alloc (.cells #[.int .u8 kt, .slice kA kn kc, .slice kK km kd] 26) := ⟨_, rfl⟩
        rw [← hw4] at hp4
        have HW4 := Lib.hid hp4
        have HE4 := Lib.hid hw4
        clear hrd hg3 hk3 hrw3 hrb3 hp4 hw4 hlv HK HC f0 HKS hkol
        go_upto_region 6 with (fail)
        rw [← HE4.out]
        have g4 : Row w4 w3.heap.size 26 #[.int .u8 kt, .slice kA kn kc, .slice kK km kd] := by rw [HE4.out]; exact Row.new _ _ _
        have k0 : w4.cell? ⟨w3.heap.size, 0, none⟩ = some (.int .u8 kt) := g4.cell 0
        have k1 : w4.cell? ⟨w3.heap.size, 1, none⟩ = some (.slice kA kn kc) := g4.cell 1
        have k2 : w4.cell? ⟨w3.heap.size, 2, none⟩ = some (.slice kK km kd) := g4.cell 2
        go_wp2_with (at_builtin; refine wpList_append_own_at _ rfl _ _ 24 rfl (q + 1) 26 iN _ 3 56 Tryd.underlying24 hiN hzN hsN hbN rfl (by decide) (.slice K m d) m cells rfl ?b1 ⟨w4.heap.size, 0, none⟩ 1 1 [.int .u8 kt, .slice kA kn kc, .slice kK km kd] rfl rfl (three_cells w4 _ _ _ _) ?b2 ?b3 ?b4 ?b5 ?_)
        case b1 => exact (H4.out.2.2.2.1.later HW4.out).own.alloc _
        case b2 => simp [Value.oneCell']
        case b3 => unfold maxLen; omega
        case b4 => omega
        case b5 => have := H4.out.2.2.1.lt; have := HW4.out.size; simp; omega
        intro v' w7 hown hgrow _ hat
        obtain ⟨K', d', rfl⟩ := own_slice hown
        have hpa := HW4.out.trans' (past_alloc8 w4 (.cells #[.int .u8 kt, .slice kA kn kc, .slice kK km kd] 26))
        have hol := H4.out.2.2.2.1.own.lt
        have hgq := HGQ.out.1
        have hqb : some q ≠ (Value.slice K m d).ownBlock := fun e => by have := (hol q e.symm).1; omega
        have hob : ∀ kb, (Value.slice K m d).ownBlock = some kb → q < kb := fun kb hk => by have := (hol kb hk).1; omega
        have H8 : Hid (Kl xs lv tag w w7 g q nx l A n c n1 (m + 1) f K' d' (kids ++ [t]) (cells ++ [.int .u8 kt, .slice kA kn kc, .slice kK km kd])) := by
          have hr4 := H4.out.1.past hpa
          have hgl := hr4.rd.lt
          refine Lib.hid ⟨by have := HSM.out.1; omega, HSM.out.2, ⟨?_, ?_, by omega, hnn⟩, ?_, ?_, ?_, HGQ.out.1, HGQ.out.2.1, HGQ.out.2.2⟩
          · exact (hgrow.block g hgl fun e => by have := hob g e.symm; omega).trans hr4.rd
          · refine hr4.sl.far hgrow fun b o e hn0 h => ?_
            have h1 := HGQ.out.2.2 b o e hn0
            have h2 := hob b h.symm
            omega
          · have hg4 := only_trans H4.out.2.1 (only_of_past hpa (some g))
            refine ⟨hgrow.os.trans hg4.os, hgrow.tape.trans hg4.tape, hgrow.output.trans hg4.output, Nat.le_trans hg4.size hgrow.size, fun i hi hne => ?_⟩
            rw [hgrow.block i (Nat.lt_of_lt_of_le hi hg4.size) fun e => by have := hob i e.symm; have := HGQ.out.2.1; omega]
            exact hg4.block i hi hne
          · exact (H4.out.2.2.1.past hpa).grown hgrow hqb
          · refine Kds.push (H4.out.2.2.2.1.later hpa) (lo := wr.heap.size) (hi := w3.heap.size) H4.out.2.2.2.2.2 hpa.size HKO.out (fun w'' hw => HLV.out w'' fun k h1 h2 => ?_) hown hgrow (by rw [World.size_alloc]; exact hat)
            rw [hw k h1 h2, hpa.block k h2]
        clear hown hgrow hat hpa hol hqb hob g4 k0 k1 k2 H4 HLV HSM HKO HW4 HE4
        go_wp2_with fail
        go_roundg (nx + l - n1)
        case rel => exact ⟨n1, m + 1, d', f, K', _, _, by omega, by omega, rfl, by omega, rfl, H8⟩
        case measure => have := HGK.out; omega
    · obtain rfl : a = nx + l := by omega
      have HQ : Hid (kidsW (rd xs lv) tag (nx + l) l nx [] = .ok (.node tag [] kids) (nx + l)) := Lib.hid (by
        rw [HK.out.same]
        cases f with
        | zero => rfl
        | succ f => simp only [kidsW]; rw [if_neg hlt])
      have hli : ¬ (nx : Int) + (l : Int) < (nx : Int) + (l : Int) := by omega
      have hcs : ((nx + l : Nat) : Int) = (nx : Int) + (l : Int) := by omega
      have HA := Lib.hid (wat_any _ g A n c (nx + l) HK.out.rw.rd)
      rw [hcs] at HA
      clear hcs hlt
      go_wp2_with fail
      refine HA.out.mono ?_
      rintro e w2 ⟨rfl, rfl⟩
      go_wp2_with fail
      go_ret2
      rw [HQ.out]
      refine ⟨K, m, d, rfl, fun w'' hag => HK.out.kds.node HT.out w'' fun k h1 h2 => hag k (by have := HK.out.wq; omega) h2, HK.out.rw.rd, HK.out.grown⟩

end Go.Proofs.YtdpnfojpeafdhaaDoor
