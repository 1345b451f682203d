/- The program's reading of items one after another, over the contract of reading one. -/
import Derived.Test.YtmhgpdfllpgjpaaDoorC10MD
namespace Go.Proofs.YtmhgpdfllpgjpaaDoor
open Go.RowKit
set_option linter.unusedVariables false

abbrev zero4 : Array Value := #[.int .i64 0, .int .u64 0, .slice none 0 0, .slice none 0 0]
/-- What reading an item hands back. -/
def PReadP (r : R10) (w : World) (g : Nat) (A1 : Option Addr) (n c1 : Nat) (e : Ending) (w' : World) : Prop :=
  match r with
  | .bad cd a => e = .returned (.tuple #[.agg zero4, (Ch.flt (cd : Int) (a : Int)).val]) ∧ w.grownBy w' (some g)
  | .good t nx => ∃ x y z u, e = .returned (.tuple #[.agg #[x, y, z, u], .nilIface]) ∧ Lives w w' (.agg #[x, y, z, u]) t ∧ Rdr w' g A1 n c1 nx ∧ w.grownBy w' (some g)
/-- What reading items hands back. -/
def KidsQ (r : (Nat × Nat) ⊕ (List T × Nat)) (w : World) (g : Nat) (A1 : Option Addr) (n c1 : Nat) (e : Ending) (w' : World) : Prop :=
  match r with
  | .inl (cd, a) => e = .returned (.tuple #[.slice none 0 0, (Ch.flt (cd : Int) (a : Int)).val]) ∧ w.grownBy w' (some g)
  | .inr (ks, nx) => ∃ K m d, e = .returned (.tuple #[.slice K m d, .nilIface]) ∧ (∀ k : Nat, k ≤ 5 → Lives w w' (.agg #[.int .i64 (k : Int), .int .u64 0, .slice none 0 0, .slice K m d]) (.node (k : Int) 0 [] ks)) ∧ Rdr w' g A1 n c1 nx ∧ w.grownBy w' (some g)

/-- What lies below S. -/
structure Olds (S q g : Nat) (A : Option Addr) (n : Nat) (A1 : Option Addr) : Prop where
  hq : q < S
  hg : g < S
  ha : ∀ b o, A = some ⟨b, o, none⟩ → 0 < n → b < S
  ha1 : ∀ b o, A1 = some ⟨b, o, none⟩ → 0 < n → b < S
section
variable {w w' : World} {q g : Nat} {A : Option Addr} {n c : Nat} {A1 : Option Addr} {c1 : Nat} {xs : List Int} {k : Nat}
theorem Rs.olds (h : Rs w q g A n c A1 c1 xs k) : Olds w.heap.size q g A n A1 := ⟨h.row.lt, h.rd.lt, h.sl.old, h.sl1.old⟩
theorem Rs.far {S : Nat} {row : Option Nat} (h : Rs w q g A n c A1 c1 xs k) (ho : Olds S q g A n A1) (hg : w.grownBy w' row) (hr : ∀ kb, row = some kb → S ≤ kb) : Rs w' q g A n c A1 c1 xs k := by
  refine ⟨h.row.grown hg fun e => ?_, (hg.block g h.rd.lt fun e => ?_).trans h.rd, h.sl1.far hg fun b o e h0 e2 => ?_, h.sl.far hg fun b o e h0 e2 => ?_, h.hk, h.hn, h.ne⟩
  · have := hr q e.symm; have := ho.hq; omega
  · have := hr g e.symm; have := ho.hg; omega
  · have := hr b e2.symm; have := ho.ha1 b o e h0; omega
  · have := hr b e2.symm; have := ho.ha b o e h0; omega
end
theorem Kds.grown {wx wy : World} {q g : Nat} {e : TypeId} {v : Value} {m : Nat} {kids : List T} {cells : List Value} (h : Kds wx q e v m kids cells) (hg : wx.grownBy wy (some g)) (hq : g ≤ q) : Kds wy q e v m kids cells := by
  refine ⟨h.len, h.own.kept hg (.inr ?_), fun i hi => (h.at0 i hi).agree hg.size fun k hk hlt _ => hg.block k hlt fun e => by injection e with e; omega⟩
  intro e
  have := (h.own.lt g e).1
  omega
/-- What the loop over items keeps. -/
structure Kl (mp : Bool) (xs : List Int) (lv : Nat) (w wx : World) (B q g : Nat) (A : Option Addr) (n c : Nat) (A1 : Option Addr) (c1 nm nx0 i nx m : Nat) (K : Option Addr) (d : Nat) (kids : List T) (cells : List Value) : Prop where
  same : itemsR (rd xs lv) mp nm nx0 [] = itemsR (rd xs lv) mp (nm - i) nx kids
  rs : Rs wx q g A n c A1 c1 xs nx
  grown : w.grownBy wx (some g)
  kds : Kds wx B 27 (.slice K m d) m kids cells
  mn : m ≤ nx
  wb : w.heap.size = B + 1
  olds : Olds w.heap.size q g A n A1
/-- The list of items with one more item, in a world behind an append. -/
theorem grown_own {w wx w2 : World} {g : Nat} {row : Option Nat} (h : w.grownBy wx (some g)) (hg : wx.grownBy w2 row) (hr : ∀ kb, row = some kb → w.heap.size ≤ kb) : w.grownBy w2 (some g) :=
  ⟨hg.os.trans h.os, hg.tape.trans h.tape, hg.output.trans h.output, Nat.le_trans h.size hg.size, fun i hi hne => by
    rw [hg.block i (Nat.lt_of_lt_of_le hi h.size) fun e => by have := hr i e.symm; omega]
    exact h.block i hi hne⟩
theorem infoD4 : (Tryd.prog.info? 27).map (fun i => (i.zero, i.size, i.bytes)) = some (some (.agg #[.int .i64 0, .int .u64 0, .slice none 0 0, .slice none 0 0]), 4, 64) := by kernel_rfl
theorem enters_read : ∀ args w, (callFunc 31 args).run Tryd.prog w = .ok (.enter 31 args) w := enters_of Tryd.func31 (by kernel_rfl) rfl

set_option maxHeartbeats 4000000 in
set_option maxRecDepth 100000 in
theorem kids_any (w : World) (q g : Nat) (A : Option Addr) (n c : Nat) (A1 : Option Addr) (c1 : Nat) (xs : List Int) (nx0 nm lv : Nat) (ab : Int) (h : Rs w q g A n c A1 c1 xs nx0) (hnm : nm < 18446744073709551616)
    (ihn : ∀ wz p, Rs wz q g A n c A1 c1 xs p → Calls Tryd.prog 31 #[ptr q, .int .i64 ab] wz (PReadP (rd xs lv p) wz g A1 n c1)) :
    Calls Tryd.prog 48 #[ptr q, .int .u64 (nm : Int), .int .i64 ab] w (KidsQ (itemsR (rd xs lv) false nm nx0 []) w g A1 n c1) := by
  obtain ⟨B, hB⟩ : ∃ B, w.heap.size = B + 1 := ⟨w.heap.size - 1, by have := h.rd.lt; omega⟩
  have H0 : Hid (Kl false xs lv w w B q g A n c A1 c1 nm nx0 0 nx0 0 none 0 [] []) :=
    Lib.hid ⟨rfl, h, World.grownBy.refl _ _, Kds.nil _ _ _, Nat.zero_le _, hB, h.olds⟩
  have HIH := Lib.hid ihn
  have HLB : Hid (∀ p t e, rd xs lv p = .good t e → p < e ∧ e ≤ n) := Lib.hid (fun p t e hq => by
    have := rd_short xs h.sl.rng (by rw [h.len]; exact h.hn) hq
    rw [h.len] at this
    exact ⟨this.1, this.2.1⟩)
  obtain ⟨iN, hiN, hzN, hsN, hbN⟩ := info_parts infoD4
  have eg := enters_read
  have hn := h.hn
  clear h ihn hB
  go_enter Tryd.func48, Tryd.ntmps48
  go_wp2_with fail
  go_loopg [8, 9, 10, 12] nm (fun kk s8 _ _ s12 wx => ∃ (i nx m d : Nat) (K : Option Addr) (kids : List T) (cells : List Value), i ≤ nm ∧ kk = nm - i ∧ s8 = .slice K m d ∧ s12 = .int .u64 (i : Int) ∧ Hid (Kl false xs lv w wx B q g A n c A1 c1 nm nx0 i nx m K d kids cells))
  case atStart => exact ⟨0, nx0, 0, 0, none, [], [], Nat.zero_le _, rfl, rfl, rfl, H0⟩
  case round =>
    clear H0
    obtain ⟨i, nx, m, d, K, kids, cells, hi, hgk, rfl, rfl, HK⟩ := hrel
    have HGK := Lib.hid hgk
    clear hgk
    have f2 : wr.cell? ⟨q, 2, none⟩ = some (fnV q) := HK.out.rs.c2
    by_cases hlt : i < nm
    · have hlti : (i : Int) < (nm : Int) := by omega
      have HC := Lib.hid (HIH.out wr nx HK.out.rs)
      cases hq : rd xs lv nx with
      | bad c0 a0 =>
        rw [hq] at HC
        have HQ : Hid (itemsR (rd xs lv) false nm nx0 [] = .inl (c0, a0)) := Lib.hid (by
          rw [HK.out.same, show nm - i = (nm - (i + 1)) + 1 by omega]
          unfold itemsR
          rw [hq])
        clear hq
        go_wp2_with fail
        refine HC.out.mono ?_
        rintro e w3 ⟨rfl, hg3⟩
        have HE : Hid (w.grownBy w3 (some g)) := only_trans HK.out.grown hg3
        clear hg3 HK HC f2
        simp only [valFlt]
        go_wp2_with fail
        go_ret2
        rw [HQ.out]
        exact ⟨rfl, only_trans HE.out (only_of_past (past_alloc8 _ _) _)⟩
      | good t n1 =>
        rw [hq] at HC
        have hn1 := HLB.out nx t n1 hq
        have HKS : Hid (itemsR (rd xs lv) false (nm - i) nx kids = itemsR (rd xs lv) false (nm - (i + 1)) n1 (kids ++ [t])) := Lib.hid (by
          rw [show nm - i = (nm - (i + 1)) + 1 by omega]
          conv => lhs; unfold itemsR
          rw [hq]
          rfl)
        clear hq
        go_wp2_with fail
        refine HC.out.mono ?_
        rintro e w3 ⟨x, y, z, u, rfl, hlv, hrd, hg3⟩
        obtain ⟨kt, kn, kA, kln, kc, kK, km, kd, rfl, rfl, rfl, rfl⟩ := (hlv w3 fun _ _ _ => rfl).shape
        have hgB : g ≤ B := by have := HK.out.olds.hg; have := HK.out.wb; omega
        have hk3 := HK.out.kds.grown hg3 hgB
        have hrs3 := HK.out.rs.move hg3 hrd (by omega)
        have H4 : Hid (Rs w3 q g A n c A1 c1 xs n1 ∧ w.grownBy w3 (some g) ∧ Kds w3 B 27 (.slice K m d) m kids cells ∧ wr.heap.size ≤ w3.heap.size) :=
          Lib.hid ⟨hrs3, only_trans HK.out.grown hg3, hk3, hg3.size⟩
        have HLV := Lib.hid hlv
        have HSM := Lib.hid (HK.out.same.trans HKS.out)
        have HGQ := Lib.hid (And.intro HK.out.wb HK.out.olds)
        have HKO : Hid ((∀ kb, (Value.slice K m d).ownBlock = some kb → kb < wr.heap.size) ∧ w.heap.size ≤ wr.heap.size) := Lib.hid ⟨fun kb hk => (HK.out.kds.own.lt kb hk).2, HK.out.grown.size⟩
        have hm8 : m ≤ 1048576 := by have := HK.out.mn; omega
        have HMN := Lib.hid HK.out.mn
        obtain ⟨w4, hw4⟩ : ∃ w4, w4 = w3.alloc (.cells #[.int .i64 kt, .int .u64 kn, .slice kA kln kc, .slice kK km kd] 27) := ⟨_, rfl⟩
        have hp4 : Past w3 w4 := by rw [hw4]; exact past_alloc8 _ _
        have HW4 := Lib.hid hp4
        have HE4 := Lib.hid hw4
        clear hrd hg3 hk3 hrs3 hp4 hw4 hlv HK HC f2 HKS
        go_upto_region 7 with (fail)
        rw [← HE4.out]
        have g4 : Row w4 w3.heap.size 27 #[.int .i64 kt, .int .u64 kn, .slice kA kln kc, .slice kK km kd] := by rw [HE4.out]; exact Row.new _ _ _
        have k0 : w4.cell? ⟨w3.heap.size, 0, none⟩ = some (.int .i64 kt) := g4.cell 0
        have k1 : w4.cell? ⟨w3.heap.size, 1, none⟩ = some (.int .u64 kn) := g4.cell 1
        have k2 : w4.cell? ⟨w3.heap.size, 2, none⟩ = some (.slice kA kln kc) := g4.cell 2
        have k3 : w4.cell? ⟨w3.heap.size, 3, none⟩ = some (.slice kK km kd) := g4.cell 3
        go_wp2_with (at_builtin; refine wpList_append_own_at _ rfl _ _ 25 rfl (B + 1) 27 iN _ 4 64 Tryd.underlying25 hiN hzN hsN hbN rfl (by decide) (.slice K m d) m cells rfl ?b1 ⟨w4.heap.size, 0, none⟩ 1 1 [.int .i64 kt, .int .u64 kn, .slice kA kln kc, .slice kK km kd] rfl rfl (four_cells w4 _ _ _ _ _) ?b2 ?b3 ?b4 ?b5 ?_)
        case b1 => exact (H4.out.2.2.1.later HW4.out).own.alloc _
        case b2 => simp [Value.oneCell']
        case b3 => unfold maxLen; omega
        case b4 => omega
        case b5 => have := HGQ.out.1; have := HKO.out.2; have := H4.out.2.2.2; have := HW4.out.size; simp; omega
        intro v' w7 hown hgrow _ hat
        obtain ⟨K', d', rfl⟩ := own_slice hown
        have hpa := HW4.out.trans' (past_alloc8 w4 (.cells #[.int .i64 kt, .int .u64 kn, .slice kA kln kc, .slice kK km kd] 27))
        have hol := H4.out.2.2.1.own.lt
        have hob : ∀ kb, (Value.slice K m d).ownBlock = some kb → w.heap.size ≤ kb := fun kb hk => by have := (hol kb hk).1; have := HGQ.out.1; omega
        have H8 : Hid (Kl false xs lv w w7 B q g A n c A1 c1 nm nx0 (i + 1) n1 (m + 1) K' d' (kids ++ [t]) (cells ++ [.int .i64 kt, .int .u64 kn, .slice kA kln kc, .slice kK km kd])) := by
          refine Lib.hid ⟨HSM.out, ?_, ?_, ?_, by have := HMN.out; omega, HGQ.out.1, HGQ.out.2⟩
          · exact (H4.out.1.past hpa).far HGQ.out.2 hgrow hob
          · exact grown_own (only_trans H4.out.2.1 (only_of_past hpa (some g))) hgrow hob
          · refine Kds.push (H4.out.2.2.1.later hpa) (lo := wr.heap.size) (hi := w3.heap.size) (by have := HGQ.out.1; have := HKO.out.2; omega) hpa.size HKO.out.1 (fun w'' hw => HLV.out w'' fun k h1 h2 => ?_) hown hgrow (by rw [World.size_alloc]; exact hat)
            rw [hw k h1 h2, hpa.block k h2]
        clear hown hgrow hat hpa hol hob g4 k0 k1 k2 k3 H4 HLV HSM HKO HW4 HE4
        go_wp2_with fail
        go_roundg (nm - (i + 1))
        case rel => exact ⟨i + 1, n1, m + 1, d', K', _, _, by omega, rfl, rfl, by go_num, H8⟩
        case measure => have := HGK.out; omega
    · obtain rfl : i = nm := by omega
      have HQ : Hid (itemsR (rd xs lv) false i nx0 [] = .inr (kids, nx)) := Lib.hid (by
        rw [HK.out.same, Nat.sub_self]
        rfl)
      have hli : ¬ (i : Int) < (i : Int) := by omega
      clear hlt
      go_wp2_with fail
      go_ret2
      rw [HQ.out]
      refine ⟨K, m, d, rfl, fun k hk w'' hag => HK.out.kds.node (by omega) w'' fun j h1 h2 => hag j (by have := HK.out.wb; omega) h2, HK.out.rs.rd, HK.out.grown⟩

end Go.Proofs.YtmhgpdfllpgjpaaDoor
