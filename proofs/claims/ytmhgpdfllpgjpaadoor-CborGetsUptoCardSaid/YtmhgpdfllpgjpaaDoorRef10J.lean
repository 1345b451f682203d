/- The reference's test of the shape: a list. -/
import Derived.Test.YtmhgpdfllpgjpaaDoorRef10I
import Derived.Deep.RegionLaw
namespace Go.Proofs.YtmhgpdfllpgjpaaDoor
open Go.RowKit
set_option linter.unusedVariables false
set_option linter.unusedSimpArgs false

set_option maxHeartbeats 8000000 in
set_option maxRecDepth 100000 in
theorem shaped_list {w0 : World} (w : World) (nm : Int) (A : Option Addr) (n c : Nat) (bytes : List Int) (K : Option Addr) (m d : Nat) (kids : List T) (v0 v1 v2 v3 : Nat → Value) (hw : Past w0 w) (hu : 0 ≤ nm) (hb : Sl w0 A n c bytes) (hl : kids.length = m) (hmb : m ≤ 1000000000)
    (hc : 0 < m → ∃ b o, K = some ⟨b, o, none⟩ ∧ ∀ i, i < m → w0.cell? ⟨b, o + i * 4, none⟩ = some (v0 i) ∧ w0.cell? ⟨b, o + i * 4 + 1, none⟩ = some (v1 i) ∧ w0.cell? ⟨b, o + i * 4 + 2, none⟩ = some (v2 i) ∧ w0.cell? ⟨b, o + i * 4 + 3, none⟩ = some (v3 i))
    (hs : ∀ i, i < m → ∀ w, Past w0 w → Calls Tryd.prog 39 #[.agg #[v0 i, v1 i, v2 i, v3 i]] w (ShapeP (shp (kids.getD i default)) w))
    (hok : nm = 0 ∧ n = 0) :
    Calls Tryd.prog 39 #[.agg #[.int .i64 4, .int .u64 nm, .slice A n c, .slice K m d]] w (ShapeP (shpL kids) w) := by
  obtain ⟨rfl, rfl⟩ := hok
  have HR : Hid (Iw w0 w (w.alloc (.cells #[.int .i64 4, .int .u64 0, .slice A 0 c, .slice K m d] 34)) w.heap.size 4 0 A 0 c K m d) := Lib.hid ⟨hw.trans' (past_alloc8 _ _), past_alloc8 _ _, Row.new _ _ _⟩
  have HS := Lib.hid hs
  have HC := Lib.hid hc
  have HL := Lib.hid hl
  have HW := Lib.hid hw
  have H0 : Hid (shpL (kids.take 0) = true) := Lib.hid rfl
  clear hs hc hl hw hb hu
  go_enter Tryd.func39, Tryd.ntmps39
  go_wp2_with fail
  generalize w.alloc (.cells #[.int .i64 4, .int .u64 0, .slice A 0 c, .slice K m d] 34) = w1 at *
  generalize w.heap.size = g at *
  go_loopg [3] 0 (fun k s3 wx => k = 0 ∧ s3 = .int .i64 0 ∧ wx = w1)
  case atStart => exact ⟨rfl, rfl, rfl⟩
  case round =>
    obtain ⟨_, rfl, rfl⟩ := hrel
    have f2 : wr.cell? ⟨g, 2, none⟩ = some (.slice A 0 c) := HR.out.row.cell 2
    go_wp2_with fail
    go_loopg [4] m (fun k s4 wx => ∃ i : Nat, i ≤ m ∧ k = m - i ∧ s4 = .int .i64 (i : Int) ∧ Hid (shpL (kids.take i) = true) ∧ Hid (Iw w0 w wx g 4 0 A 0 c K m d))
    case atStart => exact ⟨0, Nat.zero_le _, rfl, rfl, H0, HR⟩
    case round =>
      clear H0 HR f2
      obtain ⟨i, hi, hgk, rfl, HE, HQ⟩ := hrel
      have HGK := Lib.hid hgk
      clear hgk
      have f0 : wr.cell? ⟨g, 0, none⟩ = some (.int .i64 4) := HQ.out.row.cell 0
      have f3 : wr.cell? ⟨g, 3, none⟩ = some (.slice K m d) := HQ.out.row.cell 3
      by_cases hlt : i < m
      · obtain ⟨b, o, rfl, hcell⟩ := HC.out (by omega)
        obtain ⟨c0, c1, c2, c3⟩ := kid_cells (hcell i hlt) HQ.out.base
        have d0 : wr.drew.cell? ⟨b, o + i * 4, none⟩ = some (v0 i) := c0
        have d1 : wr.drew.cell? ⟨b, o + i * 4 + 1, none⟩ = some (v1 i) := c1
        have d2 : wr.drew.cell? ⟨b, o + i * 4 + 2, none⟩ = some (v2 i) := c2
        have d3 : wr.drew.cell? ⟨b, o + i * 4 + 3, none⟩ = some (v3 i) := c3
        have f3d : wr.drew.cell? ⟨g, 3, none⟩ = some (.slice (some ⟨b, o, none⟩) m d) := f3
        have hpd : Past wr wr.drew := Past.drewN (Below.refl _ wr) 1
        have HS1 := Lib.hid (HS.out i hlt wr.drew (HQ.out.base.trans' hpd))
        have HLT := Lib.hid hlt
        have hi0 : (0 : Int) ≤ (i : Int) := by omega
        have him : (i : Int) < (m : Int) := by omega
        have hib : (i : Int) ≤ 1000000000 := by omega
        have HSN : Hid (shpL (kids.take (i + 1)) = (shpL (kids.take i) && shp (kids.getD i default))) := Lib.hid (by rw [take_next kids i (by rw [HL.out]; exact hlt), shpL_snoc])
        have HQD : Hid (Iw w0 w wr.drew g 4 0 A 0 c (some ⟨b, o, none⟩) m d) := Lib.hid (HQ.out.later hpd)
        have hU : undef = Value.tuple #[] := rfl
        cases hsk : shp (kids.getD i default) with
        | false =>
          have HF : Hid (shpL kids = false) := Lib.hid (shpL_at kids i (by rw [HL.out]; exact hlt) hsk)
          rw [hsk] at HS1
          clear hlt hcell hsk hpd
          go_wp2_with fail
          first | (go_region_law (first
            | (rename_i K hK; go_simp; go_at_call 39; (with_reducible refine HS1.out.mono ?_); rintro e2 w2 ⟨rfl, hp2⟩; have HP2 := Lib.hid (HQD.out.later hp2); clear hp2; have e0 : w2.cell? ⟨g, 0, none⟩ = some (.int .i64 4) := HP2.out.row.cell 0; (try go_simp); refine hK _ _ ?_; clear hK K
               refine wpAny_take (i := 6) (v := .bool true) rfl (by kernel_rfl) (by kernel_rfl) (by kernel_rfl) (fun _ _ _ h => h) (Or.inl ⟨by kernel_rfl, fun w => by kernel_rfl⟩) ?_; (try simp only [Act.put, List.setIfInBounds_toArray, List.set_cons_zero, List.set_cons_succ]);
               refine wpAny_take (i := 7) (v := .bool true) rfl (by kernel_rfl) (by kernel_rfl) (by kernel_rfl) (fun _ _ _ h => h) (Or.inl ⟨by kernel_rfl, fun w => by kernel_rfl⟩) ?_; (try simp only [Act.put, List.setIfInBounds_toArray, List.set_cons_zero, List.set_cons_succ]);
               refine wpAny_skips (fuel := 1) (by kernel_rfl) [8, 9, 10, 11, 12, 13, 14, 15, 16, 17, 18, 19, 20, 21, 22, 23, 24, 25, 26, 27, 28, 29, 30, 31, 32, 33, 34, 35, 36] _ _ (by repeat (first | exact trivial | refine ⟨fun _ _ _ h => h, ?_⟩)) (by kernel_rfl) ?_; dsimp only [skipL, skipA]; (try simp only [Act.put, List.setIfInBounds_toArray, List.set_cons_zero, List.set_cons_succ])))) | fail
          all_goals
            go_wp2_with fail
            go_ret
            rw [HF.out]
            exact ⟨rfl, HP2.out.past⟩
        | true =>
          rw [hsk] at HS1
          clear hlt hcell hpd
          go_wp2_with fail
          first | (go_region_law (first
            | (rename_i K hK; go_simp; go_at_call 39; (with_reducible refine HS1.out.mono ?_); rintro e2 w2 ⟨rfl, hp2⟩; have HP2 := Lib.hid (HQD.out.later hp2); clear hp2; have e0 : w2.cell? ⟨g, 0, none⟩ = some (.int .i64 4) := HP2.out.row.cell 0; (try go_simp); refine hK _ _ ?_; clear hK K
               refine wpAny_take (i := 6) (v := .bool false) rfl (by kernel_rfl) (by kernel_rfl) (by kernel_rfl) (fun _ _ _ h => h) (Or.inl ⟨by kernel_rfl, fun w => by kernel_rfl⟩) ?_; (try simp only [Act.put, List.setIfInBounds_toArray, List.set_cons_zero, List.set_cons_succ]);
               refine wpAny_take (i := 7) (v := .bool false) rfl (by kernel_rfl) (by kernel_rfl) (by kernel_rfl) (fun _ _ _ h => h) (Or.inl ⟨by kernel_rfl, fun w => by kernel_rfl⟩) ?_; (try simp only [Act.put, List.setIfInBounds_toArray, List.set_cons_zero, List.set_cons_succ]);
               refine wpAny_take (i := 8) (v := .pointer (some ⟨g, 0, none⟩)) rfl (by kernel_rfl) (by kernel_rfl) (by kernel_rfl) (fun _ _ _ h => h) (Or.inl ⟨by kernel_rfl, fun w => by kernel_rfl⟩) ?_; (try simp only [Act.put, List.setIfInBounds_toArray, List.set_cons_zero, List.set_cons_succ]);
               refine wpAny_ready (rs := [9]) (by kernel_rfl) (by simp) ?_; refine AllReady.cons rfl (fun K hK => ?_) AllReady.nil; go_simp; refine hK _ _ ?_; clear hK K; (try simp only [Act.put, List.setIfInBounds_toArray, List.set_cons_zero, List.set_cons_succ]);
               refine wpAny_take (i := 10) (v := .bool false) rfl (by kernel_rfl) (by kernel_rfl) (by kernel_rfl) (fun _ _ _ h => h) (Or.inl ⟨by kernel_rfl, fun w => by kernel_rfl⟩) ?_; (try simp only [Act.put, List.setIfInBounds_toArray, List.set_cons_zero, List.set_cons_succ]);
               refine wpAny_take (i := 11) (v := .bool false) rfl (by kernel_rfl) (by kernel_rfl) (by kernel_rfl) (fun _ _ _ h => h) (Or.inl ⟨by kernel_rfl, fun w => by kernel_rfl⟩) ?_; (try simp only [Act.put, List.setIfInBounds_toArray, List.set_cons_zero, List.set_cons_succ]);
               refine wpAny_skips (fuel := 23) (by kernel_rfl) [12, 13, 14] _ _ (by repeat (first | exact trivial | refine ⟨fun _ _ _ h => h, ?_⟩)) (by kernel_rfl) ?_; dsimp only [skipL, skipA]; (try simp only [Act.put, List.setIfInBounds_toArray, List.set_cons_zero, List.set_cons_succ]);
               refine wpAny_take (i := 15) (v := .bool false) rfl (by kernel_rfl) (by kernel_rfl) (by kernel_rfl) (fun _ _ _ h => h) (Or.inl ⟨by kernel_rfl, fun w => by kernel_rfl⟩) ?_; (try simp only [Act.put, List.setIfInBounds_toArray, List.set_cons_zero, List.set_cons_succ]);
               refine wpAny_take (i := 16) (v := .bool false) rfl (by kernel_rfl) (by kernel_rfl) (by kernel_rfl) (fun _ _ _ h => h) (Or.inl ⟨by kernel_rfl, fun w => by kernel_rfl⟩) ?_; (try simp only [Act.put, List.setIfInBounds_toArray, List.set_cons_zero, List.set_cons_succ]);
               refine wpAny_skips (fuel := 19) (by kernel_rfl) [17, 18] _ _ (by repeat (first | exact trivial | refine ⟨fun _ _ _ h => h, ?_⟩)) (by kernel_rfl) ?_; dsimp only [skipL, skipA]; (try simp only [Act.put, List.setIfInBounds_toArray, List.set_cons_zero, List.set_cons_succ]);
               refine wpAny_take (i := 19) (v := .bool false) rfl (by kernel_rfl) (by kernel_rfl) (by kernel_rfl) (fun _ _ _ h => h) (Or.inl ⟨by kernel_rfl, fun w => by kernel_rfl⟩) ?_; (try simp only [Act.put, List.setIfInBounds_toArray, List.set_cons_zero, List.set_cons_succ]);
               refine wpAny_take (i := 20) (v := .bool false) rfl (by kernel_rfl) (by kernel_rfl) (by kernel_rfl) (fun _ _ _ h => h) (Or.inl ⟨by kernel_rfl, fun w => by kernel_rfl⟩) ?_; (try simp only [Act.put, List.setIfInBounds_toArray, List.set_cons_zero, List.set_cons_succ]);
               refine wpAny_skips (fuel := 2) (by kernel_rfl) [21, 22, 23, 24, 25, 26, 27, 28, 29, 30, 31, 32, 33, 34, 35] _ _ (by repeat (first | exact trivial | refine ⟨fun _ _ _ h => h, ?_⟩)) (by kernel_rfl) ?_; dsimp only [skipL, skipA]; (try simp only [Act.put, List.setIfInBounds_toArray, List.set_cons_zero, List.set_cons_succ])))) | fail
          all_goals
            go_wp2_with fail
            go_roundg (m - (i + 1))
            case rel => exact ⟨i + 1, by have := HLT.out; omega, rfl, by go_num, Lib.hid (by rw [HSN.out, HE.out, hsk]; rfl), HP2⟩
            case measure => have := HGK.out; omega
      · obtain rfl : i = m := by omega
        have HF : Hid (shpL kids = true) := Lib.hid (by
          have h := HE.out
          rwa [List.take_of_length_le (by rw [HL.out]; exact Nat.le_refl _)] at h)
        go_wp2_with fail
        go_ret
        rw [HF.out]
        exact ⟨rfl, HQ.out.past⟩
end Go.Proofs.YtmhgpdfllpgjpaaDoor
