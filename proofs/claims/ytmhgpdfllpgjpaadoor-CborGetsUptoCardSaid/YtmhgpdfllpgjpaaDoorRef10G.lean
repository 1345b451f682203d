/- The reference's test of the shape: a map. -/
import Derived.Test.YtmhgpdfllpgjpaaDoorRef10F
import Derived.Test.YtmhgpdfllpgjpaaDoorSkip10
import Derived.Deep.RegionLaw
import Derived.Deep.RegionHeld3
namespace Go.Proofs.YtmhgpdfllpgjpaaDoor
open Go.RowKit
set_option linter.unusedVariables false
set_option linter.unusedSimpArgs false

def ShapeP (r : Bool) (w : World) (e : Ending) (w' : World) : Prop := e = .returned (.bool r) ∧ Past w w'
/-- An item's block and its kids' cells, in some world. -/
structure Iw (w0 w wx : World) (g : Nat) (kd nm : Int) (A : Option Addr) (n c : Nat) (K : Option Addr) (m d : Nat) : Prop where
  base : Past w0 wx
  past : Past w wx
  row : Row wx g 34 #[.int .i64 kd, .int .u64 nm, .slice A n c, .slice K m d]
theorem Iw.later {w0 w wx wy : World} {g : Nat} {kd nm : Int} {A : Option Addr} {n c : Nat} {K : Option Addr} {m d : Nat} (h : Iw w0 w wx g kd nm A n c K m d) (hp : Past wx wy) : Iw w0 w wy g kd nm A n c K m d :=
  ⟨h.base.trans' hp, h.past.trans' hp, h.row.past hp⟩
/-- What Code of a kid hands back, for any later world. -/
def CodeP (xs : List Int) (w : World) (e : Ending) (w' : World) : Prop := ∃ A c, e = .returned (.slice A xs.length c) ∧ Sl w' A xs.length c xs ∧ Past w w'

theorem shp_took (ks : List T) (i j : Nat) (hj : j < i) (hl : j < ks.length) (h : shpL (ks.take i) = true) : shp (ks.getD j default) = true := by
  have := shpL_in (ks.take i) j (by rw [List.length_take]; omega) h
  rw [List.getD_eq_getElem?_getD] at this ⊢
  rwa [List.getElem?_take_of_lt hj] at this

set_option maxHeartbeats 8000000 in
set_option maxRecDepth 100000 in
theorem shaped_map {w0 : World} (w : World) (nm : Int) (A : Option Addr) (n c : Nat) (bytes : List Int) (K : Option Addr) (m d : Nat) (kids : List T) (v0 v1 v2 v3 : Nat → Value) (hw : Past w0 w) (hu : 0 ≤ nm) (hb : Sl w0 A n c bytes) (hl : kids.length = m) (hmb : m ≤ 1000000000)
    (hc : 0 < m → ∃ b o, K = some ⟨b, o, none⟩ ∧ ∀ i, i < m → w0.cell? ⟨b, o + i * 4, none⟩ = some (v0 i) ∧ w0.cell? ⟨b, o + i * 4 + 1, none⟩ = some (v1 i) ∧ w0.cell? ⟨b, o + i * 4 + 2, none⟩ = some (v2 i) ∧ w0.cell? ⟨b, o + i * 4 + 3, none⟩ = some (v3 i))
    (hs : ∀ i, i < m → ∀ w, Past w0 w → Calls Tryd.prog 39 #[.agg #[v0 i, v1 i, v2 i, v3 i]] w (ShapeP (shp (kids.getD i default)) w))
    (hcd : ∀ i, i < m → shp (kids.getD i default) = true → ∀ w, Past w0 w → Calls Tryd.prog 21 #[.agg #[v0 i, v1 i, v2 i, v3 i]] w (CodeP (txt (kids.getD i default)) w)) (hok : nm = 0 ∧ n = 0 ∧ m % 2 = 0) :
    Calls Tryd.prog 39 #[.agg #[.int .i64 5, .int .u64 nm, .slice A n c, .slice K m d]] w (ShapeP (shpL kids && ordN kids m) w) := by
  obtain ⟨rfl, rfl, hm2⟩ := hok
  have hmod : Int.tmod (m : Int) 2 = 0 := by rw [Int.tmod_eq_emod_of_nonneg (by omega)]; omega
  have HR : Hid (Iw w0 w (w.alloc (.cells #[.int .i64 5, .int .u64 0, .slice A 0 c, .slice K m d] 34)) w.heap.size 5 0 A 0 c K m d) := Lib.hid ⟨hw.trans' (past_alloc8 _ _), past_alloc8 _ _, Row.new _ _ _⟩
  have HS := Lib.hid hs
  have HCD := Lib.hid hcd
  have HC := Lib.hid hc
  have HL := Lib.hid hl
  have HW := Lib.hid hw
  have H0 : Hid (shpL (kids.take 0) = true ∧ ordN kids 0 = true) := Lib.hid ⟨rfl, rfl⟩
  clear hs hcd hc hl hw hb hu hm2
  go_enter Tryd.func39, Tryd.ntmps39
  go_wp2_with fail
  generalize w.alloc (.cells #[.int .i64 5, .int .u64 0, .slice A 0 c, .slice K m d] 34) = w1 at *
  generalize w.heap.size = g at *
  go_loopg [3] 0 (fun k s3 wx => k = 0 ∧ s3 = .int .i64 0 ∧ wx = w1)
  case atStart => exact ⟨rfl, rfl, rfl⟩
  case round =>
    obtain ⟨_, rfl, rfl⟩ := hrel
    have f2 : wr.cell? ⟨g, 2, none⟩ = some (.slice A 0 c) := HR.out.row.cell 2
    go_wp2_with fail
    go_loopg [4] m (fun k s4 wx => ∃ i : Nat, i ≤ m ∧ k = m - i ∧ s4 = .int .i64 (i : Int) ∧ Hid (shpL (kids.take i) = true ∧ ordN kids i = true) ∧ Hid (Iw w0 w wx g 5 0 A 0 c K m d))
    case atStart => exact ⟨0, Nat.zero_le _, rfl, rfl, H0, HR⟩
    case round =>
      clear H0 HR f2
      obtain ⟨i, hi, hgk, rfl, HE, HQ⟩ := hrel
      have HGK := Lib.hid hgk
      clear hgk
      have f0 : wr.cell? ⟨g, 0, none⟩ = some (.int .i64 5) := HQ.out.row.cell 0
      have f3 : wr.cell? ⟨g, 3, none⟩ = some (.slice K m d) := HQ.out.row.cell 3
      by_cases hlt : i < m
      · obtain ⟨b, o, rfl, hcell⟩ := HC.out (by omega)
        obtain ⟨c0, c1, c2, c3⟩ := kid_cells (hcell i hlt) HQ.out.base
        have d0 : wr.drew.cell? ⟨b, o + i * 4, none⟩ = some (v0 i) := c0
        have d1 : wr.drew.cell? ⟨b, o + i * 4 + 1, none⟩ = some (v1 i) := c1
        have d2 : wr.drew.cell? ⟨b, o + i * 4 + 2, none⟩ = some (v2 i) := c2
        have d3 : wr.drew.cell? ⟨b, o + i * 4 + 3, none⟩ = some (v3 i) := c3
        have f3d : wr.drew.cell? ⟨g, 3, none⟩ = some (.slice (some ⟨b, o, none⟩) m d) := f3
        have hpd : Past wr wr.drew := Past.drewN (Below.refl _ wr) 1
        have HS1 := Lib.hid (HS.out i hlt wr.drew (HQ.out.base.trans' hpd))
        have HLT := Lib.hid hlt
        have hi0 : (0 : Int) ≤ (i : Int) := by omega
        have him : (i : Int) < (m : Int) := by omega
        have hib : (i : Int) ≤ 1000000000 := by omega
        have hmod2 : Int.tmod (i : Int) 2 = ((i % 2 : Nat) : Int) := by rw [Int.tmod_eq_emod_of_nonneg (by omega)]; omega
        have HSN : Hid (shpL (kids.take (i + 1)) = (shpL (kids.take i) && shp (kids.getD i default))) := Lib.hid (by rw [take_next kids i (by rw [HL.out]; exact hlt), shpL_snoc])
        have HQD : Hid (Iw w0 w wr.drew g 5 0 A 0 c (some ⟨b, o, none⟩) m d) := Lib.hid (HQ.out.later hpd)
        cases hsk : shp (kids.getD i default) with
        | false =>
          have HF : Hid ((shpL kids && ordN kids m) = false) := Lib.hid (by rw [shpL_at kids i (by rw [HL.out]; exact hlt) hsk]; rfl)
          rw [hsk] at HS1
          clear hlt hcell hsk hpd HCD hmod2
          have hU : undef = Value.tuple #[] := rfl
          go_wp2_with fail
          first | (go_region_law (first
            | (rename_i K hK; go_simp; go_at_call 39; (with_reducible refine HS1.out.mono ?_); rintro e2 w2 ⟨rfl, hp2⟩; have HP2 := Lib.hid (HQD.out.later hp2); clear hp2; have e0 : w2.cell? ⟨g, 0, none⟩ = some (.int .i64 5) := HP2.out.row.cell 0; (try go_simp); refine hK _ _ ?_; clear hK K
               refine wpAny_take (i := 6) (v := .bool true) rfl (by kernel_rfl) (by kernel_rfl) (by kernel_rfl) (fun _ _ _ h => h) (Or.inl ⟨by kernel_rfl, fun w => by kernel_rfl⟩) ?_; (try simp only [Act.put, List.setIfInBounds_toArray, List.set_cons_zero, List.set_cons_succ]);
               refine wpAny_take (i := 7) (v := .bool true) rfl (by kernel_rfl) (by kernel_rfl) (by kernel_rfl) (fun _ _ _ h => h) (Or.inl ⟨by kernel_rfl, fun w => by kernel_rfl⟩) ?_; (try simp only [Act.put, List.setIfInBounds_toArray, List.set_cons_zero, List.set_cons_succ]);
               refine wpAny_skips (fuel := 1) (by kernel_rfl) [8, 9, 10, 11, 12, 13, 14, 15, 16, 17, 18, 19, 20, 21, 22, 23, 24, 25, 26, 27, 28, 29, 30, 31, 32, 33, 34, 35, 36] _ _ (by repeat (first | exact trivial | refine ⟨fun _ _ _ h => h, ?_⟩)) (by kernel_rfl) ?_; dsimp only [skipL, skipA]; (try simp only [Act.put, List.setIfInBounds_toArray, List.set_cons_zero, List.set_cons_succ])))) | fail
          all_goals
            go_wp2_with fail
            go_ret
            rw [HF.out]
            exact ⟨rfl, HP2.out.past⟩
        | true =>
          rw [hsk] at HS1
          by_cases hz : i % 2 = 0 ∧ 0 < i
          · obtain ⟨j, hj⟩ : ∃ j, j + 2 = i := ⟨i - 2, by omega⟩
            have hjm : j < m := by omega
            have hj0 : (0 : Int) ≤ (j : Int) := by omega
            have hjm2 : (j : Int) < (m : Int) := by omega
            have hsub : IntKind.i64.wrap ((i : Int) - 2) = (j : Int) := by rw [IntWalk.i64_in _ (by omega)]; omega
            have hgi : (0 : Int) < (i : Int) := by omega
            have hsj : shp (kids.getD j default) = true := shp_took kids i j (by omega) (by rw [HL.out]; omega) HE.out.1
            have HOV : Hid (ordAt kids i = befB (txt (kids.getD j default)) (txt (kids.getD i default))) := Lib.hid (by
              unfold ordAt
              rw [decide_eq_true hz, show i - 2 = j by omega]
              rfl)
            have HB : Hid (Past w0 wr.drew) := Lib.hid (HQ.out.base.trans' hpd)
            have HCJ := Lib.hid (HCD.out j hjm hsj)
            have HCI := Lib.hid (HCD.out i hlt hsk)
            have HSK : Hid (∀ w', Past wr.drew w' → w'.cell? ⟨g, 0, none⟩ = some (.int .i64 5) ∧ w'.cell? ⟨g, 3, none⟩ = some (.slice (some ⟨b, o, none⟩) m d) ∧ w'.cell? ⟨b, o + i * 4, none⟩ = some (v0 i) ∧ w'.cell? ⟨b, o + i * 4 + 1, none⟩ = some (v1 i) ∧ w'.cell? ⟨b, o + i * 4 + 2, none⟩ = some (v2 i) ∧ w'.cell? ⟨b, o + i * 4 + 3, none⟩ = some (v3 i) ∧ w'.cell? ⟨b, o + j * 4, none⟩ = some (v0 j) ∧ w'.cell? ⟨b, o + j * 4 + 1, none⟩ = some (v1 j) ∧ w'.cell? ⟨b, o + j * 4 + 2, none⟩ = some (v2 j) ∧ w'.cell? ⟨b, o + j * 4 + 3, none⟩ = some (v3 j)) := Lib.hid (fun w' hp => by
              obtain ⟨x0, x1, x2, x3⟩ := kid_cells (hcell i hlt) (HB.out.trans' hp)
              obtain ⟨y0, y1, y2, y3⟩ := kid_cells (hcell j hjm) (HB.out.trans' hp)
              have hr := (HQD.out.later hp).row
              exact ⟨hr.cell 0, hr.cell 3, x0, x1, x2, x3, y0, y1, y2, y3⟩)
            rw [hz.1] at hmod2
            have HBE : Hid (∀ (A1 A2 : Option Addr) (c1 c2 : Nat) (wx : World), Sl wx A1 (txt (kids.getD j default)).length c1 (txt (kids.getD j default)) → Sl wx A2 (txt (kids.getD i default)).length c2 (txt (kids.getD i default)) → _) := Lib.hid (fun A1 A2 c1 c2 wx h1 h2 => rbefore_any A1 A2 _ _ c1 c2 _ _ wx h1 h2)
            have hsk2 := Lib.hid hsk
            clear hcell hlt hjm hsk hsj hz hj hpd HCD HS HC
            clear c0 c1 c2 c3 d0 d1 d2 d3
            have hgi2 : 0 < i := by omega
            generalize txt (kids.getD j default) = tj at *
            generalize txt (kids.getD i default) = ti at *
            cases hbf : befB tj ti with
            | false =>
              have HF : Hid ((shpL kids && ordN kids m) = false) := Lib.hid (by rw [ordN_at kids m i HLT.out (by rw [HOV.out, hbf])]; simp)
              simp only [hbf] at HBE
              go_wp2_with fail
              first | (go_region_held3 (fun w' => w'.cell? ⟨g, 0, none⟩ = some (.int .i64 5) ∧ w'.cell? ⟨g, 3, none⟩ = some (.slice (some ⟨b, o, none⟩) m d) ∧ w'.cell? ⟨b, o + i * 4, none⟩ = some (v0 i) ∧ w'.cell? ⟨b, o + i * 4 + 1, none⟩ = some (v1 i) ∧ w'.cell? ⟨b, o + i * 4 + 2, none⟩ = some (v2 i) ∧ w'.cell? ⟨b, o + i * 4 + 3, none⟩ = some (v3 i) ∧ w'.cell? ⟨b, o + j * 4, none⟩ = some (v0 j) ∧ w'.cell? ⟨b, o + j * 4 + 1, none⟩ = some (v1 j) ∧ w'.cell? ⟨b, o + j * 4 + 2, none⟩ = some (v2 j) ∧ w'.cell? ⟨b, o + j * 4 + 3, none⟩ = some (v3 j))
                (first
                | exact HSK.out _ HP5.out
                | exact HSK.out _ HP4.out
                | exact HSK.out _ HP3.out
                | exact HSK.out _ HP2.out
                | exact HSK.out _ (Below.refl _ wr.drew))
                (first
                | (go_at_call 39; (with_reducible refine HS1.out.mono ?_); rintro e2 w2 ⟨rfl, hp2⟩; have HP2 : Hid (Past wr.drew w2) := Lib.hid hp2; clear hp2)
                | (go_at_call 21; (with_reducible refine (HCJ.out _ (HB.out.trans' HP2.out)).mono ?_); rintro e3 w3 ⟨A3, c3, rfl, hs3, hp3⟩; have HP3 : Hid (Past wr.drew w3) := Lib.hid (HP2.out.trans' hp3); have HA3 := Lib.hid hs3; clear hp3 hs3)
                | (go_at_call 21; (with_reducible refine (HCI.out _ (HB.out.trans' HP3.out)).mono ?_); rintro e4 w4 ⟨A4, c4, rfl, hs4, hp4⟩; have HB3 := Lib.hid (HA3.out.past hp4); have HP4 : Hid (Past wr.drew w4) := Lib.hid (HP3.out.trans' hp4); have HA4 := Lib.hid hs4; clear hp4 hs4)
                | (go_at_call 50; (with_reducible refine (HBE.out _ _ _ _ _ HB3.out HA4.out).mono ?_); rintro e5 w5 ⟨rfl, m5, rfl⟩; have HP5 : Hid (Past wr.drew (w4.drewN m5)) := Lib.hid (Past.drewN HP4.out m5)))) | fail
              all_goals
                go_wp2_with fail
                go_ret
                rw [HF.out]
                exact ⟨rfl, HQD.out.past.trans' HP5.out⟩
            | true =>
              simp only [hbf] at HBE
              go_wp2_with fail
              first | (go_region_held3 (fun w' => w'.cell? ⟨g, 0, none⟩ = some (.int .i64 5) ∧ w'.cell? ⟨g, 3, none⟩ = some (.slice (some ⟨b, o, none⟩) m d) ∧ w'.cell? ⟨b, o + i * 4, none⟩ = some (v0 i) ∧ w'.cell? ⟨b, o + i * 4 + 1, none⟩ = some (v1 i) ∧ w'.cell? ⟨b, o + i * 4 + 2, none⟩ = some (v2 i) ∧ w'.cell? ⟨b, o + i * 4 + 3, none⟩ = some (v3 i) ∧ w'.cell? ⟨b, o + j * 4, none⟩ = some (v0 j) ∧ w'.cell? ⟨b, o + j * 4 + 1, none⟩ = some (v1 j) ∧ w'.cell? ⟨b, o + j * 4 + 2, none⟩ = some (v2 j) ∧ w'.cell? ⟨b, o + j * 4 + 3, none⟩ = some (v3 j))
                (first
                | exact HSK.out _ HP5.out
                | exact HSK.out _ HP4.out
                | exact HSK.out _ HP3.out
                | exact HSK.out _ HP2.out
                | exact HSK.out _ (Below.refl _ wr.drew))
                (first
                | (go_at_call 39; (with_reducible refine HS1.out.mono ?_); rintro e2 w2 ⟨rfl, hp2⟩; have HP2 : Hid (Past wr.drew w2) := Lib.hid hp2; clear hp2)
                | (go_at_call 21; (with_reducible refine (HCJ.out _ (HB.out.trans' HP2.out)).mono ?_); rintro e3 w3 ⟨A3, c3, rfl, hs3, hp3⟩; have HP3 : Hid (Past wr.drew w3) := Lib.hid (HP2.out.trans' hp3); have HA3 := Lib.hid hs3; clear hp3 hs3)
                | (go_at_call 21; (with_reducible refine (HCI.out _ (HB.out.trans' HP3.out)).mono ?_); rintro e4 w4 ⟨A4, c4, rfl, hs4, hp4⟩; have HB3 := Lib.hid (HA3.out.past hp4); have HP4 : Hid (Past wr.drew w4) := Lib.hid (HP3.out.trans' hp4); have HA4 := Lib.hid hs4; clear hp4 hs4)
                | (go_at_call 50; (with_reducible refine (HBE.out _ _ _ _ _ HB3.out HA4.out).mono ?_); rintro e5 w5 ⟨rfl, m5, rfl⟩; have HP5 : Hid (Past wr.drew (w4.drewN m5)) := Lib.hid (Past.drewN HP4.out m5)))) | fail
              all_goals
                go_wp2_with fail
                go_roundg (m - (i + 1))
                case rel => exact ⟨i + 1, by have := HLT.out; omega, rfl, by go_num, Lib.hid ⟨by rw [HSN.out, HE.out.1, hsk2.out]; rfl, by rw [ordN, HE.out.2, HOV.out, hbf]; rfl⟩, Lib.hid (HQD.out.later HP5.out)⟩
                case measure => have := HGK.out; omega
          · have HOA : Hid (ordAt kids i = true) := Lib.hid (by unfold ordAt; rw [decide_eq_false hz]; rfl)
            have hU : undef = Value.tuple #[] := rfl
            by_cases ho : i % 2 = 0
            · have hng1 : ¬ (0 : Int) < (i : Int) := by omega
              have hng2 : ¬ 0 < i := by omega
              rw [ho] at hmod2
              clear hlt hcell hpd HCD hz ho
              go_wp2_with fail
              first | (go_region_law (first
                | (rename_i K hK; go_simp; go_at_call 39; (with_reducible refine HS1.out.mono ?_); rintro e2 w2 ⟨rfl, hp2⟩; have HP2 := Lib.hid (HQD.out.later hp2); clear hp2; have e0 : w2.cell? ⟨g, 0, none⟩ = some (.int .i64 5) := HP2.out.row.cell 0; (try go_simp); refine hK _ _ ?_; clear hK K
                   refine wpAny_take (i := 6) (v := .bool false) rfl (by kernel_rfl) (by kernel_rfl) (by kernel_rfl) (fun _ _ _ h => h) (Or.inl ⟨by kernel_rfl, fun w => by kernel_rfl⟩) ?_; (try simp only [Act.put, List.setIfInBounds_toArray, List.set_cons_zero, List.set_cons_succ]);
                   refine wpAny_take (i := 7) (v := .bool false) rfl (by kernel_rfl) (by kernel_rfl) (by kernel_rfl) (fun _ _ _ h => h) (Or.inl ⟨by kernel_rfl, fun w => by kernel_rfl⟩) ?_; (try simp only [Act.put, List.setIfInBounds_toArray, List.set_cons_zero, List.set_cons_succ]);
                   refine wpAny_take (i := 8) (v := .pointer (some ⟨g, 0, none⟩)) rfl (by kernel_rfl) (by kernel_rfl) (by kernel_rfl) (fun _ _ _ h => h) (Or.inl ⟨by kernel_rfl, fun w => by kernel_rfl⟩) ?_; (try simp only [Act.put, List.setIfInBounds_toArray, List.set_cons_zero, List.set_cons_succ]);
                   refine wpAny_ready (rs := [9]) (by kernel_rfl) (by simp) ?_; refine AllReady.cons rfl (fun K hK => ?_) AllReady.nil; go_simp; refine hK _ _ ?_; clear hK K; (try simp only [Act.put, List.setIfInBounds_toArray, List.set_cons_zero, List.set_cons_succ]);
                   refine wpAny_take (i := 10) (v := .bool true) rfl (by kernel_rfl) (by kernel_rfl) (by kernel_rfl) (fun _ _ _ h => h) (Or.inl ⟨by kernel_rfl, fun w => by kernel_rfl⟩) ?_; (try simp only [Act.put, List.setIfInBounds_toArray, List.set_cons_zero, List.set_cons_succ]);
                   refine wpAny_take (i := 11) (v := .bool true) rfl (by kernel_rfl) (by kernel_rfl) (by kernel_rfl) (fun _ _ _ h => h) (Or.inl ⟨by kernel_rfl, fun w => by kernel_rfl⟩) ?_; (try simp only [Act.put, List.setIfInBounds_toArray, List.set_cons_zero, List.set_cons_succ]);
                   refine wpAny_take (i := 12) (v := .int .i64 (i : Int)) rfl (by kernel_rfl) (by kernel_rfl) (by kernel_rfl) (fun _ _ _ h => h) (Or.inl ⟨by kernel_rfl, fun w => by kernel_rfl⟩) ?_; (try simp only [Act.put, List.setIfInBounds_toArray, List.set_cons_zero, List.set_cons_succ]);
                   refine wpAny_take (i := 13) (v := .int .i64 0) rfl (by kernel_rfl) (by kernel_rfl) (by kernel_rfl) (fun _ _ _ h => h) (Or.inl ⟨by kernel_rfl, fun w => by go_simp⟩) ?_; (try simp only [Act.put, List.setIfInBounds_toArray, List.set_cons_zero, List.set_cons_succ]);
                   refine wpAny_take (i := 14) (v := .bool true) rfl (by kernel_rfl) (by kernel_rfl) (by kernel_rfl) (fun _ _ _ h => h) (Or.inl ⟨by kernel_rfl, fun w => by kernel_rfl⟩) ?_; (try simp only [Act.put, List.setIfInBounds_toArray, List.set_cons_zero, List.set_cons_succ]);
                   refine wpAny_take (i := 15) (v := .bool true) rfl (by kernel_rfl) (by kernel_rfl) (by kernel_rfl) (fun _ _ _ h => h) (Or.inl ⟨by kernel_rfl, fun w => by kernel_rfl⟩) ?_; (try simp only [Act.put, List.setIfInBounds_toArray, List.set_cons_zero, List.set_cons_succ]);
                   refine wpAny_take (i := 16) (v := .bool true) rfl (by kernel_rfl) (by kernel_rfl) (by kernel_rfl) (fun _ _ _ h => h) (Or.inl ⟨by kernel_rfl, fun w => by kernel_rfl⟩) ?_; (try simp only [Act.put, List.setIfInBounds_toArray, List.set_cons_zero, List.set_cons_succ]);
                   refine wpAny_take (i := 17) (v := .int .i64 (i : Int)) rfl (by kernel_rfl) (by kernel_rfl) (by kernel_rfl) (fun _ _ _ h => h) (Or.inl ⟨by kernel_rfl, fun w => by kernel_rfl⟩) ?_; (try simp only [Act.put, List.setIfInBounds_toArray, List.set_cons_zero, List.set_cons_succ]);
                   refine wpAny_take (i := 18) (v := .bool false) rfl (by kernel_rfl) (by kernel_rfl) (by kernel_rfl) (fun _ _ _ h => h) (Or.inl ⟨by kernel_rfl, fun w => by go_simp⟩) ?_; (try simp only [Act.put, List.setIfInBounds_toArray, List.set_cons_zero, List.set_cons_succ]);
                   refine wpAny_take (i := 19) (v := .bool false) rfl (by kernel_rfl) (by kernel_rfl) (by kernel_rfl) (fun _ _ _ h => h) (Or.inl ⟨by kernel_rfl, fun w => by kernel_rfl⟩) ?_; (try simp only [Act.put, List.setIfInBounds_toArray, List.set_cons_zero, List.set_cons_succ]);
                   refine wpAny_take (i := 20) (v := .bool false) rfl (by kernel_rfl) (by kernel_rfl) (by kernel_rfl) (fun _ _ _ h => h) (Or.inl ⟨by kernel_rfl, fun w => by kernel_rfl⟩) ?_; (try simp only [Act.put, List.setIfInBounds_toArray, List.set_cons_zero, List.set_cons_succ]);
                   refine wpAny_skips (fuel := 2) (by kernel_rfl) [21, 22, 23, 24, 25, 26, 27, 28, 29, 30, 31, 32, 33, 34, 35] _ _ (by repeat (first | exact trivial | refine ⟨fun _ _ _ h => h, ?_⟩)) (by kernel_rfl) ?_; dsimp only [skipL, skipA]; (try simp only [Act.put, List.setIfInBounds_toArray, List.set_cons_zero, List.set_cons_succ])))) | fail
              all_goals
                go_wp2_with fail
                go_roundg (m - (i + 1))
                case rel => exact ⟨i + 1, by omega, rfl, by go_num, Lib.hid ⟨by rw [HSN.out, HE.out.1, hsk]; rfl, by rw [ordN, HE.out.2, HOA.out]; rfl⟩, HP2⟩
                case measure => have := HGK.out; omega
            · have ho1 : i % 2 = 1 := by omega
              rw [ho1] at hmod2
              clear hlt hcell hpd HCD hz ho ho1
              go_wp2_with fail
              first | (go_region_law (first
                | (rename_i K hK; go_simp; go_at_call 39; (with_reducible refine HS1.out.mono ?_); rintro e2 w2 ⟨rfl, hp2⟩; have HP2 := Lib.hid (HQD.out.later hp2); clear hp2; have e0 : w2.cell? ⟨g, 0, none⟩ = some (.int .i64 5) := HP2.out.row.cell 0; (try go_simp); refine hK _ _ ?_; clear hK K
                   refine wpAny_take (i := 6) (v := .bool false) rfl (by kernel_rfl) (by kernel_rfl) (by kernel_rfl) (fun _ _ _ h => h) (Or.inl ⟨by kernel_rfl, fun w => by kernel_rfl⟩) ?_; (try simp only [Act.put, List.setIfInBounds_toArray, List.set_cons_zero, List.set_cons_succ]);
                   refine wpAny_take (i := 7) (v := .bool false) rfl (by kernel_rfl) (by kernel_rfl) (by kernel_rfl) (fun _ _ _ h => h) (Or.inl ⟨by kernel_rfl, fun w => by kernel_rfl⟩) ?_; (try simp only [Act.put, List.setIfInBounds_toArray, List.set_cons_zero, List.set_cons_succ]);
                   refine wpAny_take (i := 8) (v := .pointer (some ⟨g, 0, none⟩)) rfl (by kernel_rfl) (by kernel_rfl) (by kernel_rfl) (fun _ _ _ h => h) (Or.inl ⟨by kernel_rfl, fun w => by kernel_rfl⟩) ?_; (try simp only [Act.put, List.setIfInBounds_toArray, List.set_cons_zero, List.set_cons_succ]);
                   refine wpAny_ready (rs := [9]) (by kernel_rfl) (by simp) ?_; refine AllReady.cons rfl (fun K hK => ?_) AllReady.nil; go_simp; refine hK _ _ ?_; clear hK K; (try simp only [Act.put, List.setIfInBounds_toArray, List.set_cons_zero, List.set_cons_succ]);
                   refine wpAny_take (i := 10) (v := .bool true) rfl (by kernel_rfl) (by kernel_rfl) (by kernel_rfl) (fun _ _ _ h => h) (Or.inl ⟨by kernel_rfl, fun w => by kernel_rfl⟩) ?_; (try simp only [Act.put, List.setIfInBounds_toArray, List.set_cons_zero, List.set_cons_succ]);
                   refine wpAny_take (i := 11) (v := .bool true) rfl (by kernel_rfl) (by kernel_rfl) (by kernel_rfl) (fun _ _ _ h => h) (Or.inl ⟨by kernel_rfl, fun w => by kernel_rfl⟩) ?_; (try simp only [Act.put, List.setIfInBounds_toArray, List.set_cons_zero, List.set_cons_succ]);
                   refine wpAny_take (i := 12) (v := .int .i64 (i : Int)) rfl (by kernel_rfl) (by kernel_rfl) (by kernel_rfl) (fun _ _ _ h => h) (Or.inl ⟨by kernel_rfl, fun w => by kernel_rfl⟩) ?_; (try simp only [Act.put, List.setIfInBounds_toArray, List.set_cons_zero, List.set_cons_succ]);
                   refine wpAny_take (i := 13) (v := .int .i64 1) rfl (by kernel_rfl) (by kernel_rfl) (by kernel_rfl) (fun _ _ _ h => h) (Or.inl ⟨by kernel_rfl, fun w => by go_simp⟩) ?_; (try simp only [Act.put, List.setIfInBounds_toArray, List.set_cons_zero, List.set_cons_succ]);
                   refine wpAny_take (i := 14) (v := .bool false) rfl (by kernel_rfl) (by kernel_rfl) (by kernel_rfl) (fun _ _ _ h => h) (Or.inl ⟨by kernel_rfl, fun w => by kernel_rfl⟩) ?_; (try simp only [Act.put, List.setIfInBounds_toArray, List.set_cons_zero, List.set_cons_succ]);
                   refine wpAny_take (i := 15) (v := .bool false) rfl (by kernel_rfl) (by kernel_rfl) (by kernel_rfl) (fun _ _ _ h => h) (Or.inl ⟨by kernel_rfl, fun w => by kernel_rfl⟩) ?_; (try simp only [Act.put, List.setIfInBounds_toArray, List.set_cons_zero, List.set_cons_succ]);
                   refine wpAny_take (i := 16) (v := .bool false) rfl (by kernel_rfl) (by kernel_rfl) (by kernel_rfl) (fun _ _ _ h => h) (Or.inl ⟨by kernel_rfl, fun w => by kernel_rfl⟩) ?_; (try simp only [Act.put, List.setIfInBounds_toArray, List.set_cons_zero, List.set_cons_succ]);
                   refine wpAny_skips (fuel := 19) (by kernel_rfl) [17, 18] _ _ (by repeat (first | exact trivial | refine ⟨fun _ _ _ h => h, ?_⟩)) (by kernel_rfl) ?_; dsimp only [skipL, skipA]; (try simp only [Act.put, List.setIfInBounds_toArray, List.set_cons_zero, List.set_cons_succ]);
                   refine wpAny_take (i := 19) (v := .bool false) rfl (by kernel_rfl) (by kernel_rfl) (by kernel_rfl) (fun _ _ _ h => h) (Or.inl ⟨by kernel_rfl, fun w => by kernel_rfl⟩) ?_; (try simp only [Act.put, List.setIfInBounds_toArray, List.set_cons_zero, List.set_cons_succ]);
                   refine wpAny_take (i := 20) (v := .bool false) rfl (by kernel_rfl) (by kernel_rfl) (by kernel_rfl) (fun _ _ _ h => h) (Or.inl ⟨by kernel_rfl, fun w => by kernel_rfl⟩) ?_; (try simp only [Act.put, List.setIfInBounds_toArray, List.set_cons_zero, List.set_cons_succ]);
                   refine wpAny_skips (fuel := 2) (by kernel_rfl) [21, 22, 23, 24, 25, 26, 27, 28, 29, 30, 31, 32, 33, 34, 35] _ _ (by repeat (first | exact trivial | refine ⟨fun _ _ _ h => h, ?_⟩)) (by kernel_rfl) ?_; dsimp only [skipL, skipA]; (try simp only [Act.put, List.setIfInBounds_toArray, List.set_cons_zero, List.set_cons_succ])))) | fail
              all_goals
                go_wp2_with fail
                go_roundg (m - (i + 1))
                case rel => exact ⟨i + 1, by omega, rfl, by go_num, Lib.hid ⟨by rw [HSN.out, HE.out.1, hsk]; rfl, by rw [ordN, HE.out.2, HOA.out]; rfl⟩, HP2⟩
                case measure => have := HGK.out; omega
      · obtain rfl : i = m := by omega
        have HF : Hid ((shpL kids && ordN kids i) = true) := Lib.hid (by
          have h := HE.out.1
          rw [List.take_of_length_le (by rw [HL.out]; exact Nat.le_refl _)] at h
          rw [h, HE.out.2]
          rfl)
        go_wp2_with fail
        go_ret
        rw [HF.out]
        exact ⟨rfl, HQ.out.past⟩

end Go.Proofs.YtmhgpdfllpgjpaaDoor
