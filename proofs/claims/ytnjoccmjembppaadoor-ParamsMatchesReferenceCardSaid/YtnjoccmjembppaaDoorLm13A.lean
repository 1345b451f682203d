/- The walk of the law ParamsMatchesReference. -/
import Derived.Test.YtnjoccmjembppaaDoorRf13C
import Derived.Test.YtnjoccmjembppaaDoorRf13D
import Derived.Deep.RegionHeld3
namespace Go.Proofs.YtnjoccmjembppaaDoor.paramsMatchesReference
open Go.RowKit
set_option linter.unusedVariables false

theorem load_setH {w : World} {u : Nat} {r : R13} {o : Value} (h : Row w u 26 (setC r o)) : (Instr.loadAt 26 (.pointer (some ⟨u, 0, none⟩))).run Tryd.prog w = .ok (setV r o) w := by
  simp only [Instr.loadAt, Instr.sureAddr, Sem.run_bind, Sem.run_pure, Result.andThen_ok, load_set w u _ h (by rfl)]
  rfl
/-- The own numbers, whatever they are by now. -/
def Nums (w : World) (b n c : Nat) : Prop := ∃ cur : Array Value, Row w b 24 cur ∧ cur.size = c ∧ n ≤ c ∧ ∀ i, i < n → ∃ x, cur[i]? = some (.int .u32 x) ∧ 0 ≤ x ∧ x < 4294967296
theorem nums_of_own {w : World} {base n c : Nat} {A : Option Addr} {l : List Int} (hn : 2 ≤ n) (h : w.ownsRow base 24 1 (.slice A n c) n (l.map (Value.int .u32))) (hr : ∀ x ∈ l, 0 ≤ x ∧ x < 4294967296) : ∃ b, A = some ⟨b, 0, none⟩ ∧ base ≤ b ∧ Nums w b n c := by
  rcases h.2 with ⟨_, hz⟩ | ⟨g, cap, cur, hv, hb, hg, h1, h2, h3, h4⟩
  · omega
  · injection hv with a1 a2 a3
    subst a1 a3
    refine ⟨g, rfl, hb, cur, hg, by omega, h1, fun i hi => ?_⟩
    have hl := h.1
    rw [List.length_map, Nat.mul_one] at hl
    have : (cur.toList.take (n * 1))[i]? = some (.int .u32 (l.getD i 0)) := by
      rw [h4, List.getElem?_map, List.getElem?_eq_getElem (by omega)]
      simp [List.getD, List.getElem?_eq_getElem (show i < l.length by omega)]
    rw [List.getElem?_take_of_lt (by omega), Array.getElem?_toList] at this
    exact ⟨_, this, getD_rngK (by decide) hr i⟩
theorem Nums.set {w : World} {b n c i : Nat} (h : Nums w b n c) (hi : i < n) (v : Int) (h0 : 0 ≤ v) (h1 : v < 4294967296) : Nums (w.setCell ⟨b, i, none⟩ (.int .u32 v)) b n c := by
  obtain ⟨cur, hr, hs, hn, hc⟩ := h
  refine ⟨_, hr.set i _, by simpa using hs, hn, fun j hj => ?_⟩
  by_cases e : j = i
  · subst e
    exact ⟨v, Array.getElem?_setIfInBounds_self_of_lt (by omega), h0, h1⟩
  · rw [Array.getElem?_setIfInBounds_ne (by omega)]
    exact hc j hj
theorem text_nil : textS [] = ⟨#[]⟩ := by decide +kernel
set_option maxHeartbeats 8000000 in
set_option maxRecDepth 100000 in
theorem walk_in (a : Int) (w : World) (hin : 1 ≤ a ∧ a ≤ 25) (hG : Glob13 w) : Calls Tryd.prog 3 #[.int .i64 a] w fun e w' => e = .returned (.bool true) ∧ Past w w' := by
  have HG := Lib.hid hG
  have HIN := Lib.hid hin
  obtain ⟨o1, o2, o3, o4, o5⟩ := oid_some hin
  have HRNG := Lib.hid (oid_in hin)
  have HTX := Lib.hid (oid_text hin)
  have HGET := Lib.hid (fun w hG => get_own a w hG hin)
  have HGE2 := Lib.hid (fun w hG => get_any a w hG)
  have HRG := Lib.hid (fun w => rget_any a w)
  have HLS := Lib.hid (fun A c w h => lsame_any (row13 a) A (oidL a).length c (oidL a) w h (oid_in hin) (oid_text hin) (by omega))
  have h1 : (1 : Int) ≤ a := hin.1
  have h2 : a ≤ 25 := hin.2
  have h3 : decide ((1 : Int) ≤ a) = true := by simpa using h1
  have h4 : decide (a ≤ (25 : Int)) = true := by simpa using h2
  have HL5 := Lib.hid o5
  have HL4 := Lib.hid o4
  have hG2 : Hid (∀ w e w', GetP a w e w' → ∃ A c, e = .returned (.tuple #[setV (row13 a) (.slice A (oidL a).length c), .bool true]) ∧ SlK .u32 w' A (oidL a).length c (oidL a) ∧ Past w w') := Lib.hid (fun w e w' h => by
    obtain ⟨h, hp⟩ := h
    rw [if_pos hin] at h
    obtain ⟨A, c, e1, e2⟩ := h
    exact ⟨A, c, e1, e2, hp⟩)
  have hGO : Hid (∀ w e w', GetO a w e w' → ∃ A c, e = .returned (.tuple #[setV (row13 a) (.slice A (oidL a).length c), .bool true]) ∧ w'.ownsRow w.heap.size 24 1 (.slice A (oidL a).length c) (oidL a).length ((oidL a).map (Value.int .u32)) ∧ Past w w') := Lib.hid (fun w e w' h => h)
  clear hin o1 o2 o3 o4 o5 hG HIN
  obtain ⟨l, hl⟩ : ∃ l, oidL a = l := ⟨_, rfl⟩
  obtain ⟨r, hr⟩ : ∃ r, row13 a = r := ⟨_, rfl⟩
  rw [hl] at HL5 HL4 HRNG HTX hG2 hGO HLS
  rw [hr] at HTX hG2 hGO HRG HLS
  obtain ⟨n, hn⟩ : ∃ n, l.length = n := ⟨_, rfl⟩
  have HN := Lib.hid hn
  rw [hn] at HL5 HL4 hG2 hGO HLS
  clear hl hr hn
  unfold setV at HLS
  go_enter Tryd.func3, Tryd.ntmps3
  go_wp2_with fail
  refine (awake13 w HG.out).mono ?_
  rintro e w1 ⟨rfl, hp⟩
  have H1 := Lib.hid hp
  clear hp
  go_wp2_with fail
  refine (HGET.out w1 (HG.out.past H1.out)).mono ?_
  intro e w2 he
  obtain ⟨A, c, rfl, hown, hp⟩ := hGO.out _ _ _ he
  obtain ⟨b, rfl, hb, hnu⟩ := nums_of_own HL5.out hown HRNG.out
  have hsl := slK_of_own hown
  have HOB : Hid (w.heap.size ≤ b) := Lib.hid (Nat.le_trans H1.out.size hb)
  have hblt : b < w2.heap.size := by obtain ⟨cur, hr, _⟩ := hnu; exact hr.lt
  unfold setV
  obtain ⟨u, hu⟩ : ∃ u, w2.heap.size = u := ⟨_, rfl⟩
  obtain ⟨w3, hw3⟩ : ∃ w3, w2.alloc (.cells (setC r (.slice (some ⟨b, 0, none⟩) n c)) 26) = w3 := ⟨_, rfl⟩
  have hp3 : Past w2 w3 := by rw [← hw3]; exact past_alloc13 _ _
  have hru : Row w3 u 26 (setC r (.slice (some ⟨b, 0, none⟩) n c)) := by rw [← hw3, ← hu]; exact Row.new _ _ _
  have hnu3 : Nums w3 b n c := by obtain ⟨cur, hr, h⟩ := hnu; exact ⟨cur, hr.past hp3, h⟩
  have H3 : Hid (Past w w3 ∧ Row w3 u 26 (setC r (.slice (some ⟨b, 0, none⟩) n c)) ∧ Nums w3 b n c ∧ b < u ∧ w.heap.size ≤ u) := Lib.hid ⟨(H1.out.trans' hp).trans' hp3, hru, hnu3, by omega, by rw [← hu]; exact (H1.out.trans' hp).size⟩
  have HSL : Hid (SlK .u32 w3 (some ⟨b, 0, none⟩) n c l) := Lib.hid (hsl.past hp3)
  have HW3 := Lib.hid hw3
  have HU := Lib.hid hu
  clear hp hown hb hnu hsl hblt hp3 hru hnu3 hw3 hu H1 he
  go_upto_region 4 with (fail)
  rw [HW3.out]
  try rw [HU.out]
  clear HW3 HU
  have hrow := H3.out.2.1
  have HSK : Hid (∀ w', Past w3 w' → (w'.cell? ⟨u, 0, none⟩ = some (.int .i64 r.alg) ∧ w'.cell? ⟨u, 1, none⟩ = some (.int .i64 r.fam) ∧ w'.cell? ⟨u, 2, none⟩ = some (.string r.name) ∧ w'.cell? ⟨u, 3, none⟩ = some (.int .i64 r.pub) ∧ w'.cell? ⟨u, 4, none⟩ = some (.int .i64 r.priv) ∧ w'.cell? ⟨u, 5, none⟩ = some (.int .i64 r.seed) ∧ w'.cell? ⟨u, 6, none⟩ = some (.int .i64 r.sig) ∧ w'.cell? ⟨u, 7, none⟩ = some (.slice (some ⟨b, 0, none⟩) n c) ∧ w'.cell? ⟨u, 8, none⟩ = some (.int .i64 r.cose) ∧ w'.cell? ⟨u, 9, none⟩ = some (.int .u32 r.typ))) := by
    refine Lib.hid fun w' hp => ?_
    have q := hrow.past hp
    exact ⟨q.cell 0, q.cell 1, q.cell 2, q.cell 3, q.cell 4, q.cell 5, q.cell 6, q.cell 7, q.cell 8, q.cell 9⟩
  have HPD : Hid (Past w3 w3.drew) := Lib.hid (Past.drewN (Below.refl _ w3) 1)
  clear hrow
  have hU : undef = Value.tuple #[] := rfl
  first | (go_region_held3 (fun w' => w'.cell? ⟨u, 0, none⟩ = some (.int .i64 r.alg) ∧ w'.cell? ⟨u, 1, none⟩ = some (.int .i64 r.fam) ∧ w'.cell? ⟨u, 2, none⟩ = some (.string r.name) ∧ w'.cell? ⟨u, 3, none⟩ = some (.int .i64 r.pub) ∧ w'.cell? ⟨u, 4, none⟩ = some (.int .i64 r.priv) ∧ w'.cell? ⟨u, 5, none⟩ = some (.int .i64 r.seed) ∧ w'.cell? ⟨u, 6, none⟩ = some (.int .i64 r.sig) ∧ w'.cell? ⟨u, 7, none⟩ = some (.slice (some ⟨b, 0, none⟩) n c) ∧ w'.cell? ⟨u, 8, none⟩ = some (.int .i64 r.cose) ∧ w'.cell? ⟨u, 9, none⟩ = some (.int .u32 r.typ))
    (first
    | exact HSK.out _ HP8.out
    | exact HSK.out _ HP7.out
    | exact HSK.out _ HPD.out)
    (first
    | (go_at_call 11; (with_reducible refine (HRG.out _).mono ?_); rintro e7 w7 ⟨rfl, hp7⟩; have HP7 : Hid (Past w3 w7) := Lib.hid (HPD.out.trans' hp7); clear hp7)
    | (go_at_call 10; (with_reducible refine (HLS.out _ _ _ (HSL.out.past HP7.out)).mono ?_); rintro e8 w8 ⟨rfl, hp8⟩; have HP8 : Hid (Past w3 w8) := Lib.hid (HP7.out.trans' hp8); clear hp8))) | fail
  have H8 : Hid (Past w w8 ∧ Row w8 u 26 (setC r (.slice (some ⟨b, 0, none⟩) n c)) ∧ Nums w8 b n c) := Lib.hid ⟨H3.out.1.trans' HP8.out, H3.out.2.1.past HP8.out, by obtain ⟨cur, hr, h⟩ := H3.out.2.2.1; exact ⟨cur, hr.past HP8.out, h⟩⟩
  have HBU : Hid (b < u ∧ w.heap.size ≤ u) := Lib.hid H3.out.2.2.2
  clear HP8 HP7 HPD HSK HSL H3
  go_wp2_with fail
  go_loopg [5] n (fun q s5 wx => ∃ i : Nat, i ≤ n ∧ q = n - i ∧ s5 = .int .i64 (i : Int) ∧ Hid (Past w wx ∧ Row wx u 26 (setC r (.slice (some ⟨b, 0, none⟩) n c)) ∧ Nums wx b n c))
  case atStart => exact ⟨0, Nat.zero_le _, rfl, rfl, H8⟩
  case round =>
    clear H8
    obtain ⟨i, hi, hq, rfl, HO⟩ := hrel
    have HQ := Lib.hid hq
    have k7 := HO.out.2.1.cell 7
    have hi0 : (0 : Int) ≤ (i : Int) := by omega
    have hi20 : (i : Int) ≤ 20 := by have := HL4.out; omega
    clear hq
    by_cases hlt : i < n
    · have hin : (i : Int) < (n : Int) := by omega
      have hii : (i : Int) + 1 ≤ 21 := by omega
      obtain ⟨x, hx, hx0, hx1⟩ : ∃ x, wr.cell? ⟨b, i, none⟩ = some (.int .u32 x) ∧ 0 ≤ x ∧ x < 4294967296 := by
        obtain ⟨cur, hr, hs, hn, hc⟩ := HO.out.2.2
        obtain ⟨x, h1, h2, h3⟩ := hc i hlt
        exact ⟨x, by rw [hr.cell]; exact h1, h2, h3⟩
      have hfr : wr.frozen? ⟨b, i, none⟩ = false := by
        obtain ⟨cur, hr, _⟩ := HO.out.2.2
        exact hr.fr i
      obtain ⟨y, hy⟩ : ∃ y, IntKind.u32.wrap (x + 1) = y := ⟨_, rfl⟩
      have hy2 : (x + 1) % 4294967296 = y := by rw [← hy, IntKind.wrap_u32]
      have hyb : 0 ≤ y ∧ y < 4294967296 := by omega
      have HO2 : Hid (Past w (wr.setCell ⟨b, i, none⟩ (.int .u32 y)) ∧ Row (wr.setCell ⟨b, i, none⟩ (.int .u32 y)) u 26 (setC r (.slice (some ⟨b, 0, none⟩) n c)) ∧ Nums (wr.setCell ⟨b, i, none⟩ (.int .u32 y)) b n c) := Lib.hid ⟨HO.out.1.setCell (show w.heap.size ≤ b from HOB.out) _,
        (Below.heap_setCell wr ⟨b, i, none⟩ _ u (by show u ≠ b; have := HBU.out; omega)).trans HO.out.2.1, HO.out.2.2.set hlt y hyb.1 hyb.2⟩
      have HLT := Lib.hid hlt
      clear HO hlt hyb hx0 hx1
      go_wp2_with fail
      go_roundg (n - (i + 1))
      case rel => exact ⟨i + 1, HLT.out, rfl, by go_num, HO2⟩
      case measure => have := HQ.out; have := HLT.out; omega
    · have hge : (n : Int) ≤ (i : Int) := by omega
      have hnl : ¬ ((i : Int) < (n : Int)) := by omega
      clear hlt hi
      go_wp2_with fail
      refine (HGE2.out wr (HG.out.past HO.out.1)).mono ?_
      intro e w4 he
      obtain ⟨A2, c2, rfl, hsl, hp⟩ := hG2.out _ _ _ he
      unfold setV
      obtain ⟨u2, hu⟩ : ∃ u2, w4.heap.size = u2 := ⟨_, rfl⟩
      obtain ⟨w5, hw5⟩ : ∃ w5, w4.alloc (.cells (setC r (.slice A2 n c2)) 26) = w5 := ⟨_, rfl⟩
      have hp5 : Past w4 w5 := by rw [← hw5]; exact past_alloc13 _ _
      have hrow : Row w5 u2 26 (setC r (.slice A2 n c2)) := by rw [← hw5, ← hu]; exact Row.new _ _ _
      have H5 : Hid (Past w w5) := Lib.hid ((HO.out.1.trans' hp).trans' hp5)
      have HSL2 : Hid (SlK .u32 w5 A2 n c2 l) := Lib.hid (hsl.past hp5)
      have HW5 := Lib.hid hw5
      have HU2 := Lib.hid hu
      clear hp hsl hp5 hw5 hu he HO
      go_upto_region 11 with (fail)
      rw [HW5.out]
      try rw [HU2.out]
      clear HW5 HU2
      have HSL3 : Hid (∀ w', Past w5 w' → (w'.cell? ⟨u2, 0, none⟩ = some (.int .i64 r.alg) ∧ w'.cell? ⟨u2, 1, none⟩ = some (.int .i64 r.fam) ∧ w'.cell? ⟨u2, 2, none⟩ = some (.string r.name) ∧ w'.cell? ⟨u2, 3, none⟩ = some (.int .i64 r.pub) ∧ w'.cell? ⟨u2, 4, none⟩ = some (.int .i64 r.priv) ∧ w'.cell? ⟨u2, 5, none⟩ = some (.int .i64 r.seed) ∧ w'.cell? ⟨u2, 6, none⟩ = some (.int .i64 r.sig) ∧ w'.cell? ⟨u2, 7, none⟩ = some (.slice A2 n c2) ∧ w'.cell? ⟨u2, 8, none⟩ = some (.int .i64 r.cose) ∧ w'.cell? ⟨u2, 9, none⟩ = some (.int .u32 r.typ))) := by
        refine Lib.hid fun w' hp => ?_
        have q := hrow.past hp
        exact ⟨q.cell 0, q.cell 1, q.cell 2, q.cell 3, q.cell 4, q.cell 5, q.cell 6, q.cell 7, q.cell 8, q.cell 9⟩
      have HPE : Hid (Past w5 w5.drew) := Lib.hid (Past.drewN (Below.refl _ w5) 1)
      clear hrow
      first | (go_region_held3 (fun w' => w'.cell? ⟨u2, 0, none⟩ = some (.int .i64 r.alg) ∧ w'.cell? ⟨u2, 1, none⟩ = some (.int .i64 r.fam) ∧ w'.cell? ⟨u2, 2, none⟩ = some (.string r.name) ∧ w'.cell? ⟨u2, 3, none⟩ = some (.int .i64 r.pub) ∧ w'.cell? ⟨u2, 4, none⟩ = some (.int .i64 r.priv) ∧ w'.cell? ⟨u2, 5, none⟩ = some (.int .i64 r.seed) ∧ w'.cell? ⟨u2, 6, none⟩ = some (.int .i64 r.sig) ∧ w'.cell? ⟨u2, 7, none⟩ = some (.slice A2 n c2) ∧ w'.cell? ⟨u2, 8, none⟩ = some (.int .i64 r.cose) ∧ w'.cell? ⟨u2, 9, none⟩ = some (.int .u32 r.typ))
        (first
        | exact HSL3.out _ HP10.out
        | exact HSL3.out _ HP9.out
        | exact HSL3.out _ HPE.out)
        (first
        | (go_at_call 11; (with_reducible refine (HRG.out _).mono ?_); rintro e9 w9 ⟨rfl, hp9⟩; have HP9 : Hid (Past w5 w9) := Lib.hid (HPE.out.trans' hp9); clear hp9)
        | (go_at_call 10; (with_reducible refine (HLS.out _ _ _ (HSL2.out.past HP9.out)).mono ?_); rintro e10 w10 ⟨rfl, hp10⟩; have HP10 : Hid (Past w5 w10) := Lib.hid (HP9.out.trans' hp10); clear hp10))) | fail
      all_goals
        go_wp2_with fail
        go_ret
        exact ⟨rfl, H5.out.trans' HP10.out⟩
end Go.Proofs.YtnjoccmjembppaaDoor.paramsMatchesReference
