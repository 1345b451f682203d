/- oid.Parse and Get once more: the numbers lie in a block of the call's own. -/
import Derived.Test.YtnjoccmjembppaaDoorPm13K
namespace Go.Proofs.YtnjoccmjembppaaDoor
open Go.RowKit
set_option linter.unusedVariables false

theorem own_base {w : World} {b b' : Nat} {e : TypeId} {s : Nat} {v : Value} {n : Nat} {xs : List Value} (h : w.ownsRow b e s v n xs) (hb : b' ≤ b) : w.ownsRow b' e s v n xs := by
  refine ⟨h.1, ?_⟩
  rcases h.2 with hn | ⟨g, cap, cur, hv, hg, rest⟩
  · exact .inl hn
  · exact .inr ⟨g, cap, cur, hv, by omega, rest⟩
theorem own_apart {w : World} {b g : Nat} {e : TypeId} {s : Nat} {v : Value} {n : Nat} {xs : List Value} (h : w.ownsRow b e s v n xs) (hb : g < b) : v.ownBlock = none ∨ v.ownBlock ≠ some g := by
  refine .inr fun e => ?_
  have := h.lt g e
  omega
/-- What a call hands back whose numbers are its own. -/
def POwn (o : Option (List Int)) (w : World) (e : Ending) (w' : World) : Prop :=
  match o with
  | none => ∃ A c, e = .returned (.tuple #[.slice A 0 c, .bool false]) ∧ Past w w'
  | some xs => ∃ A c, e = .returned (.tuple #[.slice A xs.length c, .bool true]) ∧ w'.ownsRow w.heap.size 24 1 (.slice A xs.length c) xs.length (xs.map (Value.int .u32)) ∧ Past w w'
theorem POwn.none' {w w' : World} (h : Past w w') : POwn none w (.returned (.tuple #[.slice none 0 0, .bool false])) w' := ⟨none, 0, rfl, h⟩
theorem POwn.some' {w w' : World} {A : Option Addr} {n c : Nat} {xs : List Int} (hn : xs.length = n) (h1 : w'.ownsRow w.heap.size 24 1 (.slice A n c) n (xs.map (Value.int .u32))) (h : Past w w') : POwn (some xs) w (.returned (.tuple #[.slice A n c, .bool true])) w' := by
  subst hn
  exact ⟨A, c, rfl, h1, h⟩
/-- What Get answers where there is a row. -/
def GetO (a : Int) (w : World) (e : Ending) (w' : World) : Prop :=
  ∃ A c, e = .returned (.tuple #[setV (row13 a) (.slice A (oidL a).length c), .bool true]) ∧ w'.ownsRow w.heap.size 24 1 (.slice A (oidL a).length c) (oidL a).length ((oidL a).map (Value.int .u32)) ∧ Past w w'
set_option maxHeartbeats 4000000 in
set_option maxRecDepth 100000 in
theorem pparse_own (s : ByteArray) (w : World) (hG : Glob w) (hs : s.size ≤ 1000) :
    Calls Tryd.prog 23 #[.string s] w (POwn (parseL (ints s)) w) := by
  obtain ⟨i32, hi32, hz32, hs32, hb32⟩ := info_parts info32
  have hps := pieces_len s
  have hsz : ∀ p ∈ pieces s, p.size ≤ 2000 := fun p hp => Nat.le_trans (piece_size s _ s p hp) (by omega)
  obtain ⟨m, hm⟩ := hG.mx
  have hsp : Calls Tryd.prog 37 #[.string s, .string ⟨#[46]⟩, .int .i64 21] w fun e w' => e = .returned (.slice (some ⟨w.heap.size, 0, none⟩) (pieces s).length (min 21 (s.size + 1))) ∧ w' = w.alloc (.cells (Lib.cellsOf (pieces s) (min 21 (s.size + 1))) 9) :=
    Tryd.strings_SplitN s ⟨#[46]⟩ 21 m w (by omega) hm (by decide) (by decide) (by decide)
  have HSP := Lib.hid hsp
  have HZ := Lib.hid hsz
  have HG := Lib.hid (hG.past ((Below.refl _ w).alloc (Nat.le_refl _) (.cells (Lib.cellsOf (pieces s) (min 21 (s.size + 1))) 9)))
  have HP0 := Lib.hid ((Below.refl _ w).alloc (Nat.le_refl _) (.cells (Lib.cellsOf (pieces s) (min 21 (s.size + 1))) 9))
  have HRow := Lib.hid (Row.new w 9 (Lib.cellsOf (pieces s) (min 21 (s.size + 1))))
  have HW1 : Hid ((w.alloc (.cells (Lib.cellsOf (pieces s) (min 21 (s.size + 1))) 9)).heap.size = w.heap.size + 1) := Lib.hid (by simp)
  clear hsp hsz hG hm
  generalize hNP : (pieces s).length = NP at *
  have HNP := Lib.hid hNP
  clear hNP
  go_enter Tryd.func23, Tryd.ntmps23
  go_wp2_with fail
  refine HSP.out.mono ?_
  rintro e w1 ⟨rfl, hw1⟩
  rw [← hw1] at HG HP0 HRow HW1
  have HO0 : Hid (w1.ownsRow w1.heap.size 24 1 (.slice none 0 0) 0 (([] : List Int).map (Value.int .u32)) ∧ Past w1 w1) := Lib.hid ⟨World.ownsRow_nil _ _ _ _, Below.refl _ _⟩
  have HWB : Hid (w.heap.size ≤ w1.heap.size) := Lib.hid (by rw [HW1.out]; omega)
  clear hw1 HSP HW1
  go_wp2_with fail
  go_loopg [4, 6, 7, 8, 12] NP (fun k s4 s6 s7 s8 s12 wx => ∃ (i c : Nat) (A : Option Addr) (l : List Int), i ≤ NP ∧ k = NP - i ∧ s4 = .slice A i c ∧ s12 = .int .i64 (i : Int) ∧ Hid (l.length = i ∧ PG s l) ∧ Hid (wx.ownsRow w1.heap.size 24 1 (.slice A i c) i (l.map (Value.int .u32)) ∧ Past w1 wx))
  case atStart => exact ⟨0, 0, none, [], Nat.zero_le _, rfl, rfl, rfl, Lib.hid ⟨rfl, by unfold PG Rng; simp⟩, HO0⟩
  case round =>
    clear HO0
    obtain ⟨i, c, A, l, hi, hgk, rfl, rfl, HL, HO⟩ := hrel
    have HGK := Lib.hid hgk
    clear hgk
    by_cases hlt : i < NP
    · obtain ⟨p, hp⟩ : ∃ p, (pieces s)[i]? = some p := ⟨_, List.getElem?_eq_getElem (by rw [HNP.out]; exact hlt)⟩
      have hc : wr.cell? ⟨w.heap.size, i, none⟩ = some (.string p) := by
        rw [(HRow.out.past HO.out.2).cell i]
        exact cellsOf_at hp
      have hpz : p.size ≤ 2000 := HZ.out p (List.mem_of_getElem? hp)
      have HP := Lib.hid hp
      have hi0 : (0 : Int) ≤ (i : Int) := by omega
      have hin : (i : Int) < (NP : Int) := by omega
      clear hp
      by_cases hu : ∃ u, Lib.parseUintB 32 p.data.toList = .ok u
      · obtain ⟨u, hu⟩ := hu
        have hub := Lib.parseUintB_le hu
        have HPU := Lib.hid (fun w => pu_ok p hpz w u hu)
        have HPG : Hid (PG s (l ++ [(u : Int)])) := Lib.hid (HL.out.2.next (by rw [HL.out.1]; exact HP.out) hu)
        have hu0 : (0 : Int) ≤ (u : Int) := by omega
        have hu1 : (u : Int) < 4294967296 := by omega
        have hwv : (u : Int) % 4294967296 = (u : Int) := Int.emod_eq_of_lt hu0 hu1
        clear hu hub hpz
        go_wp2_with fail
        refine (HPU.out _).mono ?_
        rintro e w2 ⟨rfl, hp2⟩
        have HO1 : Hid (w2.ownsRow w1.heap.size 24 1 (.slice A i c) i (l.map (Value.int .u32)) ∧ Past w1 w2) := Lib.hid ⟨HO.out.1.kept (only_of_past hp2 none) (by cases (Value.slice A i c).ownBlock <;> simp), HO.out.2.trans' hp2⟩
        clear hp2 HPU hc
        go_wp2_with (at_builtin; refine wpList_append_own _ rfl _ _ 23 rfl w1.heap.size 24 i32 (.int .u32 0) 1 4 Tryd.underlying23 hi32 hz32 hs32 hb32 rfl (by decide) _ i _ rfl (HO1.out.1.alloc _) ⟨w2.heap.size, 0, none⟩ 1 1 [.int .u32 (u : Int)] rfl rfl ?c1 ?c2 ?c3 ?c4 ?c5 ?_)
        case c1 =>
          intro j v hj
          cases j with
          | zero =>
            simp at hj
            subst hj
            rw [add_none, World.cell?_alloc_new]
            rfl
          | succ j => simp at hj
        case c2 => simp [Value.oneCell']
        case c3 => unfold maxLen; omega
        case c4 => omega
        case c5 => exact Nat.le_trans HO1.out.2.size (by simp)
        intro v' w3 hown1 hgrow1 _
        obtain ⟨B3, d3, rfl⟩ := own_slice hown1
        have HO2 : Hid (w3.ownsRow w1.heap.size 24 1 (.slice B3 (i + 1) d3) (i + 1) ((l ++ [(u : Int)]).map (Value.int .u32)) ∧ Past w1 w3) := Lib.hid (by
          rw [List.map_append]
          exact ⟨hown1, (HO1.out.2.trans' ((Below.refl _ _).alloc (Nat.le_refl _) _)).grown hgrow1 (Nat.le_trans HO1.out.2.size (by simp)) (own_block_ge HO1.out.1)⟩)
        have HL2 : Hid ((l ++ [(u : Int)]).length = i + 1 ∧ PG s (l ++ [(u : Int)])) := Lib.hid ⟨by rw [List.length_append, HL.out.1]; rfl, HPG.out⟩
        clear hown1 hgrow1 HO HO1
        go_wp2_with fail
        go_roundg (NP - (i + 1))
        case rel => exact ⟨i + 1, d3, B3, l ++ [(u : Int)], by omega, rfl, rfl, by go_num, HL2, HO2⟩
        case measure => have := HGK.out; omega
      · have HPU := Lib.hid (fun w hG => pu_err p hpz w hG (fun u e => hu ⟨u, e⟩))
        have HNO : Hid (parseL (ints s) = none) := Lib.hid (PG.fail HP.out (fun u e => hu ⟨u, e⟩))
        clear hu hpz
        go_wp2_with fail
        refine (HPU.out _ (HG.out.past HO.out.2)).mono ?_
        rintro e w2 ⟨x, N, rfl, hp2⟩
        have HE : Hid (Past w w2) := Lib.hid ((Past.trans' HP0.out HO.out.2).trans' hp2)
        clear hp2 HPU hc
        go_wp2_with fail
        go_ret2
        rw [HNO.out]
        exact POwn.none' HE.out
    · obtain rfl : i = NP := by omega
      have HS := Lib.hid (slK_of_own HO.out.1)
      have HPR := Lib.hid (HL.out.2.done (HL.out.1.trans HNP.out.symm))
      have HV := Lib.hid (pvalid_any A i c l wr HS.out HL.out.2.1 (by omega))
      have HT := Lib.hid (ptext_any A i c l wr (HG.out.past HO.out.2) HS.out HL.out.2.1 (by omega))
      have HE : Hid (Past w wr) := Lib.hid (Past.trans' HP0.out HO.out.2)
      generalize hq : okL l = q at *
      have HQ := Lib.hid hq
      clear hq
      cases q with
      | false =>
        go_wp2_with fail
        refine HV.out.mono ?_
        rintro e w2 ⟨rfl, rfl⟩
        go_wp2_with fail
        go_ret2
        rw [HPR.out, if_neg (by simp)]
        exact POwn.none' HE.out
      | true =>
        generalize hT : textS l = T at *
        by_cases hTs : T = s
        · have hb : (T.toList == s.toList) = true := by rw [hTs]; simp
          have HTS := Lib.hid hTs
          clear hTs
          go_wp2_with fail
          refine HV.out.mono ?_
          rintro e w2 ⟨rfl, rfl⟩
          go_wp2_with fail
          refine HT.out.mono ?_
          rintro e w2 ⟨rfl, hp2⟩
          have HE2 := Lib.hid (And.intro (HE.out.trans' hp2) (own_keep13 (own_base HO.out.1 HWB.out) hp2))
          clear hp2
          go_wp2_with fail
          go_ret2
          rw [HPR.out, if_pos (by exact ⟨by trivial, HTS.out⟩)]
          exact POwn.some' HL.out.1 HE2.out.2 HE2.out.1
        · have hb : (T.toList == s.toList) = false := by have := str_ne hTs; simpa using this
          have HTS := Lib.hid hTs
          clear hTs
          go_wp2_with fail
          refine HV.out.mono ?_
          rintro e w2 ⟨rfl, rfl⟩
          go_wp2_with fail
          refine HT.out.mono ?_
          rintro e w2 ⟨rfl, hp2⟩
          have HE2 := Lib.hid (HE.out.trans' hp2)
          clear hp2
          go_wp2_with fail
          go_ret2
          rw [HPR.out, if_neg (fun h => HTS.out h.2)]
          exact POwn.none' HE2.out

set_option maxHeartbeats 8000000 in
set_option maxRecDepth 100000 in
theorem get_own (a : Int) (w : World) (hG : Glob13 w) (h : 1 ≤ a ∧ a ≤ 25) : Calls Tryd.prog 9 #[.int .i64 a] w (GetO a w) := by
  have HIN := Lib.hid h
  obtain ⟨o1, o2, o3, o4, o5⟩ := oid_some h
  have HG := Lib.hid hG
  obtain ⟨w1, hw1⟩ : ∃ w1, w1 = w.alloc (.cells zeroC 26) := ⟨_, rfl⟩
  obtain ⟨g, hg⟩ : ∃ g, w.heap.size = g := ⟨_, rfl⟩
  have hp1 : Past w w1 := by rw [hw1]; exact past_alloc13 _ _
  have hr1 : Row w1 g 26 zeroC := by rw [hw1, ← hg]; exact Row.new _ _ _
  have H1 : Hid (Past w w1 ∧ Row w1 g 26 zeroC ∧ w.heap.size = g) := Lib.hid ⟨hp1, hr1, hg⟩
  have HRW := Lib.hid (row_any a w1 (hG.past hp1))
  have HW1 := Lib.hid hw1
  unfold RowP at HRW
  have HPA := Lib.hid (fun w hG => pparse_own (row13 a).text w hG (by omega))
  rw [o1] at HPA
  obtain ⟨r, hr⟩ : ∃ r, row13 a = r := ⟨_, rfl⟩
  have HR := Lib.hid hr
  rw [hr] at HRW HPA o2 o3
  obtain ⟨l, hl⟩ : ∃ l, oidL a = l := ⟨_, rfl⟩
  have HL := Lib.hid hl
  rw [hl] at HPA o4 o5
  have HL2 := Lib.hid o5
  obtain ⟨T, hT⟩ : ∃ T, r.text = T := ⟨_, rfl⟩
  rw [hT] at HRW HPA o2 o3
  have hne : (T.toList == []) = false := by
    rw [Lib.toList_data]
    have : T.data.toList.length ≠ 0 := by rw [← Lib.size_eq]; omega
    cases hl : T.data.toList with
    | nil => rw [hl] at this; simp at this
    | cons => rfl
  have hne2 : T.toList.isEmpty = false := by
    cases he : T.toList with
    | nil => rw [he] at hne; simp at hne
    | cons => rfl
  clear hw1 hp1 hr1 h hG o1 o2 o3 o4 o5 hr hl hT
  go_enter Tryd.func9, Tryd.ntmps9
  go_upto_region 1 with (fail)
  rw [← HW1.out]
  try rw [hg]
  clear HW1 hg
  go_wp2_with fail
  refine (HRW.out).mono ?_
  rintro e w2 ⟨rfl, hp⟩
  unfold setV
  obtain ⟨u, hu⟩ : ∃ u, w2.heap.size = u := ⟨_, rfl⟩
  obtain ⟨w3, hw3⟩ : ∃ w3, w2.alloc (.cells (setC r (.slice none 0 0)) 26) = w3 := ⟨_, rfl⟩
  have hp3 : Past w2 w3 := by rw [← hw3]; exact past_alloc13 _ _
  have hgu : g < u := by have := (H1.out.2.1.past hp).lt; omega
  have hru : Row w3 u 26 (setC r (.slice none 0 0)) := by rw [← hw3, ← hu]; exact Row.new _ _ _
  have hz3 : w3.heap.size = u + 1 := by rw [← hw3, ← hu]; simp
  have HZ3 := Lib.hid hz3
  have HGU : Hid (g < u) := Lib.hid hgu
  have H3 : Hid (Past w w3 ∧ Row w3 g 26 zeroC ∧ Row w3 u 26 (setC r (.slice none 0 0)) ∧ w.heap.size = g ∧ g < u) := Lib.hid ⟨(H1.out.1.trans' hp).trans' hp3, (H1.out.2.1.past hp).past hp3, hru, H1.out.2.2, hgu⟩
  have HW3 := Lib.hid hw3
  have HU := Lib.hid hu
  clear hp hp3 hw3 H1 HRW hgu hru hu hz3
  go_upto_region 2 with (fail)
  rw [HW3.out]
  try rw [HU.out]
  clear HW3 HU
  go_wp2_with fail
  refine (HPA.out _ (HG.out.past H3.out.1).lib).mono ?_
  rintro e w4 ⟨A, c, rfl, hS, hp⟩
  have H4 : Hid (Past w w4 ∧ Row w4 g 26 zeroC ∧ Row w4 u 26 (setC r (.slice none 0 0)) ∧ w.heap.size = g ∧ g < u) := Lib.hid ⟨H3.out.1.trans' hp, H3.out.2.1.past hp, H3.out.2.2.1.past hp, H3.out.2.2.2⟩
  have HS4 := Lib.hid hS
  have c7 := H4.out.2.2.1.cell 7
  have f7 := H4.out.2.2.1.fr 7
  clear hp hS H3
  go_upto_region 5 with (fail)
  obtain ⟨w5, hw5⟩ : ∃ w5, w4.setCell ⟨u, 7, none⟩ (.slice A l.length c) = w5 := ⟨_, rfl⟩
  have hp5 : Past w w5 := by rw [← hw5]; exact H4.out.1.setCell (by show w.heap.size ≤ u; have := H4.out.2.2.2; omega) _
  have hr5 : Row w5 u 26 (setC r (.slice A l.length c)) := by rw [← hw5]; exact H4.out.2.2.1.set 7 _
  have hg5 : Row w5 g 26 zeroC := by
    rw [← hw5]
    exact (Below.heap_setCell w4 ⟨u, 7, none⟩ _ g (by show g ≠ u; have := H4.out.2.2.2; omega)).trans H4.out.2.1
  have hS5 : w5.ownsRow w3.heap.size 24 1 (.slice A l.length c) l.length (l.map (Value.int .u32)) := by
    rw [← hw5]
    exact HS4.out.kept (only_setCell (World.grownBy.refl w4 _) (.inl rfl) _) (own_apart HS4.out (show u < w3.heap.size by rw [HZ3.out]; omega))
  have H5 : Hid (Past w w5 ∧ w.heap.size = g ∧ w5.ownsRow w3.heap.size 24 1 (.slice A l.length c) l.length (l.map (Value.int .u32))) := Lib.hid ⟨hp5, H4.out.2.2.2.1, hS5⟩
  rw [hw5]
  clear hw5 hp5 hS5 H4 HS4 c7 f7
  go_wp2_with (first
    | (refine wpList_load_row rfl 26 _ rfl u rfl _ _ _ _ hr5 Tryd.underlying26 rfl (resS _ (by rfl)) ?_)
    | (refine wpList_store_row rfl 26 _ _ rfl g _ rfl rfl _ _ hg5 (resS _ (by rfl)) rfl (by simp [Value.oneCell']) ?_))
  refine bodyPost_ret (results_cr rfl _ _ ⟨g, 0, none⟩ _ rfl (load_set _ g _ (setRow_heap _ g _ _ _ _ hg5) (by rfl))) (by rfl) ?_
  unfold GetO
  rw [HR.out, HL.out]
  refine ⟨A, c, rfl, ?_, past_row13 H5.out.1 (by rw [H5.out.2.1]; exact Nat.le_refl _) _⟩
  exact own_base (H5.out.2.2.kept (setRow_grown13 _ _ _) (own_apart H5.out.2.2 (by rw [HZ3.out]; have := H5.out.2.1; have := HGU.out; omega))) (by rw [HZ3.out, H5.out.2.1]; have := HGU.out; omega)
end Go.Proofs.YtnjoccmjembppaaDoor
