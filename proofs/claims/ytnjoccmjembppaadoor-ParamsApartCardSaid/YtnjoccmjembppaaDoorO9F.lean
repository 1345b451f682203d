/- The program's Parse. -/
import Derived.Test.YtnjoccmjembppaaDoorO9E
namespace Go.Proofs.YtnjoccmjembppaaDoor
open Go.RowKit
set_option linter.unusedVariables false

theorem pu_ok (p : ByteArray) (hs : p.size ≤ 2000) (w : World) (u : Nat) (h : Lib.parseUintB 32 p.data.toList = .ok u) :
    Calls Tryd.prog 38 #[.string p, .int .i64 10, .int .i64 32] w fun e w' => e = .returned (.tuple #[.int .u64 (u : Int), .nilIface]) ∧ Past w w' := by
  refine (Tryd.strconv_ParseUint_10_at32_ok p (by omega) u h w).mono ?_
  rintro e w' ⟨rfl, h⟩
  refine ⟨rfl, ?_⟩
  rcases h with rfl | rfl
  · exact Below.refl _ _
  · refine ⟨rfl, rfl, rfl, by rw [Lib.bytesWorld_size]; omega, fun i hi => Lib.bytesWorld_at_old _ _ _ _ hi⟩
theorem pu_err (p : ByteArray) (hs : p.size ≤ 2000) (w : World) (hG : Glob w) (h : ∀ u, Lib.parseUintB 32 p.data.toList ≠ .ok u) :
    Calls Tryd.prog 38 #[.string p, .int .i64 10, .int .i64 32] w fun e w' => ∃ (x : Int) (N : Nat), e = .returned (.tuple #[.int .u64 x, .iface 92 (.pointer (some ⟨N, 0, none⟩))]) ∧ Past w w' := by
  have hc : ∀ e : Lib.NumEnd Nat, (∃ u, e = .ok u) ∨ e = Lib.parseUintB 32 [] ∨ e = .range := by
    intro e
    cases e <;> first | exact .inl ⟨_, rfl⟩ | exact .inr (.inl rfl) | exact .inr (.inr rfl)
  rcases hc (Lib.parseUintB 32 p.data.toList) with ⟨u, hq⟩ | hq | hq
  · exact absurd hq (h u)
  · obtain ⟨tp, q, hv⟩ := hG.syn
    refine (Tryd.strconv_ParseUint_10_at32_syntax_var p (by omega) hq tp q w hv).mono ?_
    rintro e w' ⟨N, rfl, _, _, hp⟩
    exact ⟨0, N, rfl, hp⟩
  · obtain ⟨tp, q, hv⟩ := hG.ran
    refine (Tryd.strconv_ParseUint_10_at32_range_var p (by omega) hq tp q w hv).mono ?_
    rintro e w' ⟨N, rfl, _, _, hp⟩
    exact ⟨4294967295, N, rfl, hp⟩

theorem piece_size (s : ByteArray) : ∀ (k : Nat) (s : ByteArray), ∀ p ∈ Lib.splitB ⟨#[46]⟩ 0 k s, p.size ≤ s.size
  | 0, s, p, hp => by
    obtain rfl : p = s := by simpa [Lib.splitB] using hp
    exact Nat.le_refl _
  | k + 1, s, p, hp => by
    unfold Lib.splitB at hp
    split at hp
    · obtain rfl : p = s := by simpa using hp
      exact Nat.le_refl _
    · rcases List.mem_cons.1 hp with rfl | hp
      · rw [ByteArray.size_extract]
        omega
      · refine Nat.le_trans (piece_size s k _ p hp) ?_
        rw [ByteArray.size_extract]
        omega

/-- The numbers that the first pieces spell. -/
def PG (s : ByteArray) (l : List Int) : Prop := Rng l ∧ ∀ j p, j < l.length → (pieces s)[j]? = some p → Lib.parseUintB 32 p.data.toList = .ok (l.getD j 0).toNat
theorem PG.fail {s : ByteArray} {i : Nat} {p : ByteArray} (hp : (pieces s)[i]? = some p) (h : ∀ u, Lib.parseUintB 32 p.data.toList ≠ .ok u) : parseL (ints s) = none := by
  cases hq : parseL (ints s) with
  | none => rfl
  | some l => exact absurd (parse_piece hq i p hp) (h _)
theorem PG.next {s : ByteArray} {l : List Int} {p : ByteArray} {u : Nat} (h : PG s l) (hp : (pieces s)[l.length]? = some p) (hu : Lib.parseUintB 32 p.data.toList = .ok u) : PG s (l ++ [(u : Int)]) := by
  have hb := Lib.parseUintB_le hu
  refine ⟨fun x hx => ?_, fun j q hj hq => ?_⟩
  · rcases List.mem_append.1 hx with hx | hx
    · exact h.1 x hx
    · obtain rfl : x = (u : Int) := by simpa using hx
      omega
  · by_cases e : j < l.length
    · rw [getD_app_left e]
      exact h.2 j q e hq
    · obtain rfl : j = l.length := by
        rw [List.length_append] at hj
        simp at hj
        omega
      rw [hp] at hq
      obtain rfl := Option.some.inj hq
      rw [getD_app_right (Nat.le_refl _), hu]
      simp
theorem PG.done {s : ByteArray} {l : List Int} (h : PG s l) (hl : l.length = (pieces s).length) : parseL (ints s) = if okL l = true ∧ textS l = s then some l else none := by
  have key : ∀ l', parseL (ints s) = some l' → l = l' := fun l' hq => by
    have h1 := parse_len hq
    have h2 := (parse_text hq).2.2
    refine List.ext_getElem (by omega) fun i hi hi2 => ?_
    have hip : i < (pieces s).length := by omega
    have h3 := h.2 i _ hi (List.getElem?_eq_getElem hip)
    have h4 := parse_piece hq i _ (List.getElem?_eq_getElem hip)
    rw [h3] at h4
    have h5 : (l.getD i 0).toNat = (l'.getD i 0).toNat := by simpa using h4
    have h6 := getD_rngK (by omega) h.1 i
    have h7 := getD_rngK (by omega) h2 i
    have h8 : l.getD i 0 = l'.getD i 0 := by omega
    simpa [List.getD, hi, hi2] using h8
  split
  · rename_i hc
    rw [← hc.2]
    exact text_parse hc.1 h.1
  · rename_i hc
    cases hq : parseL (ints s) with
    | none => rfl
    | some l' =>
      obtain rfl := key l' hq
      exact absurd ⟨(parse_text hq).2.1, (parse_text hq).1⟩ hc
theorem POptK.none' {w w' : World} (h : Past w w') : POptK none w (.returned (.tuple #[.slice none 0 0, .bool false])) w' := ⟨none, 0, rfl, SlK.nil _ _, h⟩
theorem POptK.some' {w w' : World} {A : Option Addr} {n c : Nat} {xs : List Int} (hn : xs.length = n) (h1 : SlK .u32 w' A n c xs) (h : Past w w') : POptK (some xs) w (.returned (.tuple #[.slice A n c, .bool true])) w' := by
  subst hn
  exact ⟨A, c, rfl, h1, h⟩
theorem str_ne {a b : ByteArray} (h : a ≠ b) : (a.toList != b.toList) = true := by
  rw [bne_iff_ne]
  intro e
  rw [ByteArray.toList_eq, ByteArray.toList_eq] at e
  refine h ?_
  cases a
  cases b
  simp only at e
  rw [Array.toList_inj.1 e]
theorem str_self (T : ByteArray) : (T.toList != T.toList) = false := by simp
theorem cellsOf_at {ps : List ByteArray} {N i : Nat} {p : ByteArray} (h : ps[i]? = some p) : (Lib.cellsOf ps N)[i]? = some (.string p) := by
  obtain ⟨hi, rfl⟩ := List.getElem?_eq_some_iff.1 h
  simp [Lib.cellsOf, hi, List.getElem?_append_left]

set_option maxHeartbeats 4000000 in
set_option maxRecDepth 100000 in
theorem pparse_any (s : ByteArray) (w : World) (hG : Glob w) (hs : s.size ≤ 1000) :
    Calls Tryd.prog 23 #[.string s] w (POptK (parseL (ints s)) w) := by
  obtain ⟨i32, hi32, hz32, hs32, hb32⟩ := info_parts info32
  have hps := pieces_len s
  have hsz : ∀ p ∈ pieces s, p.size ≤ 2000 := fun p hp => Nat.le_trans (piece_size s _ s p hp) (by omega)
  obtain ⟨m, hm⟩ := hG.mx
  have hsp : Calls Tryd.prog 37 #[.string s, .string ⟨#[46]⟩, .int .i64 21] w fun e w' => e = .returned (.slice (some ⟨w.heap.size, 0, none⟩) (pieces s).length (min 21 (s.size + 1))) ∧ w' = w.alloc (.cells (Lib.cellsOf (pieces s) (min 21 (s.size + 1))) 9) :=
    Tryd.strings_SplitN s ⟨#[46]⟩ 21 m w (by omega) hm (by decide) (by decide) (by decide)
  have HSP := Lib.hid hsp
  have HZ := Lib.hid hsz
  have HG := Lib.hid (hG.past ((Below.refl _ w).alloc (Nat.le_refl _) (.cells (Lib.cellsOf (pieces s) (min 21 (s.size + 1))) 9)))
  have HP0 := Lib.hid ((Below.refl _ w).alloc (Nat.le_refl _) (.cells (Lib.cellsOf (pieces s) (min 21 (s.size + 1))) 9))
  have HRow := Lib.hid (Row.new w 9 (Lib.cellsOf (pieces s) (min 21 (s.size + 1))))
  have HW1 : Hid ((w.alloc (.cells (Lib.cellsOf (pieces s) (min 21 (s.size + 1))) 9)).heap.size = w.heap.size + 1) := Lib.hid (by simp)
  clear hsp hsz hG hm
  generalize hNP : (pieces s).length = NP at *
  have HNP := Lib.hid hNP
  clear hNP
  go_enter Tryd.func23, Tryd.ntmps23
  go_wp2_with fail
  refine HSP.out.mono ?_
  rintro e w1 ⟨rfl, hw1⟩
  rw [← hw1] at HG HP0 HRow HW1
  have HO0 : Hid (w1.ownsRow w1.heap.size 24 1 (.slice none 0 0) 0 (([] : List Int).map (Value.int .u32)) ∧ Past w1 w1) := Lib.hid ⟨World.ownsRow_nil _ _ _ _, Below.refl _ _⟩
  clear hw1 HSP HW1
  go_wp2_with fail
  go_loopg [4, 6, 7, 8, 12] NP (fun k s4 s6 s7 s8 s12 wx => ∃ (i c : Nat) (A : Option Addr) (l : List Int), i ≤ NP ∧ k = NP - i ∧ s4 = .slice A i c ∧ s12 = .int .i64 (i : Int) ∧ Hid (l.length = i ∧ PG s l) ∧ Hid (wx.ownsRow w1.heap.size 24 1 (.slice A i c) i (l.map (Value.int .u32)) ∧ Past w1 wx))
  case atStart => exact ⟨0, 0, none, [], Nat.zero_le _, rfl, rfl, rfl, Lib.hid ⟨rfl, by unfold PG Rng; simp⟩, HO0⟩
  case round =>
    clear HO0
    obtain ⟨i, c, A, l, hi, hgk, rfl, rfl, HL, HO⟩ := hrel
    have HGK := Lib.hid hgk
    clear hgk
    by_cases hlt : i < NP
    · obtain ⟨p, hp⟩ : ∃ p, (pieces s)[i]? = some p := ⟨_, List.getElem?_eq_getElem (by rw [HNP.out]; exact hlt)⟩
      have hc : wr.cell? ⟨w.heap.size, i, none⟩ = some (.string p) := by
        rw [(HRow.out.past HO.out.2).cell i]
        exact cellsOf_at hp
      have hpz : p.size ≤ 2000 := HZ.out p (List.mem_of_getElem? hp)
      have HP := Lib.hid hp
      have hi0 : (0 : Int) ≤ (i : Int) := by omega
      have hin : (i : Int) < (NP : Int) := by omega
      clear hp
      by_cases hu : ∃ u, Lib.parseUintB 32 p.data.toList = .ok u
      · obtain ⟨u, hu⟩ := hu
        have hub := Lib.parseUintB_le hu
        have HPU := Lib.hid (fun w => pu_ok p hpz w u hu)
        have HPG : Hid (PG s (l ++ [(u : Int)])) := Lib.hid (HL.out.2.next (by rw [HL.out.1]; exact HP.out) hu)
        have hu0 : (0 : Int) ≤ (u : Int) := by omega
        have hu1 : (u : Int) < 4294967296 := by omega
        have hwv : (u : Int) % 4294967296 = (u : Int) := Int.emod_eq_of_lt hu0 hu1
        clear hu hub hpz
        go_wp2_with fail
        refine (HPU.out _).mono ?_
        rintro e w2 ⟨rfl, hp2⟩
        have HO1 : Hid (w2.ownsRow w1.heap.size 24 1 (.slice A i c) i (l.map (Value.int .u32)) ∧ Past w1 w2) := Lib.hid ⟨HO.out.1.kept (only_of_past hp2 none) (by cases (Value.slice A i c).ownBlock <;> simp), HO.out.2.trans' hp2⟩
        clear hp2 HPU hc
        go_wp2_with (at_builtin; refine wpList_append_own _ rfl _ _ 23 rfl w1.heap.size 24 i32 (.int .u32 0) 1 4 Tryd.underlying23 hi32 hz32 hs32 hb32 rfl (by decide) _ i _ rfl (HO1.out.1.alloc _) ⟨w2.heap.size, 0, none⟩ 1 1 [.int .u32 (u : Int)] rfl rfl ?c1 ?c2 ?c3 ?c4 ?c5 ?_)
        case c1 =>
          intro j v hj
          cases j with
          | zero =>
            simp at hj
            subst hj
            rw [add_none, World.cell?_alloc_new]
            rfl
          | succ j => simp at hj
        case c2 => simp [Value.oneCell']
        case c3 => unfold maxLen; omega
        case c4 => omega
        case c5 => exact Nat.le_trans HO1.out.2.size (by simp)
        intro v' w3 hown1 hgrow1 _
        obtain ⟨B3, d3, rfl⟩ := own_slice hown1
        have HO2 : Hid (w3.ownsRow w1.heap.size 24 1 (.slice B3 (i + 1) d3) (i + 1) ((l ++ [(u : Int)]).map (Value.int .u32)) ∧ Past w1 w3) := Lib.hid (by
          rw [List.map_append]
          exact ⟨hown1, (HO1.out.2.trans' ((Below.refl _ _).alloc (Nat.le_refl _) _)).grown hgrow1 (Nat.le_trans HO1.out.2.size (by simp)) (own_block_ge HO1.out.1)⟩)
        have HL2 : Hid ((l ++ [(u : Int)]).length = i + 1 ∧ PG s (l ++ [(u : Int)])) := Lib.hid ⟨by rw [List.length_append, HL.out.1]; rfl, HPG.out⟩
        clear hown1 hgrow1 HO HO1
        go_wp2_with fail
        go_roundg (NP - (i + 1))
        case rel => exact ⟨i + 1, d3, B3, l ++ [(u : Int)], by omega, rfl, rfl, by go_num, HL2, HO2⟩
        case measure => have := HGK.out; omega
      · have HPU := Lib.hid (fun w hG => pu_err p hpz w hG (fun u e => hu ⟨u, e⟩))
        have HNO : Hid (parseL (ints s) = none) := Lib.hid (PG.fail HP.out (fun u e => hu ⟨u, e⟩))
        clear hu hpz
        go_wp2_with fail
        refine (HPU.out _ (HG.out.past HO.out.2)).mono ?_
        rintro e w2 ⟨x, N, rfl, hp2⟩
        have HE : Hid (Past w w2) := Lib.hid ((Past.trans' HP0.out HO.out.2).trans' hp2)
        clear hp2 HPU hc
        go_wp2_with fail
        go_ret2
        rw [HNO.out]
        exact POptK.none' HE.out
    · obtain rfl : i = NP := by omega
      have HS := Lib.hid (slK_of_own HO.out.1)
      have HPR := Lib.hid (HL.out.2.done (HL.out.1.trans HNP.out.symm))
      have HV := Lib.hid (pvalid_any A i c l wr HS.out HL.out.2.1 (by omega))
      have HT := Lib.hid (ptext_any A i c l wr (HG.out.past HO.out.2) HS.out HL.out.2.1 (by omega))
      have HE : Hid (Past w wr) := Lib.hid (Past.trans' HP0.out HO.out.2)
      generalize hq : okL l = q at *
      have HQ := Lib.hid hq
      clear hq
      cases q with
      | false =>
        go_wp2_with fail
        refine HV.out.mono ?_
        rintro e w2 ⟨rfl, rfl⟩
        go_wp2_with fail
        go_ret2
        rw [HPR.out, if_neg (by simp)]
        exact POptK.none' HE.out
      | true =>
        generalize hT : textS l = T at *
        by_cases hTs : T = s
        · have hb : (T.toList == s.toList) = true := by rw [hTs]; simp
          have HTS := Lib.hid hTs
          clear hTs
          go_wp2_with fail
          refine HV.out.mono ?_
          rintro e w2 ⟨rfl, rfl⟩
          go_wp2_with fail
          refine HT.out.mono ?_
          rintro e w2 ⟨rfl, hp2⟩
          have HE2 := Lib.hid (And.intro (HE.out.trans' hp2) (HS.out.past hp2))
          clear hp2
          go_wp2_with fail
          go_ret2
          rw [HPR.out, if_pos (by exact ⟨by trivial, HTS.out⟩)]
          exact POptK.some' HL.out.1 HE2.out.2 HE2.out.1
        · have hb : (T.toList == s.toList) = false := by have := str_ne hTs; simpa using this
          have HTS := Lib.hid hTs
          clear hTs
          go_wp2_with fail
          refine HV.out.mono ?_
          rintro e w2 ⟨rfl, rfl⟩
          go_wp2_with fail
          refine HT.out.mono ?_
          rintro e w2 ⟨rfl, hp2⟩
          have HE2 := Lib.hid (HE.out.trans' hp2)
          clear hp2
          go_wp2_with fail
          go_ret2
          rw [HPR.out, if_neg (fun h => HTS.out h.2)]
          exact POptK.none' HE2.out

end Go.Proofs.YtnjoccmjembppaaDoor
