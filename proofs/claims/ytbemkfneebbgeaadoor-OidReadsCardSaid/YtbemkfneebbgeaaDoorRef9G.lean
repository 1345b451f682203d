/- The reference's Parse of the text of an identifier. -/
import Derived.Test.YtbemkfneebbgeaaDoorRef9F
namespace Go.Proofs.YtbemkfneebbgeaaDoor
open Go.RowKit

theorem info32 : (Tryd.prog.info? 33).map (fun i => (i.zero, i.size, i.bytes)) = some (some (.int .u32 0), 1, 4) := by kernel_rfl
theorem ints_extract (s : ByteArray) (a b : Nat) : ints (s.extract a b) = ((ints s).take b).drop a := by
  unfold ints
  rw [ByteArray.data_extract, Array.toList_extract, List.extract_eq_take_drop, ← List.map_take, ← List.map_drop, ← List.drop_take]
theorem slK_of_own {k : IntKind} {w : World} {B : Nat} {e : TypeId} {A : Option Addr} {n c : Nat} {xs : List Int} (h : w.ownsRow B e 1 (.slice A n c) n (xs.map (Value.int k))) : SlK k w A n c xs := by
  have hl : xs.length = n := by have := h.1; simpa using this
  rcases h.2 with ⟨e1, e2⟩ | ⟨g, cap, cur, e1, e2, e3, e4, e5, e6, e7⟩
  · injection e1 with a1 a2 a3
    subst a1 a2 a3
    exact ⟨hl, Nat.le_refl _, Nat.zero_le _, fun h => absurd h (by omega), fun _ => rfl⟩
  · injection e1 with a1 a2 a3
    subst a1 a3
    refine ⟨hl, e4, e5, fun hn => ⟨g, 0, rfl, fun i hi => ?_⟩, fun e => by cases e⟩
    have h1 := h.cells (g := g) rfl i (.int k (xs.getD i 0)) (by simp [List.getD, show i < xs.length by omega])
    rwa [add_none] at h1

/-- The piece from a to b. -/
def pc (xs : List Int) (a b : Nat) : List Int := (xs.take b).drop a
/-- What stands before place i: where the piece begins, and the numbers so far. -/
def pS (xs : List Int) : Nat → Option (Nat × List Int)
  | 0 => some (0, [])
  | i + 1 => match pS xs i with
    | none => none
    | some (f, l) => if i < xs.length ∧ xs.getD i 0 ≠ 46 then some (f, l) else if numI (pc xs f i) < 0 then none else some (i + 1, l ++ [numI (pc xs f i)])
/-- What Parse finds. -/
def parseL (xs : List Int) : Option (List Int) :=
  match pS xs (xs.length + 1) with
  | none => none
  | some (_, l) => if okL l then some l else none
theorem pS_none (xs : List Int) (i : Nat) (h : pS xs i = none) : ∀ j, pS xs (i + j) = none
  | 0 => h
  | j + 1 => by
    show pS xs (i + j + 1) = none
    unfold pS
    rw [pS_none xs i h j]
theorem pS_in (xs : List Int) (i f : Nat) (l : List Int) (h : pS xs i = some (f, l)) (hc : i < xs.length ∧ xs.getD i 0 ≠ 46) : pS xs (i + 1) = some (f, l) := by
  show (match pS xs i with | none => none | some (f, l) => if i < xs.length ∧ xs.getD i 0 ≠ 46 then some (f, l) else if numI (pc xs f i) < 0 then none else some (i + 1, l ++ [numI (pc xs f i)])) = _
  rw [h]
  exact if_pos hc
theorem pS_end (xs : List Int) (i f : Nat) (l : List Int) (h : pS xs i = some (f, l)) (hc : ¬ (i < xs.length ∧ xs.getD i 0 ≠ 46)) : pS xs (i + 1) = if numI (pc xs f i) < 0 then none else some (i + 1, l ++ [numI (pc xs f i)]) := by
  show (match pS xs i with | none => none | some (f, l) => if i < xs.length ∧ xs.getD i 0 ≠ 46 then some (f, l) else if numI (pc xs f i) < 0 then none else some (i + 1, l ++ [numI (pc xs f i)])) = _
  rw [h]
  exact if_neg hc
theorem pS_from (xs : List Int) : ∀ i f l, pS xs i = some (f, l) → f ≤ i ∧ l.length ≤ i ∧ ∀ x ∈ l, 0 ≤ x ∧ x < 4294967296
  | 0, f, l, h => by
    injection h with h
    injection h with h1 h2
    subst h1 h2
    simp
  | i + 1, f, l, h => by
    cases hq : pS xs i with
    | none =>
      have := pS_none xs i hq 1
      rw [this] at h
      cases h
    | some p =>
      obtain ⟨f0, l0⟩ := p
      obtain ⟨q1, q2, q3⟩ := pS_from xs i f0 l0 hq
      by_cases hc : i < xs.length ∧ xs.getD i 0 ≠ 46
      · rw [pS_in xs i f0 l0 hq hc] at h
        injection h with h
        injection h with h1 h2
        subst h1 h2
        exact ⟨by omega, by omega, q3⟩
      · rw [pS_end xs i f0 l0 hq hc] at h
        split at h
        · cases h
        · rename_i hn
          injection h with h
          injection h with h1 h2
          subst h1 h2
          refine ⟨Nat.le_refl _, by rw [List.length_append, List.length_singleton]; omega, fun x hx => ?_⟩
          rcases List.mem_append.1 hx with hx | hx
          · exact q3 x hx
          · obtain rfl : x = numI (pc xs f0 i) := by simpa using hx
            have : numI (pc xs f0 i) ≤ 4294967295 := by
              unfold numI
              split
              · rename_i h
                exact h.2
              · omega
            omega

/-- What a function returns that finds numbers or none. -/
def ROptK (o : Option (List Int)) (w : World) (e : Ending) (w' : World) : Prop :=
  match o with
  | none => e = .returned (.tuple #[.slice none 0 0, .bool false]) ∧ Past w w'
  | some xs => ∃ A n c, e = .returned (.tuple #[.slice A n c, .bool true]) ∧ SlK .u32 w' A n c xs ∧ (∀ x ∈ xs, 0 ≤ x ∧ x < 4294967296) ∧ Past w w'
theorem ROptK.none' {w w' : World} (h : Past w w') : ROptK none w (.returned (.tuple #[.slice none 0 0, .bool false])) w' := ⟨rfl, h⟩
theorem ROptK.some' {w w' : World} {A : Option Addr} {n c : Nat} {xs : List Int} (h1 : SlK .u32 w' A n c xs) (h2 : ∀ x ∈ xs, 0 ≤ x ∧ x < 4294967296) (h : Past w w') : ROptK (some xs) w (.returned (.tuple #[.slice A n c, .bool true])) w' := ⟨A, n, c, rfl, h1, h2, h⟩
theorem strsl (s : ByteArray) (l b : Nat) (h1 : l ≤ b) (h2 : b ≤ s.size) (w : World) :
    (Instr.slice 9 (.string s) (some (.int .i64 (l : Int))) (some (.int .i64 (b : Int))) none).run Tryd.prog w = .ok (.string (s.extract l b)) w :=
  strslice9 s l b (l : Int) (b : Int) (by omega) (by omega) (by omega) (by omega) (by omega) w

set_option maxHeartbeats 4000000 in
set_option maxRecDepth 100000 in
theorem rparse_any (s : ByteArray) (hs : s.size ≤ 1000000) (w : World) :
    Calls Tryd.prog 19 #[.string s] w (ROptK (parseL (ints s)) w) := by
  have hl := ints_len s
  have HL := Lib.hid hl
  obtain ⟨i32, hi32, hz32, hs32, hb32⟩ := info_parts info32
  have hsi : (s.size : Int) ≤ 1000000 := by omega
  have HO0 : Hid (w.ownsRow w.heap.size 33 1 (.slice none 0 0) 0 (([] : List Int).map (Value.int .u32)) ∧ Past w w) := Lib.hid ⟨World.ownsRow_nil _ _ _ _, Below.refl _ _⟩
  clear hl
  go_enter Tryd.func19, Tryd.ntmps19
  go_wp2_with fail
  go_loopg [4, 5, 6] (s.size + 1) (fun k s4 s5 s6 wx => ∃ (i f L c : Nat) (A : Option Addr) (l : List Int), i ≤ s.size + 1 ∧ k = s.size + 1 - i ∧ s4 = .slice A L c ∧ s5 = .int .i64 (f : Int) ∧ s6 = .int .i64 (i : Int) ∧ Hid (pS (ints s) i = some (f, l)) ∧ Hid (l.length = L) ∧ Hid (wx.ownsRow w.heap.size 33 1 (.slice A L c) L (l.map (Value.int .u32)) ∧ Past w wx))
  case atStart => exact ⟨0, 0, 0, 0, none, [], Nat.zero_le _, rfl, rfl, rfl, rfl, Lib.hid rfl, Lib.hid rfl, HO0⟩
  case round =>
    clear HO0
    obtain ⟨i, f, L, c, A, l, hi, hgk, rfl, rfl, rfl, HP, HLn, HO⟩ := hrel
    have HGK := Lib.hid hgk
    clear hgk
    obtain ⟨hfi, hLi, hlr⟩ := pS_from _ i f l HP.out
    have HLR := Lib.hid hlr
    rw [HLn.out] at hLi
    clear hlr
    by_cases hle : i ≤ s.size
    · have hii : (i : Int) ≤ (s.size : Int) := by omega
      have hi0 : (0 : Int) ≤ (i : Int) := by omega
      obtain ⟨hr0, hr1⟩ := ints_rng s i
      by_cases hdot : i < s.size ∧ (ints s).getD i 0 ≠ 46
      · obtain ⟨hlt, hx⟩ := hdot
        have hin : (i : Int) < (s.size : Int) := by omega
        have hix : ∀ w, (Instr.index 9 (.string s) (.int .i64 (i : Int))).run Tryd.prog w = .ok (.int .u8 ((ints s).getD i 0)) w := fun w => idx_str s i (by omega) w
        have HP2 : Hid (pS (ints s) (i + 1) = some (f, l)) := Lib.hid (pS_in _ i f l HP.out ⟨by rw [HL.out]; exact hlt, hx⟩)
        generalize (ints s).getD i 0 = x at *
        go_wp2_with fail
        go_roundg (s.size + 1 - (i + 1))
        case rel => exact ⟨i + 1, f, L, c, A, l, by omega, rfl, rfl, rfl, by go_num, HP2, HLn, HO⟩
        case measure => have := HGK.out; omega
      · have hpe := pS_end (ints s) i f l HP.out (by rw [HL.out]; exact hdot)
        have hes : (s.extract f i).size ≤ 1000000 := by rw [ByteArray.size_extract]; omega
        have hnum := rnumber_any (s.extract f i) hes
        rw [ints_extract] at hnum
        change ∀ w, Calls Tryd.prog 32 #[.string (s.extract f i)] w fun e w' => e = .returned (.int .i64 (numI (pc (ints s) f i))) ∧ w = w' at hnum
        have hsl : ∀ w, (Instr.slice 9 (.string s) (some (.int .i64 (f : Int))) (some (.int .i64 (i : Int))) none).run Tryd.prog w = .ok (.string (s.extract f i)) w := fun w => strsl s f i hfi hle w
        have hnr : numI (pc (ints s) f i) < 4294967296 := by
          unfold numI
          split
          · rename_i h
            omega
          · omega
        generalize s.extract f i = E at *
        generalize numI (pc (ints s) f i) = V at *
        have HPE := Lib.hid hpe
        have HNU := Lib.hid hnum
        have HDOT := Lib.hid hdot
        clear hpe hnum hes hdot
        have JOIN : (i < s.size ∧ (ints s).getD i 0 = 46) ∨ ¬ i < s.size := by
          by_cases h1 : i < s.size
          · by_cases h2 : (ints s).getD i 0 = 46
            · exact .inl ⟨h1, h2⟩
            · exact absurd ⟨h1, h2⟩ HDOT.out
          · exact .inr h1
        have hf0 : (0 : Int) ≤ (f : Int) := by omega
        have hfi' : (f : Int) ≤ (i : Int) := by omega
        rcases JOIN with ⟨hlt, hx⟩ | hge
        case' inl =>
          have hin : (i : Int) < (s.size : Int) := by omega
          have hix : ∀ w, (Instr.index 9 (.string s) (.int .i64 (i : Int))).run Tryd.prog w = .ok (.int .u8 46) w := fun w => by rw [← hx]; exact idx_str s i (by omega) w
          clear hx hr0 hr1
        case' inr =>
          have hin : ¬ (i : Int) < (s.size : Int) := by omega
          clear hr0 hr1
        all_goals
          clear HDOT
          go_wp2_with fail
          refine (HNU.out _).mono ?_
          rintro e w1 ⟨rfl, rfl⟩
          clear HNU hsl
          by_cases hv : V < 0
          · have HNO : Hid (parseL (ints s) = none) := Lib.hid (by
              have h1 := HPE.out
              rw [if_pos hv] at h1
              have h2 := pS_none (ints s) (i + 1) h1 (s.size - i)
              unfold parseL
              rw [HL.out, show s.size + 1 = i + 1 + (s.size - i) by omega, h2])
            go_wp2_with fail
            go_ret2
            rw [HNO.out]
            exact ROptK.none' HO.out.2
          · have HP2 : Hid (pS (ints s) (i + 1) = some (i + 1, l ++ [V])) := Lib.hid (by rw [HPE.out, if_neg hv])
            have hv0 : 0 ≤ V := by omega
            have hwv : V % 4294967296 = V := Int.emod_eq_of_lt hv0 hnr
            go_wp2_with (at_builtin; refine wpList_append_own _ rfl _ _ 22 rfl w.heap.size 33 i32 (.int .u32 0) 1 4 Tryd.underlying22 hi32 hz32 hs32 hb32 rfl (by decide) _ L _ rfl (HO.out.1.alloc _) ⟨wr.heap.size, 0, none⟩ 1 1 [.int .u32 V] rfl rfl ?c1 ?c2 ?c3 ?c4 ?c5 ?_)
            case c1 =>
              intro j u hj
              cases j with
              | zero =>
                simp at hj
                subst hj
                rw [add_none, World.cell?_alloc_new]
                rfl
              | succ j => simp at hj
            case c2 => simp [Value.oneCell']
            case c3 => unfold maxLen; omega
            case c4 => omega
            case c5 => exact Nat.le_trans HO.out.2.size (by simp)
            intro v' w1 hown1 hgrow1 _
            obtain ⟨B3, d3, rfl⟩ := own_slice hown1
            have HO2 : Hid (w1.ownsRow w.heap.size 33 1 (.slice B3 (L + 1) d3) (L + 1) ((l ++ [V]).map (Value.int .u32)) ∧ Past w w1) := Lib.hid (by
              rw [List.map_append]
              exact ⟨hown1, (HO.out.2.trans' ((Below.refl _ _).alloc (Nat.le_refl _) _)).grown hgrow1 (Nat.le_trans HO.out.2.size (by simp)) (own_block_ge HO.out.1)⟩)
            have HLn2 : Hid ((l ++ [V]).length = L + 1) := Lib.hid (by rw [List.length_append, HLn.out]; rfl)
            clear hown1 hgrow1 HO
            go_wp2_with fail
            go_roundg (s.size + 1 - (i + 1))
            case rel => exact ⟨i + 1, i + 1, L + 1, d3, B3, l ++ [V], by omega, rfl, rfl, by go_num, by go_num, HP2, HLn2, HO2⟩
            case measure => have := HGK.out; omega
    · obtain rfl : i = s.size + 1 := by omega
      have hii : ¬ ((s.size + 1 : Nat) : Int) ≤ (s.size : Int) := by omega
      have hV := rvalid_any A L c l wr (slK_of_own HO.out.1) HLR.out
      have HV := Lib.hid hV
      clear hV
      generalize hq : okL l = q at *
      have HPR : Hid (parseL (ints s) = if q = true then some l else none) := Lib.hid (by
        unfold parseL
        rw [HL.out, HP.out, ← hq])
      clear hq
      go_wp2_with fail
      refine HV.out.mono ?_
      rintro e w1 ⟨rfl, rfl⟩
      clear HV
      cases q with
      | false =>
        go_wp2_with fail
        go_ret2
        rw [HPR.out]
        exact ROptK.none' HO.out.2
      | true =>
        go_wp2_with fail
        go_ret2
        rw [HPR.out]
        exact ROptK.some' (slK_of_own HO.out.1) HLR.out HO.out.2

end Go.Proofs.YtbemkfneebbgeaaDoor
