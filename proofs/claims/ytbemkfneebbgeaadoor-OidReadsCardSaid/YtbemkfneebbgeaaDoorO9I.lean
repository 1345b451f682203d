/- The program's groups: the lowest 32 bits of the numbers of groups. -/
import Derived.Test.YtbemkfneebbgeaaDoorO9D
import Derived.WalkMore
namespace Go.Proofs.YtbemkfneebbgeaaDoor
open Go.RowKit
set_option linter.unusedVariables false

/-- One group: its number's lowest 32 bits and what stands behind it. -/
def gI : List Int → Int → Option (Int × List Int)
  | [], _ => none
  | d :: r, x => if d < 128 then some (x * 128 % 4294967296 + d % 128, r) else gI r (x * 128 % 4294967296 + d % 128)
/-- At most k groups. -/
def gO : Nat → List Int → List Int → List Int
  | 0, _, ns => ns
  | k + 1, xs, ns => if xs = [] then ns else match gI xs 0 with
    | none => []
    | some (y, r) => gO k r (ns ++ [y])
theorem gO_nil (k : Nat) (ns : List Int) : gO k [] ns = ns := by cases k <;> rfl
theorem gO_none {k : Nat} {xs ns : List Int} (hx : xs ≠ []) (h : gI xs 0 = none) : gO (k + 1) xs ns = [] := by
  show (if xs = [] then ns else _) = _
  rw [if_neg hx, h]
theorem gO_some {k : Nat} {xs ns r : List Int} {y : Int} (hx : xs ≠ []) (h : gI xs 0 = some (y, r)) : gO (k + 1) xs ns = gO k r (ns ++ [y]) := by
  show (if xs = [] then ns else _) = _
  rw [if_neg hx, h]
theorem gI_rng : ∀ (xs : List Int) (x y : Int) (r : List Int), gI xs x = some (y, r) → 0 ≤ y ∧ y < 4294967296
  | [], _, _, _, h => by cases h
  | d :: l, x, y, r, h => by
    unfold gI at h
    split at h
    · simp only [Option.some.injEq, Prod.mk.injEq] at h
      obtain ⟨rfl, _⟩ := h
      omega
    · exact gI_rng l _ y r h
theorem gO_rng : ∀ (k : Nat) (xs ns : List Int), Rng ns → Rng (gO k xs ns)
  | 0, _, _, h => h
  | k + 1, xs, ns, h => by
    by_cases hx : xs = []
    · subst hx
      exact h
    · cases hg : gI xs 0 with
      | none =>
        rw [gO_none hx hg]
        intro x hx
        cases hx
      | some p =>
        obtain ⟨y, r⟩ := p
        rw [gO_some hx hg]
        refine gO_rng k r _ fun x hx => ?_
        rcases List.mem_append.1 hx with hx | hx
        · exact h x hx
        · obtain rfl : x = y := by simpa using hx
          exact gI_rng xs 0 x r hg
theorem gO_len : ∀ (k : Nat) (xs ns : List Int), (gO k xs ns).length ≤ ns.length + k
  | 0, _, ns => Nat.le_refl _
  | k + 1, xs, ns => by
    by_cases hx : xs = []
    · subst hx
      show ns.length ≤ _
      omega
    · cases hg : gI xs 0 with
      | none =>
        rw [gO_none hx hg]
        exact Nat.zero_le _
      | some p =>
        obtain ⟨y, r⟩ := p
        rw [gO_some hx hg]
        have := gO_len k r (ns ++ [y])
        simp at this
        omega
theorem drop_at (xs : List Int) (i : Nat) (h : i < xs.length) : xs.drop i = xs.getD i 0 :: xs.drop (i + 1) := by
  rw [List.drop_eq_getElem_cons h]
  simp [List.getD, h]

theorem sliceFrom8 (A : Option Addr) (n c j : Nat) (hn : j ≤ n) (w : World) :
    (Instr.slice 25 (.slice A n c) (some (.int .i64 (j : Int))) none none).run Tryd.prog w = .ok (.slice (if c = j then A else A.map (·.add j)) (n - j) (c - j)) w := by
  rw [run_slice_l w 25 A n c Tryd.underlying25 .i64 (j : Int) (by omega) (by omega)]
  have hs : (sizeOf (Tryd.prog.elem 25)).run Tryd.prog w = .ok 1 w := by kernel_rfl
  rw [hs]
  simp only [Result.andThen, sliced, Int.toNat_natCast, Nat.mul_one]

set_option maxHeartbeats 4000000 in
set_option maxRecDepth 100000 in
theorem pgroups_any (A : Option Addr) (n c : Nat) (xs : List Int) (w : World) (h : Sl w A n c xs) (hn : n ≤ 1000) :
    Calls Tryd.prog 30 #[.slice A n c] w fun e w' => ∃ B d, e = .returned (.slice B (gO 20 xs []).length d) ∧ SlK .u32 w' B (gO 20 xs []).length d (gO 20 xs []) ∧ Past w w' := by
  obtain ⟨i32, hi32, hz32, hs32, hb32⟩ := info_parts info32
  have HO0 : Hid (w.ownsRow w.heap.size 33 1 (.slice none 0 0) 0 (([] : List Int).map (Value.int .u32)) ∧ Past w w) := Lib.hid ⟨World.ownsRow_nil _ _ _ _, Below.refl _ _⟩
  have hl := h.len
  have HL := Lib.hid hl
  have HS := Lib.hid h
  generalize hR : gO 20 xs [] = R at *
  have HR := Lib.hid hR
  clear h hl hR
  go_enter Tryd.func30, Tryd.ntmps30
  go_wp2_with fail
  go_step3
  go_wp2_with fail
  go_step3
  go_wp2_with fail
  go_loopg [0, 3, 4, 5, 6] n (fun k s0 s3 s4 s5 s6 wx => ∃ (A : Option Addr) (n c L d : Nat) (B : Option Addr) (xs ns : List Int), k = n ∧ n ≤ 1000 ∧ L ≤ 20 ∧ s0 = .slice A n c ∧ s3 = .slice B L d ∧ Hid (Sl w A n c xs) ∧ Hid (ns.length = L) ∧ Hid (gO (20 - L) xs ns = R) ∧ Hid (wx.ownsRow w.heap.size 33 1 (.slice B L d) L (ns.map (Value.int .u32)) ∧ Past w wx))
  case atStart => exact ⟨A, n, c, 0, 0, none, xs, [], rfl, hn, by omega, rfl, rfl, HS, Lib.hid rfl, HR, HO0⟩
  case round =>
    clear HO0 HL HS HR hn
    obtain ⟨A, n, c, L, d, B, xs, ns, hgk, hn, hL20, rfl, rfl, HS, HLn, HR, HO⟩ := hrel
    have HGK := Lib.hid hgk
    clear hgk
    by_cases hstop : n = 0 ∨ L = 20
    · have HE : Hid (R = ns) := Lib.hid (by
        rw [← HR.out]
        rcases hstop with h | h
        · have e : xs = [] := List.length_eq_zero_iff.1 (HS.out.len.trans h)
          rw [e, gO_nil]
        · rw [h]
          rfl)
      have hd : (0 < (n : Int) ∧ ¬ (L : Int) < 20) ∨ ¬ 0 < (n : Int) := by omega
      rcases hd with ⟨h1, h2⟩ | h1
      all_goals
        go_wp2_with fail
        go_ret
        rw [HE.out, HLn.out]
        exact ⟨B, d, rfl, slK_of_own HO.out.1, HO.out.2⟩
    · obtain ⟨b, o, rfl, hc⟩ := HS.out.bytes (by omega)
      have HC := Lib.hid hc
      have HRg := Lib.hid HS.out.rng
      have hlx := HS.out.len
      have HLX := Lib.hid hlx
      have hne : xs ≠ [] := by
        rintro rfl
        simp at hlx
        omega
      have HNE := Lib.hid hne
      have h1 : (0 : Int) < (n : Int) := by omega
      have h2 : (L : Int) < 20 := by omega
      clear hc hlx hne hstop
      go_wp2_with fail
      go_loopg [0, 3, 4, 5, 6, 17] n (fun k s0 s3 s4 s5 s6 s17 wx => ∃ (i : Nat) (x : Int), i ≤ n ∧ k = n - i ∧ s0 = .slice (some ⟨b, o, none⟩) n c ∧ s3 = .slice B L d ∧ s17 = .int .i64 (i : Int) ∧ s4 = .int .u32 x ∧ 0 ≤ x ∧ x < 4294967296 ∧ Hid (gI (xs.drop i) x = gI xs 0) ∧ Hid (wr = wx))
      case atStart => exact ⟨0, 0, Nat.zero_le _, rfl, rfl, rfl, rfl, rfl, by omega, by omega, Lib.hid rfl, Lib.hid rfl⟩
      case round =>
        obtain ⟨i, x, hi, hgk2, rfl, rfl, rfl, rfl, hx0, hx1, HX, HW⟩ := hrel
        have HGK2 := Lib.hid hgk2
        clear hgk2
        obtain rfl := HW.out
        clear HW
        by_cases hlt : i < n
        · have hcell := (HO.out.2.cell (cell_lt (HC.out i hlt))).trans (HC.out i hlt)
          have hdr : 0 ≤ xs.getD i 0 ∧ xs.getD i 0 < 256 := getD_rngK (by omega) HRg.out i
          have hdrop := drop_at xs i (by rw [HLX.out]; exact hlt)
          obtain ⟨q, hq⟩ : ∃ q, xs.getD i 0 = q := ⟨_, rfl⟩
          rw [hq] at hcell hdr hdrop
          obtain ⟨hq0, hq1⟩ := hdr
          have hyr : 0 ≤ x * 128 % 4294967296 + q % 128 ∧ x * 128 % 4294967296 + q % 128 < 4294967296 := by omega
          obtain ⟨z, hz⟩ : ∃ z, x * 128 % 4294967296 = z := ⟨_, rfl⟩
          obtain ⟨y, hy⟩ : ∃ y, z + q % 128 = y := ⟨_, rfl⟩
          have HZY : Hid (x * 128 % 4294967296 + q % 128 = y) := Lib.hid (by rw [hz, hy])
          rw [HZY.out] at hyr
          obtain ⟨hy0, hy1⟩ := hyr
          have HD := Lib.hid hdrop
          clear hdrop hq
          have hi0 : (0 : Int) ≤ (i : Int) := by omega
          have hin : (i : Int) < (n : Int) := by omega
          by_cases hb : q < 128
          · have HGI : Hid (gI xs 0 = some (y, xs.drop (i + 1))) := Lib.hid (by
              rw [← HX.out, HD.out]
              show (if q < 128 then _ else _) = _
              rw [if_pos hb, HZY.out])
            have HR2 : Hid (gO (20 - (L + 1)) (xs.drop (i + 1)) (ns ++ [y]) = R) := Lib.hid (by
              rw [← HR.out, show 20 - L = (20 - (L + 1)) + 1 by omega, gO_some HNE.out HGI.out])
            have hsl := sliceFrom8 (some ⟨b, o, none⟩) n c (i + 1) hlt
            have hcut := HS.out.cut2 (i := i + 1) (m := n - (i + 1)) (by omega)
            rw [show ((i + 1 : Nat) : Int) = (i : Int) + 1 by omega] at hsl
            rw [List.take_of_length_le (by rw [List.length_drop, HLX.out]; exact Nat.le_refl _)] at hcut
            generalize (if c = i + 1 then some (⟨b, o, none⟩ : Addr) else (some (⟨b, o, none⟩ : Addr)).map (·.add (i + 1))) = A2 at *
            have HCut := Lib.hid hcut
            clear hcut HGI
            go_wp2_with (at_builtin; refine wpList_append_own _ rfl _ _ 22 rfl w.heap.size 33 i32 (.int .u32 0) 1 4 Tryd.underlying22 hi32 hz32 hs32 hb32 rfl (by decide) _ L _ rfl (HO.out.1.alloc _) ⟨wr.heap.size, 0, none⟩ 1 1 [.int .u32 y] rfl rfl ?c1 ?c2 ?c3 ?c4 ?c5 ?_)
            case c1 =>
              intro j v hj
              cases j with
              | zero =>
                simp at hj
                subst hj
                rw [add_none, World.cell?_alloc_new]
                rfl
              | succ j => simp at hj
            case c2 => simp [Value.oneCell']
            case c3 => unfold maxLen; omega
            case c4 => omega
            case c5 => exact Nat.le_trans HO.out.2.size (by simp)
            intro v' w3 hown1 hgrow1 _
            obtain ⟨B3, d3, rfl⟩ := own_slice hown1
            have HO2 : Hid (w3.ownsRow w.heap.size 33 1 (.slice B3 (L + 1) d3) (L + 1) ((ns ++ [y]).map (Value.int .u32)) ∧ Past w w3) := Lib.hid (by
              rw [List.map_append]
              exact ⟨hown1, (HO.out.2.trans' ((Below.refl _ _).alloc (Nat.le_refl _) _)).grown hgrow1 (Nat.le_trans HO.out.2.size (by simp)) (own_block_ge HO.out.1)⟩)
            have HLn2 : Hid ((ns ++ [y]).length = L + 1) := Lib.hid (by rw [List.length_append, HLn.out]; rfl)
            clear hown1 hgrow1 HO
            go_wp2_with fail
            go_roundg (n - (i + 1))
            case rel => exact ⟨A2, n - (i + 1), c - (i + 1), L + 1, d3, B3, xs.drop (i + 1), ns ++ [y], rfl, by omega, by omega, rfl, rfl, HCut, HLn2, HR2, HO2⟩
            case measure => have := HGK.out; omega
          · have HX2 : Hid (gI (xs.drop (i + 1)) (y) = gI xs 0) := Lib.hid (by
              rw [← HX.out, HD.out]
              show _ = (if q < 128 then _ else _)
              rw [if_neg hb, HZY.out])
            go_wp2_with fail
            go_roundg (n - (i + 1))
            case rel => exact ⟨i + 1, _, by omega, rfl, rfl, rfl, by go_num, rfl, hy0, hy1, HX2, Lib.hid rfl⟩
            case measure => have := HGK2.out; omega
        · obtain rfl : i = n := by omega
          have HE : Hid (R = []) := Lib.hid (by
            rw [← HR.out, show 20 - L = (19 - L) + 1 by omega]
            refine gO_none HNE.out ?_
            rw [← HX.out, List.drop_eq_nil_of_le (by rw [HLX.out]; exact Nat.le_refl _)]
            rfl)
          go_wp2_with fail
          try rw [Exit.noGoto_ret]
          go_ret
          rw [HE.out]
          exact ⟨none, 0, rfl, SlK.nil _ _, HO.out.2⟩

end Go.Proofs.YtbemkfneebbgeaaDoor
