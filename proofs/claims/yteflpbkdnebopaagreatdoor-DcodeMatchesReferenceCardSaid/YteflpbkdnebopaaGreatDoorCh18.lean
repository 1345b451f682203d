/- The law's own function that changes a key by a list. -/
import Derived.Test.YteflpbkdnebopaaGreatDoorSg18
import Derived.Deep.RegionHeld
namespace Go.Proofs.YteflpbkdnebopaaGreatDoor
open Go.RowKit
set_option linter.unusedVariables false
set_option maxRecDepth 100000

/-- A slice of m changes. -/
structure Chs (w : World) (P : Option Addr) (m : Nat) (V : Nat → Int × Int × Int) : Prop where
  cells : 0 < m → ∃ b o, P = some ⟨b, o, none⟩ ∧ ∀ i, i < m → w.cell? ⟨b, o + i * 3, none⟩ = some (.int .i64 (V i).1) ∧ w.cell? ⟨b, o + i * 3 + 1, none⟩ = some (.int .u8 (V i).2.1) ∧ w.cell? ⟨b, o + i * 3 + 2, none⟩ = some (.int .u8 (V i).2.2)
  rng : ∀ i, i < m → (0 ≤ (V i).2.1 ∧ (V i).2.1 < 256) ∧ 0 ≤ (V i).2.2 ∧ (V i).2.2 < 256
theorem Chs.past {w w' : World} {P : Option Addr} {m : Nat} {V : Nat → Int × Int × Int} (h : Chs w P m V) (hp : Past w w') : Chs w' P m V :=
  ⟨fun hm => by
    obtain ⟨b, o, e, hc⟩ := h.cells hm
    exact ⟨b, o, e, fun i hi => ⟨(hp.cell (cell_lt (hc i hi).1)).trans (hc i hi).1, (hp.cell (cell_lt (hc i hi).2.1)).trans (hc i hi).2.1, (hp.cell (cell_lt (hc i hi).2.2)).trans (hc i hi).2.2⟩⟩, h.rng⟩
def setAt (xs : List Int) (a b : Int) : List Int := if 0 ≤ a ∧ a < (xs.length : Int) then xs.set a.toNat b else xs
def cutEnd (xs : List Int) (l : Int) : List Int := if l ≤ (xs.length : Int) then xs.take (xs.length - l.toNat) else xs
def chg (V : Nat → Int × Int × Int) (xs : List Int) : Nat → List Int
  | 0 => xs
  | i + 1 => cutEnd (setAt (chg V xs i) (V i).1 (V i).2.1) (V i).2.2
theorem setAt_len (xs : List Int) (a b : Int) : (setAt xs a b).length = xs.length := by unfold setAt; split <;> simp
theorem cutEnd_len (xs : List Int) (l : Int) : (cutEnd xs l).length ≤ xs.length := by unfold cutEnd; split <;> simp
theorem chg_len (V : Nat → Int × Int × Int) (xs : List Int) (i : Nat) : (chg V xs i).length ≤ xs.length := by
  induction i with
  | zero => exact Nat.le_refl _
  | succ i ih => exact Nat.le_trans (cutEnd_len _ _) (by rw [setAt_len]; exact ih)
theorem setAt_rng {xs : List Int} {a b : Int} (h : ∀ x ∈ xs, 0 ≤ x ∧ x < 256) (hb : 0 ≤ b ∧ b < 256) : ∀ x ∈ setAt xs a b, 0 ≤ x ∧ x < 256 := by
  unfold setAt
  split
  · intro x hx
    rcases List.mem_or_eq_of_mem_set hx with h1 | h1
    · exact h x h1
    · rw [h1]; exact hb
  · exact h
theorem cutEnd_rng {xs : List Int} {l : Int} (h : ∀ x ∈ xs, 0 ≤ x ∧ x < 256) : ∀ x ∈ cutEnd xs l, 0 ≤ x ∧ x < 256 := by
  unfold cutEnd
  split
  · exact fun x hx => h x (List.mem_of_mem_take hx)
  · exact h
theorem own_row15 {w : World} {base : Nat} {e : TypeId} {g n c : Nat} {xs : List Value} (h : w.ownsRow base e 1 (.slice (some ⟨g, 0, none⟩) n c) n xs) : ∃ cur, Row w g e cur ∧ base ≤ g ∧ n ≤ c ∧ c ≤ maxLen ∧ cur.size = c ∧ cur.toList.take n = xs ∧ xs.length = n := by
  rcases h.2 with ⟨h1, _⟩ | ⟨g', cap, cur, h1, h2, h3, h4, h5, h6, h7⟩
  · cases h1
  · injection h1 with a1 a2 a3
    simp only [Option.some.injEq, Addr.mk.injEq, and_true] at a1
    subst a1 a3
    exact ⟨cur, h3, h2, h4, h5, by simpa using h6, by simpa using h7, by simpa using h.1⟩
theorem own_mk {w : World} {base : Nat} {e : TypeId} {g n c : Nat} {xs : List Value} {cur : Array Value} (h : Row w g e cur) (hb : base ≤ g) (hn : n ≤ c) (hc : c ≤ maxLen) (hs : cur.size = c) (ht : cur.toList.take n = xs) (hl : xs.length = n) : w.ownsRow base e 1 (.slice (some ⟨g, 0, none⟩) n c) n xs :=
  ⟨by rw [hl, Nat.mul_one], .inr ⟨g, c, cur, rfl, hb, h, hn, hc, by rw [hs, Nat.mul_one], by rw [Nat.mul_one]; exact ht⟩⟩
theorem own_set15 {w : World} {base : Nat} {e : TypeId} {g n c : Nat} {xs : List Int} (h : w.ownsRow base e 1 (.slice (some ⟨g, 0, none⟩) n c) n (xs.map (Value.int .u8))) (i : Nat) (x : Int) (hi : i < n) :
    (w.setCell ⟨g, i, none⟩ (.int .u8 x)).ownsRow base e 1 (.slice (some ⟨g, 0, none⟩) n c) n ((xs.set i x).map (Value.int .u8)) := by
  obtain ⟨cur, h1, h2, h3, h4, h5, h6, h7⟩ := own_row15 h
  refine own_mk (Row.set h1 i _) h2 h3 h4 (by simpa using h5) ?_ (by simpa using h7)
  rw [Array.toList_setIfInBounds, List.take_set, h6, List.map_set]
theorem own_cut15 {w : World} {base : Nat} {e : TypeId} {g n c : Nat} {xs : List Int} (h : w.ownsRow base e 1 (.slice (some ⟨g, 0, none⟩) n c) n (xs.map (Value.int .u8))) (m : Nat) (hm : m ≤ n) :
    w.ownsRow base e 1 (.slice (some ⟨g, 0, none⟩) m c) m ((xs.take m).map (Value.int .u8)) := by
  obtain ⟨cur, h1, h2, h3, h4, h5, h6, h7⟩ := own_row15 h
  refine own_mk h1 h2 (by omega) h4 h5 ?_ (by simp at h7; simp; omega)
  rw [List.map_take, ← h6, List.take_take, Nat.min_eq_left hm]
set_option maxHeartbeats 2000000 in
theorem changed_any (A : Option Addr) (n c : Nat) (xs : List Int) (P : Option Addr) (m pc : Nat) (V : Nat → Int × Int × Int) (w : World) (hS : Sl w A n c xs) (hn : 0 < n) (hn2 : n ≤ 10000) (hC : Chs w P m V) (hm : m ≤ 20) :
    Calls Tryz.prog 7 #[.slice A n c, .slice P m pc] w (OwnB (chg V xs m) w) := by
  obtain ⟨i8, hi8, hz80, hz81, hz82⟩ := info_parts info8
  have hl := hS.len
  obtain ⟨ad, rfl, hsrc⟩ := hS.src hn
  have HS := Lib.hid hS
  have HC := Lib.hid hC
  have HLX := Lib.hid hl
  have HRX := Lib.hid hS.rng
  have hb1 : 0 + n ≤ maxLen := by unfold maxLen; omega
  have hb2 : (0 + n) * 1 ≤ 140737488355328 := by omega
  have HN := Lib.hid (And.intro hn (And.intro hn2 hm))
  clear hS hC hn hn2 hl hsrc hm
  go_enter Tryz.func7, Tryz.ntmps7
  have own0 : (w.alloc (.cells #[] 5)).ownsRow w.heap.size 5 1 (.slice (some ⟨w.heap.size, 0, none⟩) 0 0) 0 [] := own_mk (Row.new w 5 #[]) (Nat.le_refl _) (Nat.le_refl _) (by unfold maxLen; omega) rfl rfl rfl
  have hp0 : Past w (w.alloc (.cells #[] 5)) := (Below.refl _ _).alloc (Nat.le_refl _) _
  have hs0 := (HS.out.past hp0).cells
  obtain ⟨w0, hw0⟩ : ∃ W, w.alloc (.cells #[] 5) = W := ⟨_, rfl⟩
  obtain ⟨u0, hu0⟩ : ∃ u, w.heap.size = u := ⟨_, rfl⟩
  rw [hw0] at own0 hp0 hs0
  have HW0 := Lib.hid hw0
  have HO0 := Lib.hid own0
  have HP0 := Lib.hid hp0
  have HS0 := Lib.hid hs0
  have HBS : Hid (w.heap.size ≤ w0.heap.size) := Lib.hid hp0.size
  have HOB := Lib.hid (own_block_ge own0)
  clear hw0 own0 hp0 hs0 hu0
  have hn0 : ¬ n = 0 := by have := HN.out; omega
  go_wp2_with (at_builtin; refine wpList_append_own _ rfl _ _ 25 rfl w.heap.size 5 i8 (.int .u8 0) 1 1 Tryz.underlying25 hi8 hz80 hz81 hz82 rfl (by decide) _ 0 _ rfl (by rw [HW0.out]; exact HO0.out) ad n c (xs.map (Value.int .u8)) rfl (by rw [List.length_map, HLX.out, Nat.mul_one]) (by rw [HW0.out]; exact HS0.out) (bytes_one xs) hb1 hb2 (by rw [HW0.out]; exact HBS.out) ?_)
  intro v1 w1 hown1 hgrow1 _
  rw [HW0.out] at hgrow1
  obtain ⟨g, cap, rfl, hg, _, _⟩ := own_some hown1 HN.out.1
  obtain ⟨cur, h1, h2, h3, h4, h5, h6, h7⟩ := own_row15 hown1
  have HCAP : Hid (n ≤ cap ∧ cap ≤ maxLen) := Lib.hid ⟨h3, h4⟩
  have HO1 := Lib.hid hown1
  have HP1 : Hid (Past w w1) := Lib.hid (HP0.out.grown hgrow1 HBS.out HOB.out)
  have HG := Lib.hid hg
  clear hown1 hgrow1 hg h1 h2 h3 h4 h5 h6 h7 hn0
  go_wp2_with fail
  go_loopg [5, 6] m (fun q s5 s6 wx => ∃ i L : Nat, i ≤ m ∧ q = m - i ∧ (chg V xs i).length = L ∧ s5 = .slice (some ⟨g, 0, none⟩) L cap ∧ s6 = .int .i64 (i : Int) ∧ Hid (wx.ownsRow w.heap.size 5 1 (.slice (some ⟨g, 0, none⟩) L cap) L ((chg V xs i).map (Value.int .u8))) ∧ Hid (Past w wx))
  case atStart => exact ⟨0, n, Nat.zero_le _, rfl, HLX.out, rfl, rfl, HO1, HP1⟩
  case round =>
    obtain ⟨i, L, hi, hq0, hL, rfl, rfl, HO, HP⟩ := hrel
    have HGQ := Lib.hid hq0
    have HL := Lib.hid hL
    clear hq0
    have hi0 : (0 : Int) ≤ (i : Int) := by omega
    by_cases hlt : i < m
    · have hii : (i : Int) < (m : Int) := by omega
      have HLT := Lib.hid hlt
      have HNX : Hid (wrap64 ((i : Int) + 1) = ((i + 1 : Nat) : Int)) := Lib.hid (by rw [IntWalk.wrap64_in _ (by have := HN.out.2.2; omega)]; omega)
      have hLn : L ≤ n := by rw [← hL, ← HLX.out]; exact chg_len V xs i
      have hnn := HN.out.2.1
      obtain ⟨b0, o0, rfl, hc⟩ := HC.out.cells (by omega)
      obtain ⟨hx0, hx1, hx2⟩ := hc i hlt
      obtain ⟨⟨r10, r11⟩, r20, r21⟩ := HC.out.rng i hlt
      obtain ⟨a, hva⟩ : ∃ a, (V i).1 = a := ⟨_, rfl⟩
      obtain ⟨bb, hvb⟩ : ∃ b, (V i).2.1 = b := ⟨_, rfl⟩
      obtain ⟨q, hvq⟩ : ∃ q : Nat, (V i).2.2 = (q : Int) := ⟨(V i).2.2.toNat, by omega⟩
      rw [hva] at hx0
      rw [hvb] at hx1
      rw [hvq] at hx2 r20 r21
      have hy0 := (HP.out.cell (cell_lt hx0)).trans hx0
      have hy1 := (HP.out.cell (cell_lt hx1)).trans hx1
      have hy2 := (HP.out.cell (cell_lt hx2)).trans hx2
      have HQV := Lib.hid hvq
      have HLB := Lib.hid (And.intro hLn hnn)
      by_cases ha : 0 ≤ a ∧ a < (L : Int)
      · obtain ⟨k, hk⟩ : ∃ k : Nat, a = (k : Int) := ⟨a.toNat, by omega⟩
        subst hk
        have hkL : (k : Int) < (L : Int) := ha.2
        have hk0 : (0 : Int) ≤ (k : Int) := by omega
        have HY : Hid (setAt (chg V xs i) (V i).1 (V i).2.1 = (chg V xs i).set k bb) := Lib.hid (by
          unfold setAt
          rw [hva, hvb, if_pos ⟨by omega, by rw [hL]; exact hkL⟩, Int.toNat_natCast])
        have HYL : Hid (((chg V xs i).set k bb).length = L) := Lib.hid (by rw [List.length_set, hL])
        obtain ⟨w2, hw2⟩ : ∃ W, wr.drew.setCell ⟨g, k, none⟩ (.int .u8 bb) = W := ⟨_, rfl⟩
        have HOY : Hid (w2.ownsRow w.heap.size 5 1 (.slice (some ⟨g, 0, none⟩) L cap) L (((chg V xs i).set k bb).map (Value.int .u8))) := Lib.hid (by rw [← hw2]; exact own_set15 (w := wr.drew) HO.out k bb (by omega))
        have HPY : Hid (Past w w2) := Lib.hid (by rw [← hw2]; exact (show Past w wr.drew from HP.out.drewN 1).setCell HG.out _)
        have hz2 := (HPY.out.cell (cell_lt hx2)).trans hx2
        obtain ⟨cur2, g1, g2, g3, g4, g5, g6, g7⟩ := own_row15 HO.out
        obtain ⟨old, hold⟩ : ∃ v, wr.cell? ⟨g, k, none⟩ = some v := ⟨cur2[k]'(by omega), by rw [g1.cell]; exact Array.getElem?_eq_getElem (by omega)⟩
        have hfrz := g1.fr k
        have HZ2 := Lib.hid hz2
        have HSE0 : Hid (w2.cell? ⟨b0, o0 + i * 3, none⟩ = some (.int .i64 (k : Int)) ∧ w2.cell? ⟨b0, o0 + i * 3 + 1, none⟩ = some (.int .u8 bb)) := Lib.hid ⟨(HPY.out.cell (cell_lt hx0)).trans hx0, (HPY.out.cell (cell_lt hx1)).trans hx1⟩
        have HII := Lib.hid (And.intro hi0 hii)
        have HKK := Lib.hid (And.intro hk0 hkL)
        have HW2 := Lib.hid hw2
        have hyx : (k : Int) ≤ (k : Int) := Int.le_refl _
        clear g1 g2 g3 g4 g5 g6 g7 hc hx0 hx1 hx2 hva hvb hvq ha hyx hz2 hw2 hi hlt hL r10 r11 hnn
        go_upto_region 6 with (fail)
        obtain ⟨wd, hwd⟩ : ∃ W, W = wr.drew := ⟨_, rfl⟩
        have HSD : Hid (wd.cell? ⟨b0, o0 + i * 3, none⟩ = some (.int .i64 (k : Int)) ∧ wd.cell? ⟨b0, o0 + i * 3 + 1, none⟩ = some (.int .u8 bb)) := Lib.hid (by rw [hwd]; exact ⟨hy0, hy1⟩)
        have hWd : wd.setCell ⟨g, k, none⟩ (.int .u8 bb) = w2 := by rw [hwd]; exact HW2.out
        have hold2 : wd.cell? ⟨g, k, none⟩ = some old := by rw [hwd]; exact hold
        have hfrz2 : wd.frozen? ⟨g, k, none⟩ = false := by rw [hwd]; exact hfrz
        have HSE : Hid (w2.cell? ⟨b0, o0 + i * 3, none⟩ = some (.int .i64 (k : Int)) ∧ w2.cell? ⟨b0, o0 + i * 3 + 1, none⟩ = some (.int .u8 bb)) := HSE0
        refine wp_region_held_drew (S := fun w' => w'.cell? ⟨b0, o0 + i * 3, none⟩ = some (.int .i64 (k : Int)) ∧ w'.cell? ⟨b0, o0 + i * 3 + 1, none⟩ = some (.int .u8 bb)) (by kernel_rfl) (by rw [← hwd]; exact HSD.out) (fun hH => ?_)
        change wpAnyH _ _ _ _ _ _ _ _ (World.drew _)
        rw [← hwd]
        clear hH hwd hy0 hy1 hold hfrz hy2
        have hH := HSD.out
        refine held_take 0 32 (v := .slice (some ⟨g, 0, none⟩) L cap) rfl rfl (by kernel_rfl) (by kernel_rfl) (by kernel_rfl) (fun _ _ _ h => h) (Or.inl ⟨by kernel_rfl, fun w _ => by kernel_rfl⟩) hH ?_
        (try simp only [List.setIfInBounds_toArray, List.set_cons_zero, List.set_cons_succ])
        refine held_take 1 33 (v := .slice (some ⟨b0, o0, none⟩) m pc) rfl rfl (by kernel_rfl) (by kernel_rfl) (by kernel_rfl) (fun _ _ _ h => h) (Or.inl ⟨by kernel_rfl, fun w _ => by kernel_rfl⟩) hH ?_
        (try simp only [List.setIfInBounds_toArray, List.set_cons_zero, List.set_cons_succ])
        refine held_take 2 34 (v := .int .i64 (i : Int)) rfl rfl (by kernel_rfl) (by kernel_rfl) (by kernel_rfl) (fun _ _ _ h => h) (Or.inl ⟨by kernel_rfl, fun w _ => by kernel_rfl⟩) hH ?_
        (try simp only [List.setIfInBounds_toArray, List.set_cons_zero, List.set_cons_succ])
        refine held_take 3 35 (v := .pointer (some ⟨b0, o0 + i * 3, none⟩)) rfl rfl (by kernel_rfl) (by kernel_rfl) (by kernel_rfl) (fun _ _ _ h => h) (Or.inl ⟨by kernel_rfl, fun w _ => by have h1 := HII.out.1; have h2 := HII.out.2; go_simp⟩) hH ?_
        (try simp only [List.setIfInBounds_toArray, List.set_cons_zero, List.set_cons_succ])
        refine held_take 4 36 (v := .pointer (some ⟨b0, o0 + i * 3, none⟩)) rfl rfl (by kernel_rfl) (by kernel_rfl) (by kernel_rfl) (fun _ _ _ h => h) (Or.inl ⟨by kernel_rfl, fun w _ => by go_simp⟩) hH ?_
        (try simp only [List.setIfInBounds_toArray, List.set_cons_zero, List.set_cons_succ])
        refine held_take 5 37 (v := .int .i64 (k : Int)) rfl rfl (by kernel_rfl) (by kernel_rfl) (by kernel_rfl) (fun _ _ _ h => h) (Or.inl ⟨by kernel_rfl, fun w hSw => by
          have hcell := hSw.1
          go_simp⟩) hH ?_
        (try simp only [List.setIfInBounds_toArray, List.set_cons_zero, List.set_cons_succ])
        refine held_take 6 38 (v := .slice (some ⟨b0, o0, none⟩) m pc) rfl rfl (by kernel_rfl) (by kernel_rfl) (by kernel_rfl) (fun _ _ _ h => h) (Or.inl ⟨by kernel_rfl, fun w _ => by kernel_rfl⟩) hH ?_
        (try simp only [List.setIfInBounds_toArray, List.set_cons_zero, List.set_cons_succ])
        refine held_take 7 39 (v := .int .i64 (i : Int)) rfl rfl (by kernel_rfl) (by kernel_rfl) (by kernel_rfl) (fun _ _ _ h => h) (Or.inl ⟨by kernel_rfl, fun w _ => by kernel_rfl⟩) hH ?_
        (try simp only [List.setIfInBounds_toArray, List.set_cons_zero, List.set_cons_succ])
        refine held_take 8 40 (v := .pointer (some ⟨b0, o0 + i * 3, none⟩)) rfl rfl (by kernel_rfl) (by kernel_rfl) (by kernel_rfl) (fun _ _ _ h => h) (Or.inl ⟨by kernel_rfl, fun w _ => by have h1 := HII.out.1; have h2 := HII.out.2; go_simp⟩) hH ?_
        (try simp only [List.setIfInBounds_toArray, List.set_cons_zero, List.set_cons_succ])
        refine held_take 9 41 (v := .pointer (some ⟨b0, o0 + i * 3 + 1, none⟩)) rfl rfl (by kernel_rfl) (by kernel_rfl) (by kernel_rfl) (fun _ _ _ h => h) (Or.inl ⟨by kernel_rfl, fun w _ => by go_simp⟩) hH ?_
        (try simp only [List.setIfInBounds_toArray, List.set_cons_zero, List.set_cons_succ])
        refine held_take 10 42 (v := .int .u8 bb) rfl rfl (by kernel_rfl) (by kernel_rfl) (by kernel_rfl) (fun _ _ _ h => h) (Or.inl ⟨by kernel_rfl, fun w hSw => by
          have hcell := hSw.2
          go_simp⟩) hH ?_
        (try simp only [List.setIfInBounds_toArray, List.set_cons_zero, List.set_cons_succ])
        refine held_take 11 43 (v := .pointer (some ⟨g, k, none⟩)) rfl rfl (by kernel_rfl) (by kernel_rfl) (by kernel_rfl) (fun _ _ _ h => h) (Or.inl ⟨by kernel_rfl, fun w _ => by have h1 := HKK.out.1; have h2 := HKK.out.2; go_simp⟩) hH ?_
        (try simp only [List.setIfInBounds_toArray, List.set_cons_zero, List.set_cons_succ])
        refine wpAnyH_ready (rs := [12]) (by kernel_rfl) (by simp) ?_
        refine AllReadyH.cons (by simp only [List.getElem?_toArray, List.getElem?_cons_succ, List.getElem?_cons_zero]; rfl) (fun K hK => ?_) AllReadyH.nil
        go_simp
        refine hK.out _ _ HSE.out (fun hH => ?_)
        clear hK K hWd hold2 hfrz2
        refine wpAnyH_done (by kernel_rfl) ?_ _
        go_simp
        go_upto_region 7 with (fail)
        have hz2 := HZ2.out
        obtain ⟨hLn1, hLn2⟩ := HLB.out
        by_cases hq : q ≤ L
        · obtain ⟨r, hr⟩ : ∃ r : Nat, L - q = r := ⟨_, rfl⟩
          have hqq : (q : Int) ≤ (L : Int) := by omega
          have hrc : (r : Int) ≤ (cap : Int) := by have := HCAP.out; omega
          have HWW : Hid (IntKind.i64.wrap ((L : Int) - (q : Int)) = (r : Int) ∧ wrap64 (r : Int) = (r : Int)) := Lib.hid ⟨by rw [IntKind.wrap_i64]; omega, IntWalk.wrap64_in _ (by omega)⟩
          have HE : Hid (chg V xs (i + 1) = ((chg V xs i).set k bb).take r) := Lib.hid (by
            show cutEnd (setAt (chg V xs i) (V i).1 (V i).2.1) (V i).2.2 = _
            rw [HY.out, HQV.out]
            unfold cutEnd
            rw [if_pos (by rw [HYL.out]; exact hqq), HYL.out, Int.toNat_natCast, hr])
          have HEL : Hid ((chg V xs (i + 1)).length = r) := Lib.hid (by rw [HE.out, List.length_take, HYL.out]; omega)
          have HO2 : Hid (w2.ownsRow w.heap.size 5 1 (.slice (some ⟨g, 0, none⟩) r cap) r ((chg V xs (i + 1)).map (Value.int .u8))) := Lib.hid (by rw [HE.out]; exact own_cut15 HOY.out r (by omega))
          clear hq hr
          obtain ⟨hw1, hw2⟩ := HWW.out
          go_wp2_with fail
          clear hw1 hw2
          go_roundg (m - (i + 1))
          case rel => exact ⟨i + 1, r, HLT.out, rfl, HEL.out, rfl, congrArg (Value.int .i64) HNX.out, HO2, HPY⟩
          case measure => have := HGQ.out; have := HLT.out; omega
        · have hqq : ¬ (q : Int) ≤ (L : Int) := by omega
          have HE : Hid (chg V xs (i + 1) = (chg V xs i).set k bb) := Lib.hid (by
            show cutEnd (setAt (chg V xs i) (V i).1 (V i).2.1) (V i).2.2 = _
            rw [HY.out, HQV.out]
            unfold cutEnd
            rw [if_neg (by rw [HYL.out]; exact hqq)])
          have HEL : Hid ((chg V xs (i + 1)).length = L) := Lib.hid (by rw [HE.out, HYL.out])
          have HO2 : Hid (w2.ownsRow w.heap.size 5 1 (.slice (some ⟨g, 0, none⟩) L cap) L ((chg V xs (i + 1)).map (Value.int .u8))) := Lib.hid (by rw [HE.out]; exact HOY.out)
          clear hq
          go_wp2_with fail
          go_roundg (m - (i + 1))
          case rel => exact ⟨i + 1, L, HLT.out, rfl, HEL.out, rfl, congrArg (Value.int .i64) HNX.out, HO2, HPY⟩
          case measure => have := HGQ.out; have := HLT.out; omega
      · have hna : ¬ (0 ≤ a ∧ a < (L : Int)) := ha
        have HY : Hid (setAt (chg V xs i) (V i).1 (V i).2.1 = chg V xs i) := Lib.hid (by
          unfold setAt
          rw [hva, if_neg (by rw [hL]; exact hna)])
        have HYL : Hid ((chg V xs i).length = L) := Lib.hid hL
        have HOY := HO
        have HPY := HP
        clear hc hx0 hx1 hx2 hva hvb hvq hi hlt hL r10 r11 hnn hna
        by_cases ha1 : 0 ≤ a
        · have ha2 : ¬ a < (L : Int) := fun h => ha ⟨ha1, h⟩
          clear ha
          go_upto_region 7 with (fail)
          obtain ⟨hLn1, hLn2⟩ := HLB.out
          by_cases hq : q ≤ L
          · obtain ⟨r, hr⟩ : ∃ r : Nat, L - q = r := ⟨_, rfl⟩
            have hqq : (q : Int) ≤ (L : Int) := by omega
            have hrc : (r : Int) ≤ (cap : Int) := by have := HCAP.out; omega
            have HWW : Hid (IntKind.i64.wrap ((L : Int) - (q : Int)) = (r : Int) ∧ wrap64 (r : Int) = (r : Int)) := Lib.hid ⟨by rw [IntKind.wrap_i64]; omega, IntWalk.wrap64_in _ (by omega)⟩
            have HE : Hid (chg V xs (i + 1) = (chg V xs i).take r) := Lib.hid (by
              show cutEnd (setAt (chg V xs i) (V i).1 (V i).2.1) (V i).2.2 = _
              rw [HY.out, HQV.out]
              unfold cutEnd
              rw [if_pos (by rw [HYL.out]; exact hqq), HYL.out, Int.toNat_natCast, hr])
            have HEL : Hid ((chg V xs (i + 1)).length = r) := Lib.hid (by rw [HE.out, List.length_take, HYL.out]; omega)
            have HO2 : Hid (wr.ownsRow w.heap.size 5 1 (.slice (some ⟨g, 0, none⟩) r cap) r ((chg V xs (i + 1)).map (Value.int .u8))) := Lib.hid (by rw [HE.out]; exact own_cut15 HOY.out r (by omega))
            clear hq hr
            obtain ⟨hw1, hw2⟩ := HWW.out
            go_wp2_with fail
            clear hw1 hw2
            go_roundg (m - (i + 1))
            case rel => exact ⟨i + 1, r, HLT.out, rfl, HEL.out, rfl, congrArg (Value.int .i64) HNX.out, HO2, HPY⟩
            case measure => have := HGQ.out; have := HLT.out; omega
          · have hqq : ¬ (q : Int) ≤ (L : Int) := by omega
            have HE : Hid (chg V xs (i + 1) = chg V xs i) := Lib.hid (by
              show cutEnd (setAt (chg V xs i) (V i).1 (V i).2.1) (V i).2.2 = _
              rw [HY.out, HQV.out]
              unfold cutEnd
              rw [if_neg (by rw [HYL.out]; exact hqq)])
            have HEL : Hid ((chg V xs (i + 1)).length = L) := Lib.hid (by rw [HE.out, HYL.out])
            have HO2 : Hid (wr.ownsRow w.heap.size 5 1 (.slice (some ⟨g, 0, none⟩) L cap) L ((chg V xs (i + 1)).map (Value.int .u8))) := Lib.hid (by rw [HE.out]; exact HOY.out)
            clear hq
            go_wp2_with fail
            go_roundg (m - (i + 1))
            case rel => exact ⟨i + 1, L, HLT.out, rfl, HEL.out, rfl, congrArg (Value.int .i64) HNX.out, HO2, HPY⟩
            case measure => have := HGQ.out; have := HLT.out; omega
        · clear ha
          go_upto_region 7 with (fail)
          obtain ⟨hLn1, hLn2⟩ := HLB.out
          by_cases hq : q ≤ L
          · obtain ⟨r, hr⟩ : ∃ r : Nat, L - q = r := ⟨_, rfl⟩
            have hqq : (q : Int) ≤ (L : Int) := by omega
            have hrc : (r : Int) ≤ (cap : Int) := by have := HCAP.out; omega
            have HWW : Hid (IntKind.i64.wrap ((L : Int) - (q : Int)) = (r : Int) ∧ wrap64 (r : Int) = (r : Int)) := Lib.hid ⟨by rw [IntKind.wrap_i64]; omega, IntWalk.wrap64_in _ (by omega)⟩
            have HE : Hid (chg V xs (i + 1) = (chg V xs i).take r) := Lib.hid (by
              show cutEnd (setAt (chg V xs i) (V i).1 (V i).2.1) (V i).2.2 = _
              rw [HY.out, HQV.out]
              unfold cutEnd
              rw [if_pos (by rw [HYL.out]; exact hqq), HYL.out, Int.toNat_natCast, hr])
            have HEL : Hid ((chg V xs (i + 1)).length = r) := Lib.hid (by rw [HE.out, List.length_take, HYL.out]; omega)
            have HO2 : Hid (wr.ownsRow w.heap.size 5 1 (.slice (some ⟨g, 0, none⟩) r cap) r ((chg V xs (i + 1)).map (Value.int .u8))) := Lib.hid (by rw [HE.out]; exact own_cut15 HOY.out r (by omega))
            clear hq hr
            obtain ⟨hw1, hw2⟩ := HWW.out
            go_wp2_with fail
            clear hw1 hw2
            go_roundg (m - (i + 1))
            case rel => exact ⟨i + 1, r, HLT.out, rfl, HEL.out, rfl, congrArg (Value.int .i64) HNX.out, HO2, HPY⟩
            case measure => have := HGQ.out; have := HLT.out; omega
          · have hqq : ¬ (q : Int) ≤ (L : Int) := by omega
            have HE : Hid (chg V xs (i + 1) = chg V xs i) := Lib.hid (by
              show cutEnd (setAt (chg V xs i) (V i).1 (V i).2.1) (V i).2.2 = _
              rw [HY.out, HQV.out]
              unfold cutEnd
              rw [if_neg (by rw [HYL.out]; exact hqq)])
            have HEL : Hid ((chg V xs (i + 1)).length = L) := Lib.hid (by rw [HE.out, HYL.out])
            have HO2 : Hid (wr.ownsRow w.heap.size 5 1 (.slice (some ⟨g, 0, none⟩) L cap) L ((chg V xs (i + 1)).map (Value.int .u8))) := Lib.hid (by rw [HE.out]; exact HOY.out)
            clear hq
            go_wp2_with fail
            go_roundg (m - (i + 1))
            case rel => exact ⟨i + 1, L, HLT.out, rfl, HEL.out, rfl, congrArg (Value.int .i64) HNX.out, HO2, HPY⟩
            case measure => have := HGQ.out; have := HLT.out; omega
    · obtain rfl : i = m := by omega
      have HRG : Hid (∀ x ∈ chg V xs i, 0 ≤ x ∧ x < 256) := Lib.hid (by
        have : ∀ j, j ≤ i → ∀ x ∈ chg V xs j, 0 ≤ x ∧ x < 256 := by
          intro j
          induction j with
          | zero => exact fun _ => HRX.out
          | succ j ih => exact fun hj => cutEnd_rng (setAt_rng (ih (by omega)) (HC.out.rng j (by omega)).1)
        exact this i (Nat.le_refl _))
      have hnl : ¬ (i : Int) < (i : Int) := by omega
      clear hlt hi
      go_wp2_with fail
      go_ret
      exact ⟨_, rfl, by rw [HL.out]; exact HO.out, HRG.out, HP.out⟩
end Go.Proofs.YteflpbkdnebopaaGreatDoor
