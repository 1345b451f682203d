/- The program's all: the algorithms that a function fits. -/
import Derived.Test.YtnjoccmjembppaaDoorPm13G
import Derived.Shelf.Abstract
namespace Go.Proofs.YtnjoccmjembppaaDoor
open Go.RowKit Go.Shelf
set_option linter.unusedVariables false

theorem info64 : (Tryd.prog.info? 3).map (fun i => (i.zero, i.size, i.bytes)) = some (some (.int .i64 0), 1, 8) := by kernel_rfl
/-- The first algorithms that a predicate fits. -/
def algs (p : Int → Bool) (k : Nat) : List Int := ((List.range k).map fun j => ((j : Nat) : Int) + 1).filter p
theorem algs_succ (p : Int → Bool) (k : Nat) : algs p (k + 1) = algs p k ++ (if p ((k : Int) + 1) = true then [(k : Int) + 1] else []) := by
  unfold algs
  rw [List.range_succ, List.map_append, List.filter_append]
  congr 1
  simp only [List.map_cons, List.map_nil, List.filter_cons, List.filter_nil]
theorem algs_len (p : Int → Bool) (k : Nat) : (algs p k).length ≤ k := by
  unfold algs
  refine Nat.le_trans (List.length_filter_le _ _) ?_
  simp
theorem own_keep13 {w w' : World} {base : Nat} {e : TypeId} {size : Nat} {v : Value} {n : Nat} {xs : List Value} (h : w.ownsRow base e size v n xs) (hp : Past w w') : w'.ownsRow base e size v n xs :=
  h.kept (only_of_past hp none) (by cases v.ownBlock <;> simp)

set_option maxHeartbeats 4000000 in
set_option maxRecDepth 100000 in
theorem all1_any (fn : FuncId) (eg : ∀ args w, (callFunc fn args).run Tryd.prog w = .ok (.enter fn args) w) (b : Value) (p : Int → Bool) (w : World) (hG : Glob13 w)
    (hc : ∀ (a : Int) (W : World), 1 ≤ a → a ≤ 25 → Past w W → Calls Tryd.prog fn #[setV (row13 a) (.slice none 0 0), .string (row13 a).text, b] W fun e w' => e = .returned (.bool (p a)) ∧ Past W w') :
    Calls Tryd.prog 30 #[.func (.func fn) #[] #[b]] w fun e w' => ∃ A c, e = .returned (.slice A (algs p 25).length c) ∧ w'.ownsRow w.heap.size 3 1 (.slice A (algs p 25).length c) (algs p 25).length ((algs p 25).map (Value.int .i64)) ∧ Past w w' := by
  obtain ⟨i0, hi, hz0, hz1, hz2⟩ := info_parts info64
  have HG := Lib.hid hG
  have HC := Lib.hid hc
  have HRW := Lib.hid (fun a w hG => row_any a w hG)
  unfold RowP at HRW
  clear hG hc
  go_enter Tryd.func30, Tryd.ntmps30
  go_wp2_with fail
  go_loopg [3, 4] 25 (fun q s3 s4 wx => ∃ (k i : Nat) (A : Option Addr) (c : Nat), k ≤ 25 ∧ q = 25 - k ∧ i = k + 1 ∧ s3 = .slice A (algs p k).length c ∧ s4 = .int .i64 (i : Int) ∧ Hid (wx.ownsRow w.heap.size 3 1 (.slice A (algs p k).length c) (algs p k).length ((algs p k).map (Value.int .i64)) ∧ Past w wx))
  case atStart => exact ⟨0, 1, none, 0, Nat.zero_le _, rfl, rfl, rfl, rfl, Lib.hid ⟨World.ownsRow_nil _ _ _ _, Below.refl _ _⟩⟩
  case round =>
    obtain ⟨k, i, A, c, hk, hgk, hik, rfl, rfl, HO⟩ := hrel
    have HGK := Lib.hid hgk
    have HK := Lib.hid hk
    have HIK := Lib.hid hik
    obtain ⟨iI, hiI⟩ : ∃ iI : Int, (i : Int) = iI := ⟨_, rfl⟩
    have HII := Lib.hid hiI
    rw [hiI]
    by_cases hlt : k < 25
    · have hin : iI ≤ 25 := by omega
      have HLT := Lib.hid hlt
      have h1i : Hid (1 ≤ iI ∧ iI ≤ 25) := Lib.hid (by omega)
      obtain ⟨jI, hjI⟩ : ∃ jI : Int, iI + 1 = jI := ⟨_, rfl⟩
      have hwj : IntKind.i64.wrap (iI + 1) = jI := by rw [IntKind.wrap_i64]; omega
      have HJ := Lib.hid hjI
      have hsz : (algs p k).length ≤ 25 := by have := algs_len p k; omega
      obtain ⟨L, hL⟩ : ∃ L, (algs p k).length = L := ⟨_, rfl⟩
      have HLn := Lib.hid hL
      rw [hL] at HO hsz ⊢
      clear hk hgk hik hiI hlt hjI hL
      go_wp2_with fail
      refine (HRW.out iI _ (HG.out.past HO.out.2)).mono ?_
      rintro e w2 ⟨rfl, hp⟩
      have H2 : Hid (w2.ownsRow w.heap.size 3 1 (.slice A L c) L ((algs p k).map (Value.int .i64)) ∧ Past w w2) := Lib.hid ⟨own_keep13 HO.out.1 hp, HO.out.2.trans' hp⟩
      clear hp HO
      go_wp2_with fail
      refine (HC.out iI w2 h1i.out.1 h1i.out.2 H2.out.2).mono ?_
      rintro e w3 ⟨rfl, hp⟩
      have H3 : Hid (w3.ownsRow w.heap.size 3 1 (.slice A L c) L ((algs p k).map (Value.int .i64)) ∧ Past w w3) := Lib.hid ⟨own_keep13 H2.out.1 hp, H2.out.2.trans' hp⟩
      clear hp H2
      cases hpi : p iI with
      | false =>
        have HS : Hid (algs p (k + 1) = algs p k) := Lib.hid (by rw [algs_succ, show ((k : Int) + 1) = iI by have := HIK.out; have := HII.out; omega, hpi]; simp)
        clear hpi
        go_wp2_with fail
        go_roundg (25 - (k + 1))
        case rel => exact ⟨k + 1, i + 1, A, c, HLT.out, rfl, by have := HIK.out; omega, by rw [HS.out, HLn.out], by first | go_num | (congr 1; have := HII.out; have := HJ.out; omega), by rw [HS.out, HLn.out]; exact H3⟩
        case measure => have := HGK.out; have := HLT.out; omega
      | true =>
        have HS : Hid (algs p (k + 1) = algs p k ++ [iI]) := Lib.hid (by rw [algs_succ, show ((k : Int) + 1) = iI by have := HIK.out; have := HII.out; omega, hpi]; simp)
        clear hpi
        go_wp2_with (at_builtin; refine wpList_append_own _ rfl _ _ 40 rfl w.heap.size 3 i0 (.int .i64 0) 1 8 Tryd.underlying40 hi hz0 hz1 hz2 rfl (by decide) _ L _ rfl (H3.out.1.alloc _) ⟨w3.heap.size, 0, none⟩ 1 1 [.int .i64 iI] rfl rfl ?c1 ?c2 ?c3 ?c4 ?c5 ?_)
        case c1 =>
          intro j u hj
          cases j with
          | zero =>
            simp at hj
            subst hj
            rw [add_none, World.cell?_alloc_new]
            rfl
          | succ j => simp at hj
        case c2 => simp [Value.oneCell']
        case c3 => unfold maxLen; omega
        case c4 => omega
        case c5 => exact Nat.le_trans H3.out.2.size (by simp)
        intro v' w4 hown1 hgrow1 _
        obtain ⟨B3, d3, rfl⟩ := own_slice hown1
        have HO2 : Hid (w4.ownsRow w.heap.size 3 1 (.slice B3 (L + 1) d3) (L + 1) ((algs p k ++ [iI]).map (Value.int .i64)) ∧ Past w w4) := Lib.hid (by
          rw [List.map_append]
          exact ⟨hown1, (H3.out.2.trans' ((Below.refl _ _).alloc (Nat.le_refl _) _)).grown hgrow1 (Nat.le_trans H3.out.2.size (by simp)) (own_block_ge H3.out.1)⟩)
        have HLn2 : Hid ((algs p k ++ [iI]).length = L + 1) := Lib.hid (by rw [List.length_append, HLn.out]; rfl)
        clear hown1 hgrow1 H3
        go_wp2_with fail
        go_roundg (25 - (k + 1))
        case rel => exact ⟨k + 1, i + 1, B3, d3, HLT.out, rfl, by have := HIK.out; omega, by rw [HS.out, HLn2.out], by first | go_num | (congr 1; have := HII.out; have := HJ.out; omega), by rw [HS.out, HLn2.out]; exact HO2⟩
        case measure => have := HGK.out; have := HLT.out; omega
    · obtain rfl : k = 25 := by omega
      have hin : ¬ iI ≤ 25 := by omega
      clear hk hgk hik hiI hlt
      go_wp2_with fail
      go_ret
      exact ⟨A, c, rfl, HO.out.1, HO.out.2⟩

set_option maxHeartbeats 4000000 in
set_option maxRecDepth 100000 in
theorem all2_any (fn : FuncId) (eg : ∀ args w, (callFunc fn args).run Tryd.prog w = .ok (.enter fn args) w) (b b2 : Value) (p : Int → Bool) (w : World) (hG : Glob13 w)
    (hc : ∀ (a : Int) (W : World), 1 ≤ a → a ≤ 25 → Past w W → Calls Tryd.prog fn #[setV (row13 a) (.slice none 0 0), .string (row13 a).text, b, b2] W fun e w' => e = .returned (.bool (p a)) ∧ Past W w') :
    Calls Tryd.prog 30 #[.func (.func fn) #[] #[b, b2]] w fun e w' => ∃ A c, e = .returned (.slice A (algs p 25).length c) ∧ w'.ownsRow w.heap.size 3 1 (.slice A (algs p 25).length c) (algs p 25).length ((algs p 25).map (Value.int .i64)) ∧ Past w w' := by
  obtain ⟨i0, hi, hz0, hz1, hz2⟩ := info_parts info64
  have HG := Lib.hid hG
  have HC := Lib.hid hc
  have HRW := Lib.hid (fun a w hG => row_any a w hG)
  unfold RowP at HRW
  clear hG hc
  go_enter Tryd.func30, Tryd.ntmps30
  go_wp2_with fail
  go_loopg [3, 4] 25 (fun q s3 s4 wx => ∃ (k i : Nat) (A : Option Addr) (c : Nat), k ≤ 25 ∧ q = 25 - k ∧ i = k + 1 ∧ s3 = .slice A (algs p k).length c ∧ s4 = .int .i64 (i : Int) ∧ Hid (wx.ownsRow w.heap.size 3 1 (.slice A (algs p k).length c) (algs p k).length ((algs p k).map (Value.int .i64)) ∧ Past w wx))
  case atStart => exact ⟨0, 1, none, 0, Nat.zero_le _, rfl, rfl, rfl, rfl, Lib.hid ⟨World.ownsRow_nil _ _ _ _, Below.refl _ _⟩⟩
  case round =>
    obtain ⟨k, i, A, c, hk, hgk, hik, rfl, rfl, HO⟩ := hrel
    have HGK := Lib.hid hgk
    have HK := Lib.hid hk
    have HIK := Lib.hid hik
    obtain ⟨iI, hiI⟩ : ∃ iI : Int, (i : Int) = iI := ⟨_, rfl⟩
    have HII := Lib.hid hiI
    rw [hiI]
    by_cases hlt : k < 25
    · have hin : iI ≤ 25 := by omega
      have HLT := Lib.hid hlt
      have h1i : Hid (1 ≤ iI ∧ iI ≤ 25) := Lib.hid (by omega)
      obtain ⟨jI, hjI⟩ : ∃ jI : Int, iI + 1 = jI := ⟨_, rfl⟩
      have hwj : IntKind.i64.wrap (iI + 1) = jI := by rw [IntKind.wrap_i64]; omega
      have HJ := Lib.hid hjI
      have hsz : (algs p k).length ≤ 25 := by have := algs_len p k; omega
      obtain ⟨L, hL⟩ : ∃ L, (algs p k).length = L := ⟨_, rfl⟩
      have HLn := Lib.hid hL
      rw [hL] at HO hsz ⊢
      clear hk hgk hik hiI hlt hjI hL
      go_wp2_with fail
      refine (HRW.out iI _ (HG.out.past HO.out.2)).mono ?_
      rintro e w2 ⟨rfl, hp⟩
      have H2 : Hid (w2.ownsRow w.heap.size 3 1 (.slice A L c) L ((algs p k).map (Value.int .i64)) ∧ Past w w2) := Lib.hid ⟨own_keep13 HO.out.1 hp, HO.out.2.trans' hp⟩
      clear hp HO
      go_wp2_with fail
      refine (HC.out iI w2 h1i.out.1 h1i.out.2 H2.out.2).mono ?_
      rintro e w3 ⟨rfl, hp⟩
      have H3 : Hid (w3.ownsRow w.heap.size 3 1 (.slice A L c) L ((algs p k).map (Value.int .i64)) ∧ Past w w3) := Lib.hid ⟨own_keep13 H2.out.1 hp, H2.out.2.trans' hp⟩
      clear hp H2
      cases hpi : p iI with
      | false =>
        have HS : Hid (algs p (k + 1) = algs p k) := Lib.hid (by rw [algs_succ, show ((k : Int) + 1) = iI by have := HIK.out; have := HII.out; omega, hpi]; simp)
        clear hpi
        go_wp2_with fail
        go_roundg (25 - (k + 1))
        case rel => exact ⟨k + 1, i + 1, A, c, HLT.out, rfl, by have := HIK.out; omega, by rw [HS.out, HLn.out], by first | go_num | (congr 1; have := HII.out; have := HJ.out; omega), by rw [HS.out, HLn.out]; exact H3⟩
        case measure => have := HGK.out; have := HLT.out; omega
      | true =>
        have HS : Hid (algs p (k + 1) = algs p k ++ [iI]) := Lib.hid (by rw [algs_succ, show ((k : Int) + 1) = iI by have := HIK.out; have := HII.out; omega, hpi]; simp)
        clear hpi
        go_wp2_with (at_builtin; refine wpList_append_own _ rfl _ _ 40 rfl w.heap.size 3 i0 (.int .i64 0) 1 8 Tryd.underlying40 hi hz0 hz1 hz2 rfl (by decide) _ L _ rfl (H3.out.1.alloc _) ⟨w3.heap.size, 0, none⟩ 1 1 [.int .i64 iI] rfl rfl ?c1 ?c2 ?c3 ?c4 ?c5 ?_)
        case c1 =>
          intro j u hj
          cases j with
          | zero =>
            simp at hj
            subst hj
            rw [add_none, World.cell?_alloc_new]
            rfl
          | succ j => simp at hj
        case c2 => simp [Value.oneCell']
        case c3 => unfold maxLen; omega
        case c4 => omega
        case c5 => exact Nat.le_trans H3.out.2.size (by simp)
        intro v' w4 hown1 hgrow1 _
        obtain ⟨B3, d3, rfl⟩ := own_slice hown1
        have HO2 : Hid (w4.ownsRow w.heap.size 3 1 (.slice B3 (L + 1) d3) (L + 1) ((algs p k ++ [iI]).map (Value.int .i64)) ∧ Past w w4) := Lib.hid (by
          rw [List.map_append]
          exact ⟨hown1, (H3.out.2.trans' ((Below.refl _ _).alloc (Nat.le_refl _) _)).grown hgrow1 (Nat.le_trans H3.out.2.size (by simp)) (own_block_ge H3.out.1)⟩)
        have HLn2 : Hid ((algs p k ++ [iI]).length = L + 1) := Lib.hid (by rw [List.length_append, HLn.out]; rfl)
        clear hown1 hgrow1 H3
        go_wp2_with fail
        go_roundg (25 - (k + 1))
        case rel => exact ⟨k + 1, i + 1, B3, d3, HLT.out, rfl, by have := HIK.out; omega, by rw [HS.out, HLn2.out], by first | go_num | (congr 1; have := HII.out; have := HJ.out; omega), by rw [HS.out, HLn2.out]; exact HO2⟩
        case measure => have := HGK.out; have := HLT.out; omega
    · obtain rfl : k = 25 := by omega
      have hin : ¬ iI ≤ 25 := by omega
      clear hk hgk hik hiI hlt
      go_wp2_with fail
      go_ret
      exact ⟨A, c, rfl, HO.out.1, HO.out.2⟩

end Go.Proofs.YtnjoccmjembppaaDoor
