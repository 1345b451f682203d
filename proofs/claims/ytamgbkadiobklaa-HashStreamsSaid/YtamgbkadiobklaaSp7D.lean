/- The sponge of package hash yields bytes. -/
import Derived.Test.YtamgbkadiobklaaSp7C
import Derived.Laws.MakeOwn
namespace Go.Proofs.Ytamgbkadiobklaa
open Go.RowKit

theorem make8 (N : Nat) (hN : N ≤ 1000000) (w : World) : (Instr.makeSlice 23 (.int .i64 (N : Int)) (.int .i64 (N : Int))).run Try.prog w = .ok (.slice (some ⟨w.heap.size, 0, none⟩) N N) (w.alloc (.cells (arr .u8 N fun _ => 0) 5)) := by
  obtain ⟨i0, hi, hz0, hz1, hz2⟩ := info_parts info8
  have h := run_make (P := Try.prog) w 23 5 i0 (.int .u8 0) Try.underlying23 hi hz0 .i64 .i64 (N : Int) (N : Int) (by omega) (Int.le_refl _) (by rw [hz2]; omega) (by omega)
  rw [hz1, Nat.mul_one, Int.toNat_natCast] at h
  have e : madeCells (Value.cells (.int .u8 0)) N = arr .u8 N fun _ => 0 := by
    refine arr_of _ (size_madeCells _ _) fun i hi => ?_
    simp [madeCells, hi, Value.cells, Nat.mod_one]
  rw [e] at h
  exact h

/-- The blocks while bytes are read: the sponge, the result. -/
def NB (w wx : World) (g h : Nat) (t : TypeId) (A : Nat → Lane) (R k N i : Nat) : Prop :=
  SP wx g t (kbyte (rsq A ((k + i - 1) / R))) R (AU R (k + i)) ((k + i - 1) / R) ∧ LM .u8 wx h 5 N (fun j => if j < i then rout A R (k + j) else 0) ∧ w.grownBy wx (some g) ∧ g < h

/-- What next does. -/
def Nx (w w' : World) (g : Nat) (t : TypeId) (A : Nat → Lane) (R k N : Nat) (e : Ending) : Prop :=
  ∃ P c, e = .returned (.slice P N c) ∧ w'.ownsRow w.heap.size 5 1 (.slice P N c) N ((bl (fun j => rout A R (k + j)) N).map (Value.int .u8)) ∧ w.grownBy w' (some g) ∧
    SP w' g t (kbyte (rsq A ((k + N - 1) / R))) R (AU R (k + N)) ((k + N - 1) / R)

theorem hnext_neg (A : Nat → Lane) (g : Nat) (t : TypeId) (R k : Nat) (N : Int) (w : World) (hN : N < 0) (h : SP w g t (kbyte (rsq A ((k - 1) / R))) R (AU R k) ((k - 1) / R)) :
    Calls Try.prog 25 #[.pointer (some ⟨g, 0, none⟩), .int .i64 N] w fun e w' => Nx w w' g t A R k N.toNat e := by
  have H := Lib.hid h
  clear h
  have h0 : N.toNat = 0 := by omega
  rw [h0]
  go_enter Try.func25, Try.ntmps25
  go_wp2_with fail
  go_ret
  exact ⟨none, 0, rfl, World.ownsRow_nil _ _ _ _, World.grownBy.refl _ _, H.out⟩

set_option maxHeartbeats 4000000 in
set_option maxRecDepth 100000 in
theorem hnext_pos (A : Nat → Lane) (g : Nat) (t : TypeId) (R k N : Nat) (w : World) (hR : 0 < R) (hR2 : R ≤ 200) (hk : k ≤ 100000000) (hN : N ≤ 1000000) (h : SP w g t (kbyte (rsq A ((k - 1) / R))) R (AU R k) ((k - 1) / R)) :
    Calls Try.prog 25 #[.pointer (some ⟨g, 0, none⟩), .int .i64 (N : Int)] w fun e w' => Nx w w' g t A R k N e := by
  have hmk := make8 N hN w
  have hN0 : (N : Int) ≤ 1000000 := by omega
  have H0 : Hid (NB w (w.alloc (.cells (arr .u8 N fun _ => 0) 5)) g w.heap.size t A R k N 0) :=
    Lib.hid ⟨Row.alloc h _, by simpa using Row.new w 5 (arr .u8 N fun _ => 0), only_of_past (past_alloc6 _ _) _, Row.lt h⟩
  clear h
  go_enter Try.func25, Try.ntmps25
  go_wp2_with fail
  generalize w.alloc (.cells (arr .u8 N fun _ => 0) 5) = w2 at *
  obtain ⟨h, hh⟩ : ∃ h, w.heap.size = h := ⟨_, rfl⟩
  rw [hh] at H0 ⊢
  have HH := Lib.hid hh
  clear hh hmk
  go_loopg [17] N (fun q s17 wx => ∃ i : Nat, i ≤ N ∧ q = N - i ∧ s17 = .int .i64 (i : Int) ∧ Hid (NB w wx g h t A R k N i))
  case atStart => exact ⟨0, Nat.zero_le _, rfl, rfl, H0⟩
  case round =>
    clear H0
    obtain ⟨i, hi, hgk, rfl, HQ⟩ := hrel
    have HGK := Lib.hid hgk
    clear hgk
    by_cases hlt : i < N
    · have hi0 : (i : Int) < (N : Int) := by omega
      have hii : (0 : Int) ≤ (i : Int) := by omega
      have HO := Lib.hid (hopen_out A g t R (k + i) wr hR (by omega) HQ.out.1)
      have hu := Nat.mod_lt (k + i) hR
      obtain ⟨u, hue⟩ : ∃ u, (k + i) % R = u := ⟨_, rfl⟩
      obtain ⟨x, hx⟩ : ∃ x, rout A R (k + i) = x := ⟨_, rfl⟩
      have hx' : kbyte (rsq A ((k + i) / R)) u = x := by rw [← hx, ← hue]; rfl
      have HX := Lib.hid hx'
      have HX2 := Lib.hid hx
      have HU : Hid (AU R (k + (i + 1)) = u + 1) := by
        rw [← hue]
        exact AU_succ R (k + i)
      rw [hue] at HO hu
      clear hue hx hx'
      have hu0 : (u : Int) < 200 := by omega
      have hu1 : u < 200 := by omega
      go_wp2_with fail
      refine HO.out.mono ?_
      rintro e w1 ⟨rfl, hs, hg⟩
      have H1 : Hid (SP w1 g t (kbyte (rsq A ((k + i) / R))) R u ((k + i) / R) ∧ LM .u8 w1 h 5 N (fun j => if j < i then rout A R (k + j) else 0) ∧ w.grownBy w1 (some g) ∧ g < h) := by
        obtain ⟨q1, q2, q3, q4⟩ := HQ.out
        exact Lib.hid ⟨hs, Row.grown q2 hg (by simp; omega), only_trans q3 hg, q4⟩
      clear hs hg HO HQ
      have k0 : w1.drew.cell? ⟨g, 201, none⟩ = some (.int .i64 (u : Int)) := SP.used H1.out.1
      have k1 : w1.drew.cell? ⟨g, u, none⟩ = some (.int .u8 x) := by
        have := SP.byte H1.out.1 u hu1
        rwa [HX.out] at this
      have k2 : w1.drew.cell? ⟨h, i, none⟩ = some (.int .u8 (if i < i then rout A R (k + i) else 0)) := LM.at H1.out.2.1 i hlt
      have f2 : w1.drew.frozen? ⟨h, i, none⟩ = false := Row.fr H1.out.2.1 i
      have H2 : Hid (SP (w1.setCell ⟨h, i, none⟩ (.int .u8 x)).drew g t (kbyte (rsq A ((k + i) / R))) R u ((k + i) / R) ∧ LM .u8 (w1.setCell ⟨h, i, none⟩ (.int .u8 x)).drew h 5 N (fun j => if j < i + 1 then rout A R (k + j) else 0) ∧ w.grownBy (w1.setCell ⟨h, i, none⟩ (.int .u8 x)).drew (some g) ∧ g < h) := by
        obtain ⟨q1, q2, q3, q4⟩ := H1.out
        refine Lib.hid ⟨Row.drewN (Row.setOther q1 (by omega) i _) 1, Row.drewN ((LM.put q2 i hlt x).same fun j _ => ?_) 1, only_drewN (only_setCell q3 (.inr (by rw [HH.out]; exact Nat.le_refl _)) _) 1, q4⟩
        by_cases e : j = i
        · subst e
          rw [upd_at, if_pos (by omega), HX2.out]
        · rw [upd_ne _ _ e]
          by_cases c : j < i
          · rw [if_pos c, if_pos (by omega)]
          · rw [if_neg c, if_neg (by omega)]
      clear H1
      go_wp2_with fail
      go_region
      all_goals
        generalize (w1.setCell ⟨h, i, none⟩ (.int .u8 x)).drew = w3 at *
        have k3 : w3.cell? ⟨g, 201, none⟩ = some (.int .i64 (u : Int)) := SP.used H2.out.1
        have f3 : w3.frozen? ⟨g, 201, none⟩ = false := Row.fr H2.out.1 201
        have H3 : Hid (NB w (w3.setCell ⟨g, 201, none⟩ (.int .i64 ((u : Int) + 1))) g h t A R k N (i + 1)) := by
          obtain ⟨q1, q2, q3, q4⟩ := H2.out
          refine Lib.hid ⟨?_, Row.setOther q2 (by omega) _ _, only_setCell q3 (.inl rfl) _, q4⟩
          rw [HU.out]
          exact SP.putU q1 (u + 1)
        clear H2 k0 k1 k2 f2
        go_wp2_with fail
        go_roundg (N - (i + 1))
        case rel => exact ⟨i + 1, by omega, rfl, by go_num, H3⟩
        case measure => have := HGK.out; omega
    · obtain rfl : i = N := by omega
      go_wp2_with fail
      go_ret
      obtain ⟨q1, q2, q3, q4⟩ := HQ.out
      refine ⟨_, _, rfl, ⟨by simp [bl_len], .inr ⟨h, i, _, rfl, by rw [HH.out]; exact Nat.le_refl _, q2, Nat.le_refl _, by unfold maxLen; omega, by rw [arr_size, Nat.mul_one], ?_⟩⟩, q3, q1⟩
      rw [Nat.mul_one, List.take_of_length_le (by rw [Array.length_toList, arr_size]; exact Nat.le_refl _)]
      unfold arr bl
      rw [List.toList_toArray, List.map_map]
      exact List.map_congr_left fun j hj => by
        have := List.mem_range.1 hj
        simp [this]

theorem hnext_any (A : Nat → Lane) (g : Nat) (t : TypeId) (R k : Nat) (N : Int) (w : World) (hR : 0 < R) (hR2 : R ≤ 200) (hk : k ≤ 100000000) (hN : N ≤ 1000000) (h : SP w g t (kbyte (rsq A ((k - 1) / R))) R (AU R k) ((k - 1) / R)) :
    Calls Try.prog 25 #[.pointer (some ⟨g, 0, none⟩), .int .i64 N] w fun e w' => Nx w w' g t A R k N.toNat e := by
  by_cases h0 : N < 0
  · exact hnext_neg A g t R k N w h0 h
  · obtain ⟨M, rfl⟩ : ∃ M : Nat, N = (M : Int) := ⟨N.toNat, by omega⟩
    rw [Int.toNat_natCast]
    exact hnext_pos A g t R k M w hR hR2 hk (by omega) h

end Go.Proofs.Ytamgbkadiobklaa
