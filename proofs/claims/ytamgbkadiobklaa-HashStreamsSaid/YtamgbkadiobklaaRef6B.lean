/- Contracts of the reference of Keccak: the constants of rounds. -/
import Derived.Test.YtamgbkadiobklaaK
namespace Go.Proofs.Ytamgbkadiobklaa
open Go.RowKit

def pl (i : Nat) : Nat := [0, 1, 3, 7, 15, 31, 63].getD i 0
def cstep (s : Nat × List Nat) (t : Nat) : Nat × List Nat :=
  (if 256 ≤ 2 * s.1 then (2 * s.1) ^^^ 369 else 2 * s.1, if s.1 % 2 = 1 then s.2.set (t / 7) (s.2.getD (t / 7) 0 + 2 ^ pl (t % 7)) else s.2)
def cS (n : Nat) : Nat × List Nat := (List.range n).foldl cstep (1, List.replicate 24 0)
theorem cS_succ (n : Nat) : cS (n + 1) = cstep (cS n) n := by simp [cS, List.range_succ]
theorem cS_ok : ∀ t : Fin 168, (cS t.val).1 < 256 ∧ (cS t.val).2.length = 24 ∧ (cS t.val).2.getD (t.val / 7) 0 + 2 ^ pl (t.val % 7) < 18446744073709551616 := by decide +kernel
def rcs : List Nat := [0x1, 0x8082, 0x800000000000808a, 0x8000000080008000, 0x808b, 0x80000001, 0x8000000080008081, 0x8000000000008009, 0x8a, 0x88, 0x80008009, 0x8000000a, 0x8000808b, 0x800000000000008b, 0x8000000000008089, 0x8000000000008003, 0x8000000000008002, 0x8000000000000080, 0x800a, 0x800000008000000a, 0x8000000080008081, 0x8000000000008080, 0x80000001, 0x8000000080008008]
theorem cS_all : (cS 168).2 = rcs := by decide +kernel
def rcF (i : Nat) : Int := (rcs.getD i 0 : Nat)

theorem arr_zero24 : (#[Value.int IntKind.u64 0, .int .u64 0, .int .u64 0, .int .u64 0, .int .u64 0, .int .u64 0, .int .u64 0, .int .u64 0, .int .u64 0, .int .u64 0, .int .u64 0, .int .u64 0, .int .u64 0, .int .u64 0, .int .u64 0, .int .u64 0, .int .u64 0, .int .u64 0, .int .u64 0, .int .u64 0, .int .u64 0, .int .u64 0, .int .u64 0, .int .u64 0] : Array Value) = arr .u64 24 fun _ => 0 := rfl

/-- What stands while the constants are made. -/
def CW (w wx : World) (g : Nat) (s : List Nat) : Prop :=
  Past w wx ∧ Row wx g 73 (arr .u64 24 fun _ => 0) ∧ LM .u64 wx (g + 1) 73 24 (fun i => (s.getD i 0 : Nat)) ∧ LM .u64 wx (g + 1 + 1) 70 7 fun i => (pl i : Nat)
theorem CW.new (w : World) : CW w (((w.alloc (.cells (arr .u64 24 fun _ => 0) 73)).alloc (.cells (arr .u64 24 fun _ => 0) 73)).alloc (.cells #[.int .u64 0, .int .u64 1, .int .u64 3, .int .u64 7, .int .u64 15, .int .u64 31, .int .u64 63] 70)) w.heap.size (cS 0).2 := by
  refine ⟨(((Below.refl _ _).alloc (Nat.le_refl _) _).alloc (by simp) _).alloc (by simp; omega) _, ((Row.new w _ _).alloc _).alloc _, ?_, ?_⟩
  · have e : arr .u64 24 (fun _ => 0) = arr .u64 24 fun i => ((cS 0).2.getD i 0 : Nat) := by rfl
    have := (Row.new (w.alloc (.cells (arr .u64 24 fun _ => 0) 73)) 73 (arr .u64 24 fun _ => 0)).alloc (.cells #[.int .u64 0, .int .u64 1, .int .u64 3, .int .u64 7, .int .u64 15, .int .u64 31, .int .u64 63] 70)
    unfold LM
    rw [← e]
    simpa using this
  · have e : #[Value.int IntKind.u64 0, .int .u64 1, .int .u64 3, .int .u64 7, .int .u64 15, .int .u64 31, .int .u64 63] = arr .u64 7 fun i => (pl i : Nat) := by rfl
    have := Row.new ((w.alloc (.cells (arr .u64 24 fun _ => 0) 73)).alloc (.cells (arr .u64 24 fun _ => 0) 73)) 70 #[.int .u64 0, .int .u64 1, .int .u64 3, .int .u64 7, .int .u64 15, .int .u64 31, .int .u64 63]
    unfold LM
    rw [← e]
    simpa using this
theorem CW.put {w wx : World} {g : Nat} {s : List Nat} (h : CW w wx g s) (hg : w.heap.size ≤ g) (i : Nat) (hi : i < 24) (hs : s.length = 24) (v : Nat) : CW w (wx.setCell ⟨g + 1, i, none⟩ (.int .u64 (v : Int))) g (s.set i v) :=
  ⟨h.1.set (by show _ ≤ g + 1; omega) _, h.2.1.setOther (by omega) _ _, (h.2.2.1.put i hi v).same fun j hj => by
    by_cases e : j = i
    · subst e
      rw [upd_at, List.getD_eq_getElem?_getD, List.getElem?_set_self (by omega)]
      rfl
    · rw [upd_ne _ _ e, List.getD_eq_getElem?_getD, List.getD_eq_getElem?_getD, List.getElem?_set_ne (by omega)], h.2.2.2.setOther (by omega) _ _⟩
theorem CW.drewN {w wx : World} {g : Nat} {s : List Nat} (h : CW w wx g s) (m : Nat) : CW w (wx.drewN m) g s := ⟨h.1.drewN m, h.2.1, h.2.2.1, h.2.2.2⟩
theorem pl_lt (i : Nat) (h : i < 7) : pl i < 64 := by
  have : i = 0 ∨ i = 1 ∨ i = 2 ∨ i = 3 ∨ i = 4 ∨ i = 5 ∨ i = 6 := by omega
  rcases this with rfl | rfl | rfl | rfl | rfl | rfl | rfl <;> decide
theorem pow_cast (p : Nat) : ((2 ^ p : Nat) : Int) = (2 : Int) ^ p := Int.natCast_pow 2 p

theorem x369 : ∀ r : Fin 256, bits .xor .i64 (2 * (r.val : Int)) 369 = (((2 * r.val) ^^^ 369 : Nat) : Int) := by decide +kernel

set_option maxHeartbeats 1000000 in
set_option maxRecDepth 100000 in
theorem constants_any (w : World) : Calls Try.prog 43 #[] w fun e w' => e = .returned (.agg (arr .u64 24 rcF)) ∧ Past w w' := by
  have H0 := Lib.hid (CW.new w)
  go_enter Try.func43, Try.ntmps43
  go_wp2_with fail
  rw [arr_zero24]
  generalize ((w.alloc (.cells (arr .u64 24 fun _ => 0) 73)).alloc (.cells (arr .u64 24 fun _ => 0) 73)).alloc (.cells #[.int .u64 0, .int .u64 1, .int .u64 3, .int .u64 7, .int .u64 15, .int .u64 31, .int .u64 63] 70) = w3 at *
  obtain ⟨g, hg⟩ : ∃ g, w.heap.size = g := ⟨_, rfl⟩
  have hge : w.heap.size ≤ g := by omega
  rw [hg] at H0 ⊢
  clear hg
  go_loopg [2, 4] 168 (fun k s2 s4 wx => ∃ t : Nat, t ≤ 168 ∧ k = 168 - t ∧ s2 = .int .i64 (((cS t).1 : Nat) : Int) ∧ s4 = .int .i64 (t : Int) ∧ Hid (CW w wx g (cS t).2))
  case atStart => exact ⟨0, Nat.zero_le _, rfl, rfl, rfl, H0⟩
  case round =>
    clear H0
    obtain ⟨t, ht, hgk, rfl, rfl, HQ⟩ := hrel
    have HGK := Lib.hid hgk
    clear hgk
    by_cases hlt : t < 168
    · obtain ⟨k1, k2, k3⟩ := cS_ok ⟨t, hlt⟩
      have HS := Lib.hid (cS_succ t)
      have hp := pl_lt (t % 7) (by omega)
      have hc1 := HQ.out.2.2.1.at (t / 7) (by omega)
      have hf1 := HQ.out.2.2.1.fr (t / 7)
      have hc3 := HQ.out.2.2.2.at (t % 7) (by omega)
      generalize hsv : cS t = sv at *
      clear hsv
      obtain ⟨r, s⟩ := sv
      simp only at k1 k2 k3 hc1 hf1 hc3 HQ ⊢
      have HQ2 : Hid (r % 2 = 1 → CW w (wr.setCell ⟨g + 1, t / 7, none⟩ (.int .u64 ((s.getD (t / 7) 0 + 2 ^ pl (t % 7) : Nat) : Int))) g (cS (t + 1)).2) := fun h => by
        rw [HS.out]
        unfold cstep
        simp only [h, if_true]
        exact HQ.out.put hge (t / 7) (by omega) k2 _
      have HQ3 : Hid (r % 2 ≠ 1 → CW w wr g (cS (t + 1)).2) := fun h => by
        rw [HS.out]
        unfold cstep
        simp only [h, if_false]
        exact HQ.out
      have HR : Hid ((cS (t + 1)).1 = if 256 ≤ 2 * r then (2 * r) ^^^ 369 else 2 * r) := by
        show _ = _
        rw [HS.out]
        rfl
      generalize s.getD (t / 7) 0 = v at *
      generalize pl (t % 7) = p at *
      obtain ⟨P, hP⟩ : ∃ P : Nat, 2 ^ p = P := ⟨_, rfl⟩
      rw [hP] at k3 HQ2
      have hPI : (2 : Int) ^ p = (P : Int) := by rw [← pow_cast, hP]
      have hcast : ((v + P : Nat) : Int) = (v : Int) + (P : Int) := by omega
      rw [hcast] at HQ2
      have hw1 : (v : Int) + (P : Int) < 18446744073709551616 := by omega
      have hwr1 : IntKind.u64.wrap ((v : Int) + (P : Int)) = (v : Int) + (P : Int) := by rw [IntKind.wrap_u64]; omega
      have hwr2 : IntKind.u64.wrap (P : Int) = (P : Int) := by rw [IntKind.wrap_u64]; omega
      clear hcast k2 HQ HS hP k3 hw1
      by_cases h2 : r % 2 = 1
      · have hb2 : ((r : Int) % 2 == 1) = true := by simp; omega
        have HQ2' := Lib.hid (HQ2.out h2)
        clear h2 HQ2 HQ3
        by_cases h6 : 256 ≤ 2 * r
        · have hx := x369 ⟨r, k1⟩
          have HR2 : Hid ((cS (t + 1)).1 = (2 * r) ^^^ 369) := by
            show _ = _
            rw [HR.out, if_pos h6]
          have hb6 : decide (256 ≤ 2 * (r : Int)) = true := by simp; omega
          clear h6
          simp only at hx
          generalize (2 * r) ^^^ 369 = y at *
          clear HR
          go_wp2_with fail
          go_region
          go_wp2_with fail
          go_roundg (168 - (t + 1))
          case rel => exact ⟨t + 1, by omega, rfl, by rw [HR2.out], by go_num, HQ2'.out.drewN 1⟩
          case measure => have := HGK.out; omega
        · have HR2 : Hid ((cS (t + 1)).1 = 2 * r) := by
            show _ = _
            rw [HR.out, if_neg h6]
          have hb6 : decide (256 ≤ 2 * (r : Int)) = false := by simp; omega
          clear h6
          clear HR
          go_wp2_with fail
          go_region
          go_wp2_with fail
          go_roundg (168 - (t + 1))
          case rel => exact ⟨t + 1, by omega, rfl, by rw [HR2.out]; go_num, by go_num, HQ2'.out.drewN 1⟩
          case measure => have := HGK.out; omega
      · have hb2 : ((r : Int) % 2 == 1) = false := by simp; omega
        have HQ3' := Lib.hid (HQ3.out h2)
        clear h2 HQ2 HQ3
        by_cases h6 : 256 ≤ 2 * r
        · have hx := x369 ⟨r, k1⟩
          have HR2 : Hid ((cS (t + 1)).1 = (2 * r) ^^^ 369) := by
            show _ = _
            rw [HR.out, if_pos h6]
          have hb6 : decide (256 ≤ 2 * (r : Int)) = true := by simp; omega
          clear h6
          simp only at hx
          generalize (2 * r) ^^^ 369 = y at *
          clear HR
          go_wp2_with fail
          go_roundg (168 - (t + 1))
          case rel => exact ⟨t + 1, by omega, rfl, by rw [HR2.out], by go_num, HQ3'⟩
          case measure => have := HGK.out; omega
        · have HR2 : Hid ((cS (t + 1)).1 = 2 * r) := by
            show _ = _
            rw [HR.out, if_neg h6]
          have hb6 : decide (256 ≤ 2 * (r : Int)) = false := by simp; omega
          clear h6
          clear HR
          go_wp2_with fail
          go_roundg (168 - (t + 1))
          case rel => exact ⟨t + 1, by omega, rfl, by rw [HR2.out]; go_num, by go_num, HQ3'⟩
          case measure => have := HGK.out; omega
    · obtain rfl : t = 168 := by omega
      rw [cS_all] at HQ
      have hr2 := HQ.out.2.2.1
      have hr1 := HQ.out.2.1
      have HP := Lib.hid HQ.out.1
      unfold LM at hr2
      have hi2 : (Try.prog.info? 73).map (·.size) = some (arr .u64 24 rcF).size := by rw [arr_size]; kernel_rfl
      have hs2 : (arr .u64 24 fun _ => 0).size = (arr .u64 24 rcF).size := by rw [arr_size, arr_size]
      have ho2 := arr_one .u64 24 rcF
      have he : (arr .u64 24 fun i => (rcs.getD i 0 : Nat)) = arr .u64 24 rcF := rfl
      rw [he] at hr2
      clear he HQ
      generalize hcc : arr .u64 24 rcF = c2 at *
      have HCC := Lib.hid hcc
      clear hcc
      generalize arr .u64 24 (fun _ => 0) = c1 at *
      go_wp2_with (first | (refine wpList_load_row rfl 73 _ rfl (g + 1) rfl _ _ (0, 0) _ hr2 Try.underlying73 rfl hi2 ?_) | (refine wpList_store_row rfl 73 _ _ rfl g _ rfl rfl _ _ hr1 hi2 hs2 ho2 ?_))
      refine bodyPost_ret (results_cell_row rfl _ _ g _ c2 (0, 0) _ rfl (setRow_heap wr g c1 c2 _ _ hr1) Try.underlying73 rfl hi2) rfl ?_
      exact ⟨by rw [HCC.out], below_setRow HP.out (by omega) _⟩

end Go.Proofs.Ytamgbkadiobklaa
