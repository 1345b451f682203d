/- The reference's group of a number. -/
import Derived.Test.YtbemkfneebbgeaaDoorRef9A
namespace Go.Proofs.YtbemkfneebbgeaaDoor
open Go.RowKit

/-- The digits to the base 128 ahead of the last one, each with 128 added. -/
def grpH (n : Nat) : List Int := if n = 0 then [] else grpH (n / 128) ++ [((128 + n % 128 : Nat) : Int)]
  termination_by n
  decreasing_by omega
def grp (n : Nat) : List Int := grpH (n / 128) ++ [((n % 128 : Nat) : Int)]
theorem grpH_zero : grpH 0 = [] := by rw [grpH, if_pos rfl]
theorem grpH_pos {n : Nat} (h : n ≠ 0) : grpH n = grpH (n / 128) ++ [((128 + n % 128 : Nat) : Int)] := by rw [grpH, if_neg h]
theorem grpH_rng (n : Nat) : ∀ x ∈ grpH n, 128 ≤ x ∧ x < 256 := by
  induction n using Nat.strongRecOn with
  | _ n ih =>
    by_cases h : n = 0
    · rw [h, grpH_zero]
      simp
    · rw [grpH_pos h]
      intro x hx
      rcases List.mem_append.1 hx with hx | hx
      · exact ih (n / 128) (by omega) x hx
      · obtain rfl : x = ((128 + n % 128 : Nat) : Int) := by simpa using hx
        omega
theorem grpH_len (k n : Nat) (h : n < 128 ^ k) : (grpH n).length ≤ k := by
  induction k generalizing n with
  | zero =>
    obtain rfl : n = 0 := by simpa using h
    rw [grpH_zero]
    exact Nat.le_refl _
  | succ k ih =>
    by_cases h0 : n = 0
    · rw [h0, grpH_zero]
      exact Nat.zero_le _
    · rw [grpH_pos h0, List.length_append]
      have e : 128 ^ (k + 1) = 128 * 128 ^ k := by rw [Nat.pow_succ, Nat.mul_comm]
      have := ih (n / 128) (by omega)
      simp only [List.length_cons, List.length_nil]
      omega
theorem grp_len (n : Nat) (h : n < 34359738368) : (grp n).length ≤ 5 ∧ 1 ≤ (grp n).length := by
  have := grpH_len 4 (n / 128) (by omega)
  unfold grp
  rw [List.length_append, List.length_singleton]
  omega
theorem grp_rng (n : Nat) : ∀ x ∈ grp n, 0 ≤ x ∧ x < 256 := by
  intro x hx
  rcases List.mem_append.1 hx with hx | hx
  · have := grpH_rng _ x hx
    omega
  · obtain rfl : x = ((n % 128 : Nat) : Int) := by simpa using hx
    omega
theorem own_block_ge {w : World} {base : Nat} {e : TypeId} {size : Nat} {v : Value} {n : Nat} {xs : List Value} (h : w.ownsRow base e size v n xs) : ∀ g, v.ownBlock = some g → base ≤ g := fun g hg => (h.lt g hg).1

set_option maxHeartbeats 1000000 in
theorem rgroup_any (n : Nat) (hn : n < 34359738368) (w : World) : Calls Tryd.prog 27 #[.int .i64 (n : Int)] w fun e w' =>
    ∃ A c, e = .returned (.slice A (grp n).length c) ∧ w'.ownsRow w.heap.size 5 1 (.slice A (grp n).length c) (grp n).length ((grp n).map (Value.int .u8)) ∧ Past w w' := by
  have hc0 : IntKind.u8.wrap ((n : Int) % 128) = ((n % 128 : Nat) : Int) := by rw [IntKind.wrap_u8]; omega
  have hd0 : (n : Int) / 128 = ((n / 128 : Nat) : Int) := by omega
  have HO0 : Hid ((w.alloc (.cells #[.int .u8 ((n % 128 : Nat) : Int)] 5)).ownsRow w.heap.size 5 1 (.slice (some ⟨w.heap.size, 0, none⟩) 1 1) 1 (([((n % 128 : Nat) : Int)] : List Int).map (Value.int .u8)) ∧ Past w (w.alloc (.cells #[.int .u8 ((n % 128 : Nat) : Int)] 5)) ∧ ∀ x ∈ ([((n % 128 : Nat) : Int)] : List Int), 0 ≤ x ∧ x < 256) :=
    Lib.hid ⟨own_one w 5 _ rfl (Nat.le_refl _), past_alloc9 _ _, by simp; omega⟩
  have HN0 : Hid (grp n = grpH (n / 128) ++ [((n % 128 : Nat) : Int)]) := Lib.hid rfl
  have HG5 := Lib.hid (grp_len n hn)
  have hz0 : n / 128 ≤ 268435456 := by omega
  go_enter Tryd.func27, Tryd.ntmps27
  obtain ⟨x0, hx0⟩ : ∃ x0 : Nat, n % 128 = x0 := ⟨_, rfl⟩
  obtain ⟨y0, hy0⟩ : ∃ y0 : Nat, n / 128 = y0 := ⟨_, rfl⟩
  rw [hx0] at hc0 HO0 HN0
  rw [hy0] at hd0 HN0 hz0
  clear hx0 hy0
  go_wp2_with fail
  generalize w.alloc (.cells #[.int .u8 (x0 : Int)] 5) = w1 at *
  go_loopg [0, 3] y0 (fun k s0 s3 wx => ∃ (z : Nat) (A : Option Addr) (L c : Nat) (out : List Int), z ≤ y0 ∧ k = z ∧ s0 = .int .i64 (z : Int) ∧ s3 = .slice A L c ∧ Hid (grp n = grpH z ++ out) ∧ Hid (wx.ownsRow w.heap.size 5 1 (.slice A L c) L (out.map (Value.int .u8)) ∧ Past w wx ∧ ∀ x ∈ out, 0 ≤ x ∧ x < 256))
  case atStart => exact ⟨y0, _, 1, 1, _, Nat.le_refl _, rfl, by first | rfl | (rw [hd0]), rfl, HN0, HO0⟩
  case round =>
    clear HO0 HN0
    obtain ⟨z, A, L, c, out, hz, hgk, rfl, rfl, HN, HO⟩ := hrel
    have HGK := Lib.hid hgk
    clear hgk
    by_cases h0 : z = 0
    · subst h0
      have HE : Hid (out = grp n) := by
        have h := HN.out
        rw [grpH_zero, List.nil_append] at h
        exact h.symm
      go_wp2_with fail
      go_ret
      have hl : (grp n).length = L := by rw [← HE.out]; exact (Sl.of_own HO.out.1 HO.out.2.2).len
      rw [hl, ← HE.out]
      exact ⟨A, c, rfl, HO.out.1, HO.out.2.1⟩
    · have hzp : (0 : Int) < (z : Int) := by omega
      have hzb : z ≤ 268435456 := by omega
      have hc8 : IntKind.u8.wrap (128 + (z : Int) % 128) = ((128 + z % 128 : Nat) : Int) := by rw [IntKind.wrap_u8]; omega
      have hd8 : (z : Int) / 128 = ((z / 128 : Nat) : Int) := by omega
      have hL : L ≤ 5 := by
        have h1 := HG5.out.1
        have h2 := congrArg List.length HN.out
        rw [List.length_append, (Sl.of_own HO.out.1 HO.out.2.2).len] at h2
        omega
      have HN2 : Hid (grp n = grpH (z / 128) ++ ([((128 + z % 128 : Nat) : Int)] ++ out)) := by
        show _ = _
        rw [HN.out, grpH_pos h0, List.append_assoc]
      have hxr : 0 ≤ ((128 + z % 128 : Nat) : Int) ∧ ((128 + z % 128 : Nat) : Int) < 256 := by omega
      have hzd : Hid (z / 128 < z) := by show _ < _; omega
      clear HN h0
      generalize 128 + z % 128 = x at *
      generalize z / 128 = y at *
      go_wp2_with (at_builtin; refine wpList_append_sl rfl _ _ 25 5 rfl Tryd.underlying25 info8 wr.heap.size _ 1 [(x : Int)] rfl (own_one wr 5 (x : Int) rfl (Nat.le_refl _)) A L c out rfl ((Sl.of_own HO.out.1 HO.out.2.2).past (past_alloc9 _ _)) (by omega) (by simp) ?_; intro v' w2 hown hgrow)
      obtain ⟨A2, c2, rfl⟩ := own_slice hown
      have HO2 : Hid (w2.ownsRow w.heap.size 5 1 (.slice A2 (1 + L) c2) (1 + L) (([(x : Int)] ++ out).map (Value.int .u8)) ∧ Past w w2 ∧ ∀ u ∈ [(x : Int)] ++ out, 0 ≤ u ∧ u < 256) := by
        refine ⟨own_mono hown HO.out.2.1.size, ?_, ?_⟩
        · exact (HO.out.2.1.trans' (past_alloc9 wr _)).grown hgrow (Nat.le_trans HO.out.2.1.size (by simp)) (fun g hg => Nat.le_trans HO.out.2.1.size (own_block_ge (own_one wr 5 (x : Int) rfl (Nat.le_refl _)) g hg))
        · intro u hu
          rcases List.mem_append.1 hu with hu | hu
          · obtain rfl : u = (x : Int) := by simpa using hu
            exact hxr
          · exact HO.out.2.2 u hu
      clear hown hgrow HO
      go_wp2_with fail
      go_roundg y
      case rel => exact ⟨y, A2, 1 + L, c2, _, by have := hzd.out; omega, rfl, rfl, rfl, HN2, HO2⟩
      case measure => have := HGK.out; have := hzd.out; omega

end Go.Proofs.YtbemkfneebbgeaaDoor
