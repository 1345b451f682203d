/- The reference's bytes of a number, the highest one first. -/
import Derived.Test.YtdpnfojpeafdhaaDoorRef8T
namespace Go.Proofs.YtdpnfojpeafdhaaDoor
open Go.RowKit

/-- The least bytes of a number, the highest one first. -/
def numB (n : Nat) : List Int := if n = 0 then [] else numB (n / 256) ++ [((n % 256 : Nat) : Int)]
  termination_by n
  decreasing_by omega
theorem numB_zero : numB 0 = [] := by rw [numB, if_pos rfl]
theorem numB_pos {n : Nat} (h : n ≠ 0) : numB n = numB (n / 256) ++ [((n % 256 : Nat) : Int)] := by rw [numB, if_neg h]
theorem numB_rng (n : Nat) : ∀ x ∈ numB n, 0 ≤ x ∧ x < 256 := by
  induction n using Nat.strongRecOn with
  | _ n ih =>
    by_cases h : n = 0
    · rw [h, numB_zero]
      simp
    · rw [numB_pos h]
      intro x hx
      rcases List.mem_append.1 hx with hx | hx
      · exact ih (n / 256) (by omega) x hx
      · obtain rfl : x = ((n % 256 : Nat) : Int) := by simpa using hx
        omega
theorem numB_len (n : Nat) : (numB n).length ≤ n := by
  induction n using Nat.strongRecOn with
  | _ n ih =>
    by_cases h : n = 0
    · rw [h, numB_zero]
      exact Nat.le_refl _
    · rw [numB_pos h, List.length_append]
      have := ih (n / 256) (by omega)
      simp only [List.length_cons, List.length_nil]
      omega
theorem info8 : (Tryd.prog.info? 5).map (fun i => (i.zero, i.size, i.bytes)) = some (some (.int .u8 0), 1, 1) := by kernel_rfl
theorem own_block_ge {w : World} {base : Nat} {e : TypeId} {size : Nat} {v : Value} {n : Nat} {xs : List Value} (h : w.ownsRow base e size v n xs) : ∀ g, v.ownBlock = some g → base ≤ g := fun g hg => (h.lt g hg).1

set_option maxHeartbeats 1000000 in
theorem rnumber_any (n : Nat) (hn : n ≤ 20000000) (w : World) : Calls Tryd.prog 37 #[.int .i64 (n : Int)] w fun e w' =>
    ∃ A c, e = .returned (.slice A (numB n).length c) ∧ w'.ownsRow w.heap.size 5 1 (.slice A (numB n).length c) (numB n).length ((numB n).map (Value.int .u8)) ∧ Past w w' := by
  go_enter Tryd.func37, Tryd.ntmps37
  go_wp2_with fail
  have HO0 : Hid (w.ownsRow w.heap.size 5 1 (.slice none 0 0) 0 (([] : List Int).map (Value.int .u8)) ∧ Past w w ∧ ∀ x ∈ ([] : List Int), 0 ≤ x ∧ x < 256) := ⟨World.ownsRow_nil _ _ _ _, Below.refl _ _, by simp⟩
  have HN0 : Hid (numB n = numB n ++ []) := by show _ = _; simp
  go_loopg [0, 3] n (fun k s0 s3 wx => ∃ (z : Nat) (A : Option Addr) (L c : Nat) (out : List Int), z ≤ n ∧ k = z ∧ s0 = .int .i64 (z : Int) ∧ s3 = .slice A L c ∧ Hid (numB n = numB z ++ out) ∧ Hid (wx.ownsRow w.heap.size 5 1 (.slice A L c) L (out.map (Value.int .u8)) ∧ Past w wx ∧ ∀ x ∈ out, 0 ≤ x ∧ x < 256))
  case atStart => exact ⟨n, none, 0, 0, [], Nat.le_refl _, rfl, rfl, rfl, HN0, HO0⟩
  case round =>
    clear HO0 HN0
    obtain ⟨z, A, L, c, out, hz, hgk, rfl, rfl, HN, HO⟩ := hrel
    have HGK := Lib.hid hgk
    clear hgk
    by_cases h0 : z = 0
    · subst h0
      have HE : Hid (out = numB n) := by
        have h := HN.out
        rw [numB_zero, List.nil_append] at h
        exact h.symm
      go_wp2_with fail
      go_ret
      have hl : (numB n).length = L := by rw [← HE.out]; exact (Sl.of_own HO.out.1 HO.out.2.2).len
      rw [hl, ← HE.out]
      exact ⟨A, c, rfl, HO.out.1, HO.out.2.1⟩
    · have hzp : (0 : Int) < (z : Int) := by omega
      have hzb : z ≤ 20000000 := by omega
      have hc8 : IntKind.u8.wrap ((z : Int) % 256) = ((z % 256 : Nat) : Int) := by rw [IntKind.wrap_u8]; omega
      have hd8 : (z : Int) / 256 = ((z / 256 : Nat) : Int) := by omega
      have hL : L ≤ 20000000 := by
        have h1 := numB_len n
        have h2 := congrArg List.length HN.out
        rw [List.length_append, (Sl.of_own HO.out.1 HO.out.2.2).len] at h2
        omega
      have HN2 : Hid (numB n = numB (z / 256) ++ ([((z % 256 : Nat) : Int)] ++ out)) := by
        show _ = _
        rw [HN.out, numB_pos h0, List.append_assoc]
      have hxr : 0 ≤ ((z % 256 : Nat) : Int) ∧ ((z % 256 : Nat) : Int) < 256 := by omega
      have hzd : Hid (z / 256 < z) := by show _ < _; omega
      clear HN h0
      generalize z % 256 = x at *
      generalize z / 256 = y at *
      go_wp2_with (at_builtin; refine wpList_append_sl rfl _ _ 22 5 rfl Tryd.underlying22 info8 wr.heap.size _ 1 [(x : Int)] rfl (own_one wr 5 (x : Int) rfl (Nat.le_refl _)) A L c out rfl ((Sl.of_own HO.out.1 HO.out.2.2).past (past_alloc8 _ _)) (by omega) (by simp) ?_; intro v' w2 hown hgrow)
      obtain ⟨A2, c2, rfl⟩ := own_slice hown
      have HO2 : Hid (w2.ownsRow w.heap.size 5 1 (.slice A2 (1 + L) c2) (1 + L) (([(x : Int)] ++ out).map (Value.int .u8)) ∧ Past w w2 ∧ ∀ u ∈ [(x : Int)] ++ out, 0 ≤ u ∧ u < 256) := by
        refine ⟨own_mono hown HO.out.2.1.size, ?_, ?_⟩
        · exact (HO.out.2.1.trans' (past_alloc8 wr _)).grown hgrow (Nat.le_trans HO.out.2.1.size (by simp)) (fun g hg => Nat.le_trans HO.out.2.1.size (own_block_ge (own_one wr 5 (x : Int) rfl (Nat.le_refl _)) g hg))
        · intro u hu
          rcases List.mem_append.1 hu with hu | hu
          · obtain rfl : u = (x : Int) := by simpa using hu
            exact hxr
          · exact HO.out.2.2 u hu
      clear hown hgrow HO
      go_wp2_with fail
      go_roundg y
      case rel => exact ⟨y, A2, 1 + L, c2, _, by have := hzd.out; omega, rfl, rfl, rfl, HN2, HO2⟩
      case measure => have := HGK.out; have := hzd.out; omega

end Go.Proofs.YtdpnfojpeafdhaaDoor
