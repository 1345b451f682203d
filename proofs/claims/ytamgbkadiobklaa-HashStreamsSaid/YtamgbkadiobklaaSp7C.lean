/- The sponge of package hash: it is permuted where its block is full, absorbs a byte, and yields bytes. -/
import Derived.Test.YtamgbkadiobklaaSp7B
namespace Go.Proofs.Ytamgbkadiobklaa
open Go.RowKit

set_option maxHeartbeats 1000000 in
theorem hopen_room (S : Nat → Lane) (g : Nat) (t : TypeId) (R U T : Nat) (w : World) (h : SP w g t (kbyte S) R U T) (hU : ¬ R ≤ U) :
    Calls Try.prog 29 #[.pointer (some ⟨g, 0, none⟩)] w fun e w' => e = .returned (.tuple #[]) ∧ SPs w w' g t (kbyte S) R U T := by
  have k0 := SP.rate h
  have k1 := SP.used h
  have H := Lib.hid h
  clear h
  have hlt : decide ((R : Int) ≤ (U : Int)) = false := by simp; omega
  have hlt2 : ¬ (R : Int) ≤ (U : Int) := by omega
  go_enter Try.func29, Try.ntmps29
  go_wp2_with fail
  go_quiet (fail)
  go_wp2_with fail
  go_end0
  exact ⟨rfl, Row.drewN H.out _, only_drewN (World.grownBy.refl _ _) _⟩

set_option maxHeartbeats 1000000 in
theorem hopen_full (S : Nat → Lane) (g : Nat) (t : TypeId) (R U T : Nat) (w : World) (h : SP w g t (kbyte S) R U T) (hU : R ≤ U) (hT : T ≤ 1000000000) :
    Calls Try.prog 29 #[.pointer (some ⟨g, 0, none⟩)] w fun e w' => e = .returned (.tuple #[]) ∧ SPs w w' g t (kbyte (rperm S)) R 0 (T + 1) := by
  have k0 := SP.rate h
  have k1 := SP.used h
  have HP := Lib.hid (fun w h => hperm_any S g t R U T w h hT)
  have H := Lib.hid h
  clear h
  have hlt : decide ((R : Int) ≤ (U : Int)) = true := by simp; omega
  have hlt2 : (R : Int) ≤ (U : Int) := by omega
  go_enter Try.func29, Try.ntmps29
  go_wp2_with fail
  go_quiet (fail)
  go_wp2_with fail
  refine (HP.out _ (Row.drewN H.out _)).mono ?_
  rintro e w1 ⟨rfl, hs, hg⟩
  have HG := Lib.hid hs
  have HW : Hid (w.grownBy w1 (some g)) := Lib.hid (only_trans (only_drewN (World.grownBy.refl _ _) _) hg)
  clear hs hg
  go_wp2_with fail
  go_end0
  exact ⟨rfl, HG.out, HW.out⟩

/-- A sponge with room for a byte, once n bytes have gone through it. -/
theorem hopen_abs (F : Nat → Int) (g : Nat) (t : TypeId) (R n T : Nat) (w : World) (hR : 0 < R) (hT : T ≤ 1000000000) (h : SP w g t (kbyte (AbS F R n)) R (AU R n) T) :
    Calls Try.prog 29 #[.pointer (some ⟨g, 0, none⟩)] w fun e w' => e = .returned (.tuple #[]) ∧ ∃ T', T' ≤ T + 1 ∧ SPs w w' g t (kbyte (Opn F R n)) R (n % R) T' := by
  by_cases hU : R ≤ AU R n
  · refine (hopen_full _ g t R _ T w h hU hT).mono ?_
    rintro e w1 ⟨rfl, hs⟩
    rw [Abs_full F hR hU, ← (AU_full hR hU).2.1] at hs
    exact ⟨rfl, T + 1, Nat.le_refl _, hs⟩
  · refine (hopen_room _ g t R _ T w h hU).mono ?_
    rintro e w1 ⟨rfl, hs⟩
    rw [Abs_room F hR hU, (AU_room hR hU).1] at hs
    exact ⟨rfl, T, Nat.le_succ _, hs⟩
theorem hopen_out (A : Nat → Lane) (g : Nat) (t : TypeId) (R k : Nat) (w : World) (hR : 0 < R) (hk : k ≤ 1000000000) (h : SP w g t (kbyte (rsq A ((k - 1) / R))) R (AU R k) ((k - 1) / R)) :
    Calls Try.prog 29 #[.pointer (some ⟨g, 0, none⟩)] w fun e w' => e = .returned (.tuple #[]) ∧ SPs w w' g t (kbyte (rsq A (k / R))) R (k % R) (k / R) := by
  have hd : (k - 1) / R ≤ 1000000000 := Nat.le_trans (Nat.div_le_self _ _) (by omega)
  by_cases hU : R ≤ AU R k
  · refine (hopen_full _ g t R _ _ w h hU hd).mono ?_
    rintro e w1 ⟨rfl, hs⟩
    rw [rsq_full A hR hU, ← (AU_full hR hU).2.2] at hs
    rw [(AU_full hR hU).2.1]
    exact ⟨rfl, hs⟩
  · refine (hopen_room _ g t R _ _ w h hU).mono ?_
    rintro e w1 ⟨rfl, hs⟩
    rw [rsq_room A hR hU, ← (AU_room hR hU).2, (AU_room hR hU).1] at hs
    exact ⟨rfl, hs⟩

set_option maxHeartbeats 2000000 in
set_option maxRecDepth 100000 in
theorem habsorb_any (F : Nat → Int) (g : Nat) (t : TypeId) (R n T : Nat) (w : World) (hR : 0 < R) (hR2 : R ≤ 200) (hF : 0 ≤ F n ∧ F n < 256) (hT : T ≤ 1000000000) (h : SP w g t (kbyte (AbS F R n)) R (AU R n) T) :
    Calls Try.prog 27 #[.pointer (some ⟨g, 0, none⟩), .int .u8 (F n)] w fun e w' => e = .returned (.tuple #[]) ∧ ∃ T', T' ≤ T + 1 ∧ SPs w w' g t (kbyte (AbS F R (n + 1))) R (AU R (n + 1)) T' := by
  have HO := Lib.hid (hopen_abs F g t R n T w hR hT h)
  have HE := Lib.hid (Abs_put F R n hF)
  have HA := Lib.hid (AU_succ R n)
  have hu := Nat.mod_lt n hR
  obtain ⟨u, hue⟩ : ∃ u, n % R = u := ⟨_, rfl⟩
  rw [hue] at HO HE HA hu
  obtain ⟨c, hc⟩ : ∃ c, F n = c := ⟨_, rfl⟩
  rw [hc] at HE ⊢
  obtain ⟨y, hy⟩ : ∃ y, bx (kbyte (Opn F R n) u) c = y := ⟨_, rfl⟩
  rw [hy] at HE
  obtain ⟨x, hx⟩ : ∃ x, kbyte (Opn F R n) u = x := ⟨_, rfl⟩
  rw [hx] at hy
  have hxy : bits .xor .u8 x c = y := hy
  have HX := Lib.hid hx
  clear h hue hc hy hF hx
  have hu0 : (u : Int) < 200 := by omega
  have hu1 : u < 200 := by omega
  go_enter Try.func27, Try.ntmps27
  go_wp2_with fail
  refine HO.out.mono ?_
  rintro e w1 ⟨rfl, T', hT', hs, hg⟩
  have H1 : Hid (SP w1 g t (kbyte (Opn F R n)) R u T' ∧ w.grownBy w1 (some g)) := Lib.hid ⟨hs, hg⟩
  have HT := Lib.hid hT'
  clear hs hg hT' HO
  have k0 : w1.drew.cell? ⟨g, 201, none⟩ = some (.int .i64 (u : Int)) := SP.used H1.out.1
  have k1 : w1.drew.cell? ⟨g, u, none⟩ = some (.int .u8 x) := by
    have := SP.byte H1.out.1 u hu1
    rwa [HX.out] at this
  have f1 : w1.drew.frozen? ⟨g, u, none⟩ = false := Row.fr H1.out.1 u
  have H2 : Hid (SP (w1.setCell ⟨g, u, none⟩ (.int .u8 y)).drew g t (kbyte (AbS F R (n + 1))) R u T' ∧ w.grownBy (w1.setCell ⟨g, u, none⟩ (.int .u8 y)).drew (some g)) := by
    have h2 := SP.put H1.out.1 u hu1 y
    rw [← HE.out] at h2
    exact Lib.hid ⟨Row.drewN h2 1, only_drewN (only_setCell H1.out.2 (.inl rfl) _) 1⟩
  clear H1 HE HX
  go_wp2_with fail
  go_region
  all_goals
    generalize (w1.setCell ⟨g, u, none⟩ (.int .u8 y)).drew = w2 at *
    have k2 : w2.cell? ⟨g, 201, none⟩ = some (.int .i64 (u : Int)) := SP.used H2.out.1
    have f2 : w2.frozen? ⟨g, 201, none⟩ = false := Row.fr H2.out.1 201
    have H3 : Hid (SPs w (w2.setCell ⟨g, 201, none⟩ (.int .i64 ((u : Int) + 1))) g t (kbyte (AbS F R (n + 1))) R (AU R (n + 1)) T') := by
      rw [HA.out]
      exact Lib.hid ⟨SP.putU H2.out.1 (u + 1), only_setCell H2.out.2 (.inl rfl) _⟩
    clear H2 k0 k1 f1
    go_wp2_with fail
    go_end0
    exact ⟨rfl, T', HT.out, H3.out⟩

end Go.Proofs.Ytamgbkadiobklaa
