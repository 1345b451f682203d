/- Contracts of the reference of the hashes: the four functions. -/
import Derived.Test.YtamgbkadiobklaaRef7D
namespace Go.Proofs.Ytamgbkadiobklaa
open Go.RowKit

theorem rsha256_any (A : Option Addr) (n c : Nat) (xs : List Int) (w : World) (hS : Sl w A n c xs) (hn : n ≤ 100000) :
    Calls Try.prog 13 #[.slice A n c] w fun e w' => ∃ B d, e = .returned (.slice B 32 d) ∧ Sl w' B 32 d (bl (rout (rstate xs 136 6) 136) 32) ∧ Past w w' := by
  have H := Lib.hid (routput_any 32 A n c 136 6 xs w hS (by omega) hn (by omega) (by omega) (by omega))
  go_enter Try.func13, Try.ntmps13
  go_wp2_with fail
  refine (H.out).mono ?_
  rintro e w1 ⟨B, d, rfl, hs, hp⟩
  go_wp2_with fail
  go_ret
  exact ⟨B, d, rfl, hs, hp⟩

theorem rsha512_any (A : Option Addr) (n c : Nat) (xs : List Int) (w : World) (hS : Sl w A n c xs) (hn : n ≤ 100000) :
    Calls Try.prog 14 #[.slice A n c] w fun e w' => ∃ B d, e = .returned (.slice B 64 d) ∧ Sl w' B 64 d (bl (rout (rstate xs 72 6) 72) 64) ∧ Past w w' := by
  have H := Lib.hid (routput_any 64 A n c 72 6 xs w hS (by omega) hn (by omega) (by omega) (by omega))
  go_enter Try.func14, Try.ntmps14
  go_wp2_with fail
  refine (H.out).mono ?_
  rintro e w1 ⟨B, d, rfl, hs, hp⟩
  go_wp2_with fail
  go_ret
  exact ⟨B, d, rfl, hs, hp⟩

theorem rshake128_any (N : Int) (A : Option Addr) (n c : Nat) (xs : List Int) (w : World) (hS : Sl w A n c xs) (hn : n ≤ 100000) (hN : N ≤ 100000) :
    Calls Try.prog 16 #[.int .i64 N, .slice A n c] w fun e w' => ∃ B d, e = .returned (.slice B N.toNat d) ∧ Sl w' B N.toNat d (bl (rout (rstate xs 168 31) 168) N.toNat) ∧ Past w w' := by
  have H := Lib.hid (routput_any N A n c 168 31 xs w hS (by omega) hn (by omega) (by omega) hN)
  go_enter Try.func16, Try.ntmps16
  go_wp2_with fail
  refine (H.out).mono ?_
  rintro e w1 ⟨B, d, rfl, hs, hp⟩
  go_wp2_with fail
  go_ret
  exact ⟨B, d, rfl, hs, hp⟩

theorem rshake256_any (N : Int) (A : Option Addr) (n c : Nat) (xs : List Int) (w : World) (hS : Sl w A n c xs) (hn : n ≤ 100000) (hN : N ≤ 100000) :
    Calls Try.prog 18 #[.int .i64 N, .slice A n c] w fun e w' => ∃ B d, e = .returned (.slice B N.toNat d) ∧ Sl w' B N.toNat d (bl (rout (rstate xs 136 31) 136) N.toNat) ∧ Past w w' := by
  have H := Lib.hid (routput_any N A n c 136 31 xs w hS (by omega) hn (by omega) (by omega) hN)
  go_enter Try.func18, Try.ntmps18
  go_wp2_with fail
  refine (H.out).mono ?_
  rintro e w1 ⟨B, d, rfl, hs, hp⟩
  go_wp2_with fail
  go_ret
  exact ⟨B, d, rfl, hs, hp⟩

/-- The same, with the block of the bytes told to be new. -/
theorem rshake128_fresh (N : Int) (A : Option Addr) (n c : Nat) (xs : List Int) (w : World) (hS : Sl w A n c xs) (hn : n ≤ 100000) (hN : N ≤ 100000) :
    Calls Try.prog 16 #[.int .i64 N, .slice A n c] w fun e w' => ∃ B d, e = .returned (.slice B N.toNat d) ∧ Sl w' B N.toNat d (bl (rout (rstate xs 168 31) 168) N.toNat) ∧ Past w w' ∧ ∀ b o, B = some ⟨b, o, none⟩ → w.heap.size ≤ b := by
  have H := Lib.hid (routput_fresh N A n c 168 31 xs w hS (by omega) hn (by omega) (by omega) hN)
  go_enter Try.func16, Try.ntmps16
  go_wp2_with fail
  refine (H.out).mono ?_
  rintro e w1 ⟨B, d, rfl, hs, hp, hf⟩
  have HF := Lib.hid hf
  clear hf
  go_wp2_with fail
  go_ret
  exact ⟨B, d, rfl, hs, hp, HF.out⟩

/-- The same, with the block of the bytes told to be new. -/
theorem rshake256_fresh (N : Int) (A : Option Addr) (n c : Nat) (xs : List Int) (w : World) (hS : Sl w A n c xs) (hn : n ≤ 100000) (hN : N ≤ 100000) :
    Calls Try.prog 18 #[.int .i64 N, .slice A n c] w fun e w' => ∃ B d, e = .returned (.slice B N.toNat d) ∧ Sl w' B N.toNat d (bl (rout (rstate xs 136 31) 136) N.toNat) ∧ Past w w' ∧ ∀ b o, B = some ⟨b, o, none⟩ → w.heap.size ≤ b := by
  have H := Lib.hid (routput_fresh N A n c 136 31 xs w hS (by omega) hn (by omega) (by omega) hN)
  go_enter Try.func18, Try.ntmps18
  go_wp2_with fail
  refine (H.out).mono ?_
  rintro e w1 ⟨B, d, rfl, hs, hp, hf⟩
  have HF := Lib.hid hf
  clear hf
  go_wp2_with fail
  go_ret
  exact ⟨B, d, rfl, hs, hp, HF.out⟩

end Go.Proofs.Ytamgbkadiobklaa
