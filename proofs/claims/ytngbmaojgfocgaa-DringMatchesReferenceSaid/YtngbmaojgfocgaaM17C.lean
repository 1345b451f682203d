/- The closures of the program's NTT and Inverse. -/
import Derived.Test.YtngbmaojgfocgaaM17B
import Derived.Test.YtngbmaojgfocgaaSpl17
namespace Go.Proofs.Ytngbmaojgfocgaa.dr
open Go.RowKit
set_option linter.unusedVariables false
set_option maxRecDepth 100000

theorem lay_rng {s : Nat} (hs : Lay s) : 0 < s ∧ s ≤ 128 ∧ 1 ≤ 128 / s ∧ 128 / s ≤ 128 := by
  rcases hs with rfl | rfl | rfl | rfl | rfl | rfl | rfl | rfl <;> omega
theorem rv8_pos (k : Nat) (h : 0 < k) (h2 : k < 256) : 0 < rv8 k := by
  obtain ⟨i, rfl⟩ : ∃ i : Fin 256, i.val = k := ⟨⟨k, h2⟩, rfl⟩
  revert i
  decide +kernel
theorem mul_bdA {a b : Int} (a0 : 0 ≤ a) (a1 : a < 8380417) (b0 : 0 ≤ b) (b1 : b < 4294967296) : 0 ≤ b * a ∧ b * a ≤ 35993612646875136 := by
  have h := Int.mul_le_mul (show b ≤ 4294967295 by omega) (show a ≤ 8380416 by omega) a0 (by decide)
  have h2 := Int.mul_nonneg b0 a0
  refine ⟨h2, Int.le_trans h (by decide)⟩
theorem mul_bdB {a b : Int} (a0 : -4294967296 ≤ a) (a1 : a ≤ 4294967296) (b0 : 0 ≤ b) (b1 : b < 8380417) : -35993612646875136 ≤ a * b ∧ a * b ≤ 35993612646875136 := by
  have h1 : a * b ≤ 4294967296 * b := Int.mul_le_mul_of_nonneg_right a1 b0
  have h2 : -4294967296 * b ≤ a * b := Int.mul_le_mul_of_nonneg_right a0 b0
  omega
/-- What NTT's closure returns. -/
def nA (s i : Nat) (x y : Int) : Int := x + y * wS s i
def nB (s i : Nat) (x y : Int) : Int := x - y * wS s i
/-- What Inverse's closure returns. -/
def iA (s i : Nat) (x y : Int) : Int := (x + y) * 4190209
def iB (s i : Nat) (x y : Int) : Int := (x - y) * (4190209 * uS s i % 8380417)
/-- What a closure's boxes hold: the powers, and the size. -/
def Boxes (w : World) (p z : Nat) (s : Nat) : Prop := Row w p 44 (arr .u32 512 pw) ∧ Row w z 3 #[.int .i64 (s : Int)]
theorem Boxes.past {w w' : World} {p z s : Nat} (h : Boxes w p z s) (hp : Past w w') : Boxes w' p z s := ⟨h.1.past hp, h.2.past hp⟩
def Box2 (p z : Nat) : Array Value := #[.pointer (some ⟨p, 0, none⟩), .pointer (some ⟨z, 0, none⟩)]
def OkC (fn : FuncId) (s : Nat) (more : Array Value) (A B : Nat → Int → Int → Int) (w : World) : Prop :=
  ∀ (i : Nat) (x y : Int), i < 128 / s → 0 ≤ x → x < 4294967296 → 0 ≤ y → y < 4294967296 →
    (-9223372036854775808 ≤ A i x y ∧ A i x y < 9223372036854775808 ∧ -9223372036854775808 ≤ B i x y ∧ B i x y < 9223372036854775808) ∧
    ∀ w', Past w w' → Calls Try.prog fn (#[.int .i64 (i : Int), .int .i64 x, .int .i64 y] ++ more) w' fun e w'' => e = .returned (.tuple #[.int .i64 (A i x y), .int .i64 (B i x y)]) ∧ w'' = w'
set_option maxHeartbeats 4000000 in
theorem nttC_any (s : Nat) (hs : Lay s) (p z : Nat) (w : World) (hb : Boxes w p z s) : OkC 28 s (Box2 p z) (nA s) (nB s) w := by
  intro i x y hi x0 x1 y0 y1
  obtain ⟨hs0, hs128, hm1, hm2⟩ := lay_rng hs
  obtain ⟨W, hW⟩ : ∃ W, wS s i = W := ⟨_, rfl⟩
  obtain ⟨W0, W1⟩ : 0 ≤ W ∧ W < 8380417 := by rw [← hW]; exact pw_lt _
  obtain ⟨m1, m2⟩ := mul_bdA W0 W1 y0 y1
  obtain ⟨M, hM⟩ : ∃ M, y * W = M := ⟨_, rfl⟩
  have hA : nA s i x y = x + M := by unfold nA; rw [hW, hM]
  have hB : nB s i x y = x - M := by unfold nB; rw [hW, hM]
  rw [hA, hB]
  rw [hM] at m1 m2
  refine ⟨⟨by omega, by omega, by omega, by omega⟩, fun w' hp => ?_⟩
  obtain ⟨b1, b2⟩ := hb.past hp
  show Calls _ _ #[.int .i64 (i : Int), .int .i64 x, .int .i64 y, .pointer (some ⟨p, 0, none⟩), .pointer (some ⟨z, 0, none⟩)] _ _
  have HSP := Lib.hid (fun w => splitter_any s (128 / s) i hs0 rfl (by omega) hs128 w)
  have hn := rv8_lt (128 / s + i)
  have hwn : pw (rv8 (128 / s + i)) = W := hW
  obtain ⟨n, hnn⟩ : ∃ n, rv8 (128 / s + i) = n := ⟨_, rfl⟩
  rw [hnn] at HSP hn hwn
  have hc : w'.cell? ⟨p, n, none⟩ = some (.int .u32 W) := by
    rw [b1.cell, arr_get .u32 512 pw n (by omega), hwn]
  have hc2 := b2.cell 0
  have hx0 : (0 : Int) ≤ (n : Int) := by omega
  have hx1 : (n : Int) < 512 := by omega
  have hwW : IntKind.i64.wrap W = W := by rw [IntKind.wrap_i64]; omega
  have hwM : IntKind.i64.wrap (y * W) = M := by rw [hM, IntKind.wrap_i64]; omega
  have hwA : IntKind.i64.wrap (x + M) = x + M := by rw [IntKind.wrap_i64]; omega
  have hwB : IntKind.i64.wrap (x - M) = x - M := by rw [IntKind.wrap_i64]; omega
  obtain ⟨EA, hEA⟩ : ∃ E, x + M = E := ⟨_, rfl⟩
  obtain ⟨EB, hEB⟩ : ∃ E, x - M = E := ⟨_, rfl⟩
  rw [hEA, hEB]
  rw [hEA] at hwA
  rw [hEB] at hwB
  have hxA : IntKind.i64.wrap (x + M) = EA := by rw [hEA]; exact hwA
  have hxB : IntKind.i64.wrap (x - M) = EB := by rw [hEB]; exact hwB
  have h64A : wrap64 EA = EA := IntWalk.wrap64_in _ (by omega)
  have h64B : wrap64 EB = EB := IntWalk.wrap64_in _ (by omega)
  clear hb hp hnn hwn hW hM hA hB hs hi hEA hEB b1 b2 hm1 hm2 x0 x1 y0 y1 m1 m2 W0 W1 hn hwA hwB
  go_enter Try.func28, Try.ntmps28
  go_wp2_with fail
  refine (HSP.out _).mono ?_
  rintro e w1 ⟨rfl, hw1⟩
  rw [hw1]
  clear hw1
  go_wp2_with fail
  go_ret2
  exact ⟨rfl, rfl⟩
set_option maxHeartbeats 4000000 in
theorem inttC_any (s : Nat) (hs : Lay s) (p z : Nat) (w : World) (hb : Boxes w p z s) : OkC 30 s (Box2 p z) (iA s) (iB s) w := by
  intro i x y hi x0 x1 y0 y1
  obtain ⟨hs0, hs128, hm1, hm2⟩ := lay_rng hs
  obtain ⟨W, hW⟩ : ∃ W, uS s i = W := ⟨_, rfl⟩
  obtain ⟨W0, W1⟩ : 0 ≤ W ∧ W < 8380417 := by rw [← hW]; exact pw_lt _
  obtain ⟨H, hH⟩ : ∃ H, 4190209 * W = H := ⟨_, rfl⟩
  obtain ⟨R, hR⟩ : ∃ R, H % 8380417 = R := ⟨_, rfl⟩
  have R0 : 0 ≤ R := by omega
  have R1 : R < 8380417 := by omega
  obtain ⟨S, hS⟩ : ∃ S, x + y = S := ⟨_, rfl⟩
  obtain ⟨D, hD⟩ : ∃ S, x - y = S := ⟨_, rfl⟩
  obtain ⟨m1, m2⟩ := mul_bdB (show -4294967296 ≤ D by omega) (show D ≤ 4294967296 by omega) R0 R1
  obtain ⟨M, hM⟩ : ∃ M, D * R = M := ⟨_, rfl⟩
  obtain ⟨Q, hQ⟩ : ∃ M, S * 4190209 = M := ⟨_, rfl⟩
  have hA : iA s i x y = Q := by unfold iA; rw [hS, hQ]
  have hB : iB s i x y = M := by unfold iB; rw [hW, hH, hR, hD, hM]
  rw [hA, hB]
  rw [hM] at m1 m2
  refine ⟨⟨by omega, by omega, by omega, by omega⟩, fun w' hp => ?_⟩
  obtain ⟨b1, b2⟩ := hb.past hp
  show Calls _ _ #[.int .i64 (i : Int), .int .i64 x, .int .i64 y, .pointer (some ⟨p, 0, none⟩), .pointer (some ⟨z, 0, none⟩)] _ _
  have HSP := Lib.hid (fun w => splitter_any s (128 / s) i hs0 rfl (by omega) hs128 w)
  have hn := rv8_lt (128 / s + i)
  have hn0 := rv8_pos (128 / s + i) (by omega) (by omega)
  have hwn : pw (512 - rv8 (128 / s + i)) = W := hW
  obtain ⟨n, hnn⟩ : ∃ n, rv8 (128 / s + i) = n := ⟨_, rfl⟩
  rw [hnn] at HSP hn hwn hn0
  obtain ⟨n2, hn2⟩ : ∃ k, 512 - n = k := ⟨_, rfl⟩
  rw [hn2] at hwn
  have hc : w'.cell? ⟨p, n2, none⟩ = some (.int .u32 W) := by
    rw [b1.cell, arr_get .u32 512 pw n2 (by omega), hwn]
  have hc2 := b2.cell 0
  have hx0 : (0 : Int) ≤ (n2 : Int) := by omega
  have hx1 : (n2 : Int) < 512 := by omega
  have hnI : (512 : Int) - (n : Int) = (n2 : Int) := by omega
  have hwn2 : IntKind.i64.wrap ((512 : Int) - (n : Int)) = (n2 : Int) := by rw [hnI, IntKind.wrap_i64]; omega
  have h64n : wrap64 (n2 : Int) = (n2 : Int) := IntWalk.wrap64_in _ (by omega)
  have HRE := Lib.hid (fun w => reduce_any H w (by omega) (by omega))
  rw [hR] at HRE
  have hwW : IntKind.i64.wrap W = W := by rw [IntKind.wrap_i64]; omega
  have hwH : IntKind.i64.wrap (4190209 * W) = H := by rw [hH, IntKind.wrap_i64]; omega
  have HWS : Hid (IntKind.i64.wrap (x + y) = S ∧ IntKind.i64.wrap (x - y) = D ∧ IntKind.i64.wrap (S * 4190209) = Q ∧ IntKind.i64.wrap R = R ∧ IntKind.i64.wrap (D * R) = M ∧ wrap64 Q = Q ∧ wrap64 M = M) := Lib.hid ⟨by rw [hS, IntKind.wrap_i64]; omega, by rw [hD, IntKind.wrap_i64]; omega, by rw [hQ, IntKind.wrap_i64]; omega, by rw [IntKind.wrap_i64]; omega, by rw [hM, IntKind.wrap_i64]; omega, IntWalk.wrap64_in _ (by omega), IntWalk.wrap64_in _ (by omega)⟩
  clear hb hp hnn hwn hW hM hA hB hs hi b1 b2 hm1 hm2 x0 x1 y0 y1 m1 m2 W0 W1 hn hH hR hS hD hQ hn2 hn0 hnI R0 R1
  go_enter Try.func30, Try.ntmps30
  go_wp2_with fail
  refine (HSP.out _).mono ?_
  rintro e w1 ⟨rfl, hw1⟩
  rw [hw1]
  clear hw1
  go_wp2_with fail
  refine (HRE.out _).mono ?_
  rintro e w1 ⟨rfl, hw1⟩
  rw [hw1]
  clear hw1
  obtain ⟨k1, k2, k3, k4, k5, k6, k7⟩ := HWS.out
  go_wp2_with fail
  go_ret2
  exact ⟨rfl, rfl⟩
end Go.Proofs.Ytngbmaojgfocgaa.dr
