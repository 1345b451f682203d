/- Rounds of Keccak in numbers, which the kernel computes fast. -/
import Derived.Test.YtalhdalmafhofaaGreatDoorRef6F
namespace Go.Proofs.YtalhdalmafhofaaGreatDoor
set_option maxRecDepth 100000
open Go.RowKit
set_option linter.unusedVariables false

/-- A rotation in numbers. -/
def rN (n x : Nat) : Nat := ((x <<< n) % 18446744073709551616) ||| (x >>> (64 - n))
theorem rotN_toNat (x : Lane) (n : Nat) (h0 : 0 < n) (h : n < 64) : (rotN x n).toNat = rN n x.toNat := by
  have e : rotN x n = (x <<< n) ||| (x >>> (64 - n)) := lane_ext fun i hi => by
    rw [rotN_bit _ _ _ hi, BitVec.getLsbD_or, BitVec.getLsbD_shiftLeft, BitVec.getLsbD_ushiftRight]
    by_cases hn : i < n
    · have e : (i + 63 * n) % 64 = 64 - n + i := by omega
      rw [e]
      simp [hn]
    · have e : (i + 63 * n) % 64 = i - n := by omega
      rw [e]
      have h1 : x.getLsbD (64 - n + i) = false := BitVec.getLsbD_of_ge x _ (by omega)
      simp [hn, hi, h1]
  rw [e]
  unfold rN
  rw [BitVec.toNat_or, BitVec.toNat_shiftLeft, BitVec.toNat_ushiftRight]
/-- A round in numbers. -/
def stN : List Nat → Nat → List Nat
  | [a0, a1, a2, a3, a4, a5, a6, a7, a8, a9, a10, a11, a12, a13, a14, a15, a16, a17, a18, a19, a20, a21, a22, a23, a24], rc =>
    let c0 := ((((0 ^^^ a0) ^^^ a1) ^^^ a2) ^^^ a3) ^^^ a4
    let c1 := ((((0 ^^^ a5) ^^^ a6) ^^^ a7) ^^^ a8) ^^^ a9
    let c2 := ((((0 ^^^ a10) ^^^ a11) ^^^ a12) ^^^ a13) ^^^ a14
    let c3 := ((((0 ^^^ a15) ^^^ a16) ^^^ a17) ^^^ a18) ^^^ a19
    let c4 := ((((0 ^^^ a20) ^^^ a21) ^^^ a22) ^^^ a23) ^^^ a24
    let r0 := rN 1 c0
    let r1 := rN 1 c1
    let r2 := rN 1 c2
    let r3 := rN 1 c3
    let r4 := rN 1 c4
    let t0 := (a0 ^^^ c4) ^^^ r1
    let t1 := (a1 ^^^ c4) ^^^ r1
    let t2 := (a2 ^^^ c4) ^^^ r1
    let t3 := (a3 ^^^ c4) ^^^ r1
    let t4 := (a4 ^^^ c4) ^^^ r1
    let t5 := (a5 ^^^ c0) ^^^ r2
    let t6 := (a6 ^^^ c0) ^^^ r2
    let t7 := (a7 ^^^ c0) ^^^ r2
    let t8 := (a8 ^^^ c0) ^^^ r2
    let t9 := (a9 ^^^ c0) ^^^ r2
    let t10 := (a10 ^^^ c1) ^^^ r3
    let t11 := (a11 ^^^ c1) ^^^ r3
    let t12 := (a12 ^^^ c1) ^^^ r3
    let t13 := (a13 ^^^ c1) ^^^ r3
    let t14 := (a14 ^^^ c1) ^^^ r3
    let t15 := (a15 ^^^ c2) ^^^ r4
    let t16 := (a16 ^^^ c2) ^^^ r4
    let t17 := (a17 ^^^ c2) ^^^ r4
    let t18 := (a18 ^^^ c2) ^^^ r4
    let t19 := (a19 ^^^ c2) ^^^ r4
    let t20 := (a20 ^^^ c3) ^^^ r0
    let t21 := (a21 ^^^ c3) ^^^ r0
    let t22 := (a22 ^^^ c3) ^^^ r0
    let t23 := (a23 ^^^ c3) ^^^ r0
    let t24 := (a24 ^^^ c3) ^^^ r0
    let b0 := t0
    let b1 := rN 28 t15
    let b2 := rN 1 t5
    let b3 := rN 27 t20
    let b4 := rN 62 t10
    let b5 := rN 44 t6
    let b6 := rN 20 t21
    let b7 := rN 6 t11
    let b8 := rN 36 t1
    let b9 := rN 55 t16
    let b10 := rN 43 t12
    let b11 := rN 3 t2
    let b12 := rN 25 t17
    let b13 := rN 10 t7
    let b14 := rN 39 t22
    let b15 := rN 21 t18
    let b16 := rN 45 t8
    let b17 := rN 8 t23
    let b18 := rN 15 t13
    let b19 := rN 41 t3
    let b20 := rN 14 t24
    let b21 := rN 61 t14
    let b22 := rN 18 t4
    let b23 := rN 56 t19
    let b24 := rN 2 t9
    [(b0 ^^^ ((18446744073709551615 - b5) &&& b10)) ^^^ rc,
     b1 ^^^ ((18446744073709551615 - b6) &&& b11),
     b2 ^^^ ((18446744073709551615 - b7) &&& b12),
     b3 ^^^ ((18446744073709551615 - b8) &&& b13),
     b4 ^^^ ((18446744073709551615 - b9) &&& b14),
     b5 ^^^ ((18446744073709551615 - b10) &&& b15),
     b6 ^^^ ((18446744073709551615 - b11) &&& b16),
     b7 ^^^ ((18446744073709551615 - b12) &&& b17),
     b8 ^^^ ((18446744073709551615 - b13) &&& b18),
     b9 ^^^ ((18446744073709551615 - b14) &&& b19),
     b10 ^^^ ((18446744073709551615 - b15) &&& b20),
     b11 ^^^ ((18446744073709551615 - b16) &&& b21),
     b12 ^^^ ((18446744073709551615 - b17) &&& b22),
     b13 ^^^ ((18446744073709551615 - b18) &&& b23),
     b14 ^^^ ((18446744073709551615 - b19) &&& b24),
     b15 ^^^ ((18446744073709551615 - b20) &&& b0),
     b16 ^^^ ((18446744073709551615 - b21) &&& b1),
     b17 ^^^ ((18446744073709551615 - b22) &&& b2),
     b18 ^^^ ((18446744073709551615 - b23) &&& b3),
     b19 ^^^ ((18446744073709551615 - b24) &&& b4),
     b20 ^^^ ((18446744073709551615 - b0) &&& b5),
     b21 ^^^ ((18446744073709551615 - b1) &&& b6),
     b22 ^^^ ((18446744073709551615 - b2) &&& b7),
     b23 ^^^ ((18446744073709551615 - b3) &&& b8),
     b24 ^^^ ((18446744073709551615 - b4) &&& b9)]
  | l, _ => l
def l25 (A : Nat → Lane) : List Nat := [(A 0).toNat, (A 1).toNat, (A 2).toNat, (A 3).toNat, (A 4).toNat, (A 5).toNat, (A 6).toNat, (A 7).toNat, (A 8).toNat, (A 9).toNat, (A 10).toNat, (A 11).toNat, (A 12).toNat, (A 13).toNat, (A 14).toNat, (A 15).toNat, (A 16).toNat, (A 17).toNat, (A 18).toNat, (A 19).toNat, (A 20).toNat, (A 21).toNat, (A 22).toNat, (A 23).toNat, (A 24).toNat]
theorem not_toNat (x : Lane) : (~~~x).toNat = 18446744073709551615 - x.toNat := by rw [BitVec.toNat_not]
theorem offN_0 : offN 0 = 0 := rfl
theorem offN_1 : offN 1 = 36 := rfl
theorem offN_2 : offN 2 = 3 := rfl
theorem offN_3 : offN 3 = 41 := rfl
theorem offN_4 : offN 4 = 18 := rfl
theorem offN_5 : offN 5 = 1 := rfl
theorem offN_6 : offN 6 = 44 := rfl
theorem offN_7 : offN 7 = 10 := rfl
theorem offN_8 : offN 8 = 45 := rfl
theorem offN_9 : offN 9 = 2 := rfl
theorem offN_10 : offN 10 = 62 := rfl
theorem offN_11 : offN 11 = 6 := rfl
theorem offN_12 : offN 12 = 43 := rfl
theorem offN_13 : offN 13 = 15 := rfl
theorem offN_14 : offN 14 = 61 := rfl
theorem offN_15 : offN 15 = 28 := rfl
theorem offN_16 : offN 16 = 55 := rfl
theorem offN_17 : offN 17 = 25 := rfl
theorem offN_18 : offN 18 = 21 := rfl
theorem offN_19 : offN 19 = 56 := rfl
theorem offN_20 : offN 20 = 27 := rfl
theorem offN_21 : offN 21 = 20 := rfl
theorem offN_22 : offN 22 = 39 := rfl
theorem offN_23 : offN 23 = 8 := rfl
theorem offN_24 : offN 24 = 14 := rfl
theorem cC_0 (A : Nat → Lane) : (cC A 0).toNat = 0 ^^^ (A 0).toNat ^^^ (A 1).toNat ^^^ (A 2).toNat ^^^ (A 3).toNat ^^^ (A 4).toNat := by
  show (((((0 : Lane) ^^^ A 0) ^^^ A 1) ^^^ A 2) ^^^ A 3 ^^^ A 4).toNat = _
  simp only [BitVec.toNat_xor]
  rfl
theorem cC_1 (A : Nat → Lane) : (cC A 1).toNat = 0 ^^^ (A 5).toNat ^^^ (A 6).toNat ^^^ (A 7).toNat ^^^ (A 8).toNat ^^^ (A 9).toNat := by
  show (((((0 : Lane) ^^^ A 5) ^^^ A 6) ^^^ A 7) ^^^ A 8 ^^^ A 9).toNat = _
  simp only [BitVec.toNat_xor]
  rfl
theorem cC_2 (A : Nat → Lane) : (cC A 2).toNat = 0 ^^^ (A 10).toNat ^^^ (A 11).toNat ^^^ (A 12).toNat ^^^ (A 13).toNat ^^^ (A 14).toNat := by
  show (((((0 : Lane) ^^^ A 10) ^^^ A 11) ^^^ A 12) ^^^ A 13 ^^^ A 14).toNat = _
  simp only [BitVec.toNat_xor]
  rfl
theorem cC_3 (A : Nat → Lane) : (cC A 3).toNat = 0 ^^^ (A 15).toNat ^^^ (A 16).toNat ^^^ (A 17).toNat ^^^ (A 18).toNat ^^^ (A 19).toNat := by
  show (((((0 : Lane) ^^^ A 15) ^^^ A 16) ^^^ A 17) ^^^ A 18 ^^^ A 19).toNat = _
  simp only [BitVec.toNat_xor]
  rfl
theorem cC_4 (A : Nat → Lane) : (cC A 4).toNat = 0 ^^^ (A 20).toNat ^^^ (A 21).toNat ^^^ (A 22).toNat ^^^ (A 23).toNat ^^^ (A 24).toNat := by
  show (((((0 : Lane) ^^^ A 20) ^^^ A 21) ^^^ A 22) ^^^ A 23 ^^^ A 24).toNat = _
  simp only [BitVec.toNat_xor]
  rfl
theorem th_0 (A : Nat → Lane) : (th A 0).toNat = ((A 0).toNat ^^^ (cC A 4).toNat) ^^^ rN 1 (cC A 1).toNat := by
  show ((A 0 ^^^ cC A 4) ^^^ rotN (cC A 1) 1).toNat = _
  rw [BitVec.toNat_xor, BitVec.toNat_xor, rotN_toNat _ 1 (by decide) (by decide)]
theorem th_1 (A : Nat → Lane) : (th A 1).toNat = ((A 1).toNat ^^^ (cC A 4).toNat) ^^^ rN 1 (cC A 1).toNat := by
  show ((A 1 ^^^ cC A 4) ^^^ rotN (cC A 1) 1).toNat = _
  rw [BitVec.toNat_xor, BitVec.toNat_xor, rotN_toNat _ 1 (by decide) (by decide)]
theorem th_2 (A : Nat → Lane) : (th A 2).toNat = ((A 2).toNat ^^^ (cC A 4).toNat) ^^^ rN 1 (cC A 1).toNat := by
  show ((A 2 ^^^ cC A 4) ^^^ rotN (cC A 1) 1).toNat = _
  rw [BitVec.toNat_xor, BitVec.toNat_xor, rotN_toNat _ 1 (by decide) (by decide)]
theorem th_3 (A : Nat → Lane) : (th A 3).toNat = ((A 3).toNat ^^^ (cC A 4).toNat) ^^^ rN 1 (cC A 1).toNat := by
  show ((A 3 ^^^ cC A 4) ^^^ rotN (cC A 1) 1).toNat = _
  rw [BitVec.toNat_xor, BitVec.toNat_xor, rotN_toNat _ 1 (by decide) (by decide)]
theorem th_4 (A : Nat → Lane) : (th A 4).toNat = ((A 4).toNat ^^^ (cC A 4).toNat) ^^^ rN 1 (cC A 1).toNat := by
  show ((A 4 ^^^ cC A 4) ^^^ rotN (cC A 1) 1).toNat = _
  rw [BitVec.toNat_xor, BitVec.toNat_xor, rotN_toNat _ 1 (by decide) (by decide)]
theorem th_5 (A : Nat → Lane) : (th A 5).toNat = ((A 5).toNat ^^^ (cC A 0).toNat) ^^^ rN 1 (cC A 2).toNat := by
  show ((A 5 ^^^ cC A 0) ^^^ rotN (cC A 2) 1).toNat = _
  rw [BitVec.toNat_xor, BitVec.toNat_xor, rotN_toNat _ 1 (by decide) (by decide)]
theorem th_6 (A : Nat → Lane) : (th A 6).toNat = ((A 6).toNat ^^^ (cC A 0).toNat) ^^^ rN 1 (cC A 2).toNat := by
  show ((A 6 ^^^ cC A 0) ^^^ rotN (cC A 2) 1).toNat = _
  rw [BitVec.toNat_xor, BitVec.toNat_xor, rotN_toNat _ 1 (by decide) (by decide)]
theorem th_7 (A : Nat → Lane) : (th A 7).toNat = ((A 7).toNat ^^^ (cC A 0).toNat) ^^^ rN 1 (cC A 2).toNat := by
  show ((A 7 ^^^ cC A 0) ^^^ rotN (cC A 2) 1).toNat = _
  rw [BitVec.toNat_xor, BitVec.toNat_xor, rotN_toNat _ 1 (by decide) (by decide)]
theorem th_8 (A : Nat → Lane) : (th A 8).toNat = ((A 8).toNat ^^^ (cC A 0).toNat) ^^^ rN 1 (cC A 2).toNat := by
  show ((A 8 ^^^ cC A 0) ^^^ rotN (cC A 2) 1).toNat = _
  rw [BitVec.toNat_xor, BitVec.toNat_xor, rotN_toNat _ 1 (by decide) (by decide)]
theorem th_9 (A : Nat → Lane) : (th A 9).toNat = ((A 9).toNat ^^^ (cC A 0).toNat) ^^^ rN 1 (cC A 2).toNat := by
  show ((A 9 ^^^ cC A 0) ^^^ rotN (cC A 2) 1).toNat = _
  rw [BitVec.toNat_xor, BitVec.toNat_xor, rotN_toNat _ 1 (by decide) (by decide)]
theorem th_10 (A : Nat → Lane) : (th A 10).toNat = ((A 10).toNat ^^^ (cC A 1).toNat) ^^^ rN 1 (cC A 3).toNat := by
  show ((A 10 ^^^ cC A 1) ^^^ rotN (cC A 3) 1).toNat = _
  rw [BitVec.toNat_xor, BitVec.toNat_xor, rotN_toNat _ 1 (by decide) (by decide)]
theorem th_11 (A : Nat → Lane) : (th A 11).toNat = ((A 11).toNat ^^^ (cC A 1).toNat) ^^^ rN 1 (cC A 3).toNat := by
  show ((A 11 ^^^ cC A 1) ^^^ rotN (cC A 3) 1).toNat = _
  rw [BitVec.toNat_xor, BitVec.toNat_xor, rotN_toNat _ 1 (by decide) (by decide)]
theorem th_12 (A : Nat → Lane) : (th A 12).toNat = ((A 12).toNat ^^^ (cC A 1).toNat) ^^^ rN 1 (cC A 3).toNat := by
  show ((A 12 ^^^ cC A 1) ^^^ rotN (cC A 3) 1).toNat = _
  rw [BitVec.toNat_xor, BitVec.toNat_xor, rotN_toNat _ 1 (by decide) (by decide)]
theorem th_13 (A : Nat → Lane) : (th A 13).toNat = ((A 13).toNat ^^^ (cC A 1).toNat) ^^^ rN 1 (cC A 3).toNat := by
  show ((A 13 ^^^ cC A 1) ^^^ rotN (cC A 3) 1).toNat = _
  rw [BitVec.toNat_xor, BitVec.toNat_xor, rotN_toNat _ 1 (by decide) (by decide)]
theorem th_14 (A : Nat → Lane) : (th A 14).toNat = ((A 14).toNat ^^^ (cC A 1).toNat) ^^^ rN 1 (cC A 3).toNat := by
  show ((A 14 ^^^ cC A 1) ^^^ rotN (cC A 3) 1).toNat = _
  rw [BitVec.toNat_xor, BitVec.toNat_xor, rotN_toNat _ 1 (by decide) (by decide)]
theorem th_15 (A : Nat → Lane) : (th A 15).toNat = ((A 15).toNat ^^^ (cC A 2).toNat) ^^^ rN 1 (cC A 4).toNat := by
  show ((A 15 ^^^ cC A 2) ^^^ rotN (cC A 4) 1).toNat = _
  rw [BitVec.toNat_xor, BitVec.toNat_xor, rotN_toNat _ 1 (by decide) (by decide)]
theorem th_16 (A : Nat → Lane) : (th A 16).toNat = ((A 16).toNat ^^^ (cC A 2).toNat) ^^^ rN 1 (cC A 4).toNat := by
  show ((A 16 ^^^ cC A 2) ^^^ rotN (cC A 4) 1).toNat = _
  rw [BitVec.toNat_xor, BitVec.toNat_xor, rotN_toNat _ 1 (by decide) (by decide)]
theorem th_17 (A : Nat → Lane) : (th A 17).toNat = ((A 17).toNat ^^^ (cC A 2).toNat) ^^^ rN 1 (cC A 4).toNat := by
  show ((A 17 ^^^ cC A 2) ^^^ rotN (cC A 4) 1).toNat = _
  rw [BitVec.toNat_xor, BitVec.toNat_xor, rotN_toNat _ 1 (by decide) (by decide)]
theorem th_18 (A : Nat → Lane) : (th A 18).toNat = ((A 18).toNat ^^^ (cC A 2).toNat) ^^^ rN 1 (cC A 4).toNat := by
  show ((A 18 ^^^ cC A 2) ^^^ rotN (cC A 4) 1).toNat = _
  rw [BitVec.toNat_xor, BitVec.toNat_xor, rotN_toNat _ 1 (by decide) (by decide)]
theorem th_19 (A : Nat → Lane) : (th A 19).toNat = ((A 19).toNat ^^^ (cC A 2).toNat) ^^^ rN 1 (cC A 4).toNat := by
  show ((A 19 ^^^ cC A 2) ^^^ rotN (cC A 4) 1).toNat = _
  rw [BitVec.toNat_xor, BitVec.toNat_xor, rotN_toNat _ 1 (by decide) (by decide)]
theorem th_20 (A : Nat → Lane) : (th A 20).toNat = ((A 20).toNat ^^^ (cC A 3).toNat) ^^^ rN 1 (cC A 0).toNat := by
  show ((A 20 ^^^ cC A 3) ^^^ rotN (cC A 0) 1).toNat = _
  rw [BitVec.toNat_xor, BitVec.toNat_xor, rotN_toNat _ 1 (by decide) (by decide)]
theorem th_21 (A : Nat → Lane) : (th A 21).toNat = ((A 21).toNat ^^^ (cC A 3).toNat) ^^^ rN 1 (cC A 0).toNat := by
  show ((A 21 ^^^ cC A 3) ^^^ rotN (cC A 0) 1).toNat = _
  rw [BitVec.toNat_xor, BitVec.toNat_xor, rotN_toNat _ 1 (by decide) (by decide)]
theorem th_22 (A : Nat → Lane) : (th A 22).toNat = ((A 22).toNat ^^^ (cC A 3).toNat) ^^^ rN 1 (cC A 0).toNat := by
  show ((A 22 ^^^ cC A 3) ^^^ rotN (cC A 0) 1).toNat = _
  rw [BitVec.toNat_xor, BitVec.toNat_xor, rotN_toNat _ 1 (by decide) (by decide)]
theorem th_23 (A : Nat → Lane) : (th A 23).toNat = ((A 23).toNat ^^^ (cC A 3).toNat) ^^^ rN 1 (cC A 0).toNat := by
  show ((A 23 ^^^ cC A 3) ^^^ rotN (cC A 0) 1).toNat = _
  rw [BitVec.toNat_xor, BitVec.toNat_xor, rotN_toNat _ 1 (by decide) (by decide)]
theorem th_24 (A : Nat → Lane) : (th A 24).toNat = ((A 24).toNat ^^^ (cC A 3).toNat) ^^^ rN 1 (cC A 0).toNat := by
  show ((A 24 ^^^ cC A 3) ^^^ rotN (cC A 0) 1).toNat = _
  rw [BitVec.toNat_xor, BitVec.toNat_xor, rotN_toNat _ 1 (by decide) (by decide)]
theorem rho_0 (A : Nat → Lane) : (rho A offN 0).toNat = (A 0).toNat := rfl
theorem rho_1 (A : Nat → Lane) : (rho A offN 1).toNat = rN 28 (A 15).toNat := rotN_toNat (A 15) 28 (by decide) (by decide)
theorem rho_2 (A : Nat → Lane) : (rho A offN 2).toNat = rN 1 (A 5).toNat := rotN_toNat (A 5) 1 (by decide) (by decide)
theorem rho_3 (A : Nat → Lane) : (rho A offN 3).toNat = rN 27 (A 20).toNat := rotN_toNat (A 20) 27 (by decide) (by decide)
theorem rho_4 (A : Nat → Lane) : (rho A offN 4).toNat = rN 62 (A 10).toNat := rotN_toNat (A 10) 62 (by decide) (by decide)
theorem rho_5 (A : Nat → Lane) : (rho A offN 5).toNat = rN 44 (A 6).toNat := rotN_toNat (A 6) 44 (by decide) (by decide)
theorem rho_6 (A : Nat → Lane) : (rho A offN 6).toNat = rN 20 (A 21).toNat := rotN_toNat (A 21) 20 (by decide) (by decide)
theorem rho_7 (A : Nat → Lane) : (rho A offN 7).toNat = rN 6 (A 11).toNat := rotN_toNat (A 11) 6 (by decide) (by decide)
theorem rho_8 (A : Nat → Lane) : (rho A offN 8).toNat = rN 36 (A 1).toNat := rotN_toNat (A 1) 36 (by decide) (by decide)
theorem rho_9 (A : Nat → Lane) : (rho A offN 9).toNat = rN 55 (A 16).toNat := rotN_toNat (A 16) 55 (by decide) (by decide)
theorem rho_10 (A : Nat → Lane) : (rho A offN 10).toNat = rN 43 (A 12).toNat := rotN_toNat (A 12) 43 (by decide) (by decide)
theorem rho_11 (A : Nat → Lane) : (rho A offN 11).toNat = rN 3 (A 2).toNat := rotN_toNat (A 2) 3 (by decide) (by decide)
theorem rho_12 (A : Nat → Lane) : (rho A offN 12).toNat = rN 25 (A 17).toNat := rotN_toNat (A 17) 25 (by decide) (by decide)
theorem rho_13 (A : Nat → Lane) : (rho A offN 13).toNat = rN 10 (A 7).toNat := rotN_toNat (A 7) 10 (by decide) (by decide)
theorem rho_14 (A : Nat → Lane) : (rho A offN 14).toNat = rN 39 (A 22).toNat := rotN_toNat (A 22) 39 (by decide) (by decide)
theorem rho_15 (A : Nat → Lane) : (rho A offN 15).toNat = rN 21 (A 18).toNat := rotN_toNat (A 18) 21 (by decide) (by decide)
theorem rho_16 (A : Nat → Lane) : (rho A offN 16).toNat = rN 45 (A 8).toNat := rotN_toNat (A 8) 45 (by decide) (by decide)
theorem rho_17 (A : Nat → Lane) : (rho A offN 17).toNat = rN 8 (A 23).toNat := rotN_toNat (A 23) 8 (by decide) (by decide)
theorem rho_18 (A : Nat → Lane) : (rho A offN 18).toNat = rN 15 (A 13).toNat := rotN_toNat (A 13) 15 (by decide) (by decide)
theorem rho_19 (A : Nat → Lane) : (rho A offN 19).toNat = rN 41 (A 3).toNat := rotN_toNat (A 3) 41 (by decide) (by decide)
theorem rho_20 (A : Nat → Lane) : (rho A offN 20).toNat = rN 14 (A 24).toNat := rotN_toNat (A 24) 14 (by decide) (by decide)
theorem rho_21 (A : Nat → Lane) : (rho A offN 21).toNat = rN 61 (A 14).toNat := rotN_toNat (A 14) 61 (by decide) (by decide)
theorem rho_22 (A : Nat → Lane) : (rho A offN 22).toNat = rN 18 (A 4).toNat := rotN_toNat (A 4) 18 (by decide) (by decide)
theorem rho_23 (A : Nat → Lane) : (rho A offN 23).toNat = rN 56 (A 19).toNat := rotN_toNat (A 19) 56 (by decide) (by decide)
theorem rho_24 (A : Nat → Lane) : (rho A offN 24).toNat = rN 2 (A 9).toNat := rotN_toNat (A 9) 2 (by decide) (by decide)
theorem chi_0 (B : Nat → Lane) : (chi B 0).toNat = (B 0).toNat ^^^ ((18446744073709551615 - (B 5).toNat) &&& (B 10).toNat) := by
  show (B 0 ^^^ (~~~ B 5 &&& B 10)).toNat = _
  rw [BitVec.toNat_xor, BitVec.toNat_and, not_toNat]
theorem chi_1 (B : Nat → Lane) : (chi B 1).toNat = (B 1).toNat ^^^ ((18446744073709551615 - (B 6).toNat) &&& (B 11).toNat) := by
  show (B 1 ^^^ (~~~ B 6 &&& B 11)).toNat = _
  rw [BitVec.toNat_xor, BitVec.toNat_and, not_toNat]
theorem chi_2 (B : Nat → Lane) : (chi B 2).toNat = (B 2).toNat ^^^ ((18446744073709551615 - (B 7).toNat) &&& (B 12).toNat) := by
  show (B 2 ^^^ (~~~ B 7 &&& B 12)).toNat = _
  rw [BitVec.toNat_xor, BitVec.toNat_and, not_toNat]
theorem chi_3 (B : Nat → Lane) : (chi B 3).toNat = (B 3).toNat ^^^ ((18446744073709551615 - (B 8).toNat) &&& (B 13).toNat) := by
  show (B 3 ^^^ (~~~ B 8 &&& B 13)).toNat = _
  rw [BitVec.toNat_xor, BitVec.toNat_and, not_toNat]
theorem chi_4 (B : Nat → Lane) : (chi B 4).toNat = (B 4).toNat ^^^ ((18446744073709551615 - (B 9).toNat) &&& (B 14).toNat) := by
  show (B 4 ^^^ (~~~ B 9 &&& B 14)).toNat = _
  rw [BitVec.toNat_xor, BitVec.toNat_and, not_toNat]
theorem chi_5 (B : Nat → Lane) : (chi B 5).toNat = (B 5).toNat ^^^ ((18446744073709551615 - (B 10).toNat) &&& (B 15).toNat) := by
  show (B 5 ^^^ (~~~ B 10 &&& B 15)).toNat = _
  rw [BitVec.toNat_xor, BitVec.toNat_and, not_toNat]
theorem chi_6 (B : Nat → Lane) : (chi B 6).toNat = (B 6).toNat ^^^ ((18446744073709551615 - (B 11).toNat) &&& (B 16).toNat) := by
  show (B 6 ^^^ (~~~ B 11 &&& B 16)).toNat = _
  rw [BitVec.toNat_xor, BitVec.toNat_and, not_toNat]
theorem chi_7 (B : Nat → Lane) : (chi B 7).toNat = (B 7).toNat ^^^ ((18446744073709551615 - (B 12).toNat) &&& (B 17).toNat) := by
  show (B 7 ^^^ (~~~ B 12 &&& B 17)).toNat = _
  rw [BitVec.toNat_xor, BitVec.toNat_and, not_toNat]
theorem chi_8 (B : Nat → Lane) : (chi B 8).toNat = (B 8).toNat ^^^ ((18446744073709551615 - (B 13).toNat) &&& (B 18).toNat) := by
  show (B 8 ^^^ (~~~ B 13 &&& B 18)).toNat = _
  rw [BitVec.toNat_xor, BitVec.toNat_and, not_toNat]
theorem chi_9 (B : Nat → Lane) : (chi B 9).toNat = (B 9).toNat ^^^ ((18446744073709551615 - (B 14).toNat) &&& (B 19).toNat) := by
  show (B 9 ^^^ (~~~ B 14 &&& B 19)).toNat = _
  rw [BitVec.toNat_xor, BitVec.toNat_and, not_toNat]
theorem chi_10 (B : Nat → Lane) : (chi B 10).toNat = (B 10).toNat ^^^ ((18446744073709551615 - (B 15).toNat) &&& (B 20).toNat) := by
  show (B 10 ^^^ (~~~ B 15 &&& B 20)).toNat = _
  rw [BitVec.toNat_xor, BitVec.toNat_and, not_toNat]
theorem chi_11 (B : Nat → Lane) : (chi B 11).toNat = (B 11).toNat ^^^ ((18446744073709551615 - (B 16).toNat) &&& (B 21).toNat) := by
  show (B 11 ^^^ (~~~ B 16 &&& B 21)).toNat = _
  rw [BitVec.toNat_xor, BitVec.toNat_and, not_toNat]
theorem chi_12 (B : Nat → Lane) : (chi B 12).toNat = (B 12).toNat ^^^ ((18446744073709551615 - (B 17).toNat) &&& (B 22).toNat) := by
  show (B 12 ^^^ (~~~ B 17 &&& B 22)).toNat = _
  rw [BitVec.toNat_xor, BitVec.toNat_and, not_toNat]
theorem chi_13 (B : Nat → Lane) : (chi B 13).toNat = (B 13).toNat ^^^ ((18446744073709551615 - (B 18).toNat) &&& (B 23).toNat) := by
  show (B 13 ^^^ (~~~ B 18 &&& B 23)).toNat = _
  rw [BitVec.toNat_xor, BitVec.toNat_and, not_toNat]
theorem chi_14 (B : Nat → Lane) : (chi B 14).toNat = (B 14).toNat ^^^ ((18446744073709551615 - (B 19).toNat) &&& (B 24).toNat) := by
  show (B 14 ^^^ (~~~ B 19 &&& B 24)).toNat = _
  rw [BitVec.toNat_xor, BitVec.toNat_and, not_toNat]
theorem chi_15 (B : Nat → Lane) : (chi B 15).toNat = (B 15).toNat ^^^ ((18446744073709551615 - (B 20).toNat) &&& (B 0).toNat) := by
  show (B 15 ^^^ (~~~ B 20 &&& B 0)).toNat = _
  rw [BitVec.toNat_xor, BitVec.toNat_and, not_toNat]
theorem chi_16 (B : Nat → Lane) : (chi B 16).toNat = (B 16).toNat ^^^ ((18446744073709551615 - (B 21).toNat) &&& (B 1).toNat) := by
  show (B 16 ^^^ (~~~ B 21 &&& B 1)).toNat = _
  rw [BitVec.toNat_xor, BitVec.toNat_and, not_toNat]
theorem chi_17 (B : Nat → Lane) : (chi B 17).toNat = (B 17).toNat ^^^ ((18446744073709551615 - (B 22).toNat) &&& (B 2).toNat) := by
  show (B 17 ^^^ (~~~ B 22 &&& B 2)).toNat = _
  rw [BitVec.toNat_xor, BitVec.toNat_and, not_toNat]
theorem chi_18 (B : Nat → Lane) : (chi B 18).toNat = (B 18).toNat ^^^ ((18446744073709551615 - (B 23).toNat) &&& (B 3).toNat) := by
  show (B 18 ^^^ (~~~ B 23 &&& B 3)).toNat = _
  rw [BitVec.toNat_xor, BitVec.toNat_and, not_toNat]
theorem chi_19 (B : Nat → Lane) : (chi B 19).toNat = (B 19).toNat ^^^ ((18446744073709551615 - (B 24).toNat) &&& (B 4).toNat) := by
  show (B 19 ^^^ (~~~ B 24 &&& B 4)).toNat = _
  rw [BitVec.toNat_xor, BitVec.toNat_and, not_toNat]
theorem chi_20 (B : Nat → Lane) : (chi B 20).toNat = (B 20).toNat ^^^ ((18446744073709551615 - (B 0).toNat) &&& (B 5).toNat) := by
  show (B 20 ^^^ (~~~ B 0 &&& B 5)).toNat = _
  rw [BitVec.toNat_xor, BitVec.toNat_and, not_toNat]
theorem chi_21 (B : Nat → Lane) : (chi B 21).toNat = (B 21).toNat ^^^ ((18446744073709551615 - (B 1).toNat) &&& (B 6).toNat) := by
  show (B 21 ^^^ (~~~ B 1 &&& B 6)).toNat = _
  rw [BitVec.toNat_xor, BitVec.toNat_and, not_toNat]
theorem chi_22 (B : Nat → Lane) : (chi B 22).toNat = (B 22).toNat ^^^ ((18446744073709551615 - (B 2).toNat) &&& (B 7).toNat) := by
  show (B 22 ^^^ (~~~ B 2 &&& B 7)).toNat = _
  rw [BitVec.toNat_xor, BitVec.toNat_and, not_toNat]
theorem chi_23 (B : Nat → Lane) : (chi B 23).toNat = (B 23).toNat ^^^ ((18446744073709551615 - (B 3).toNat) &&& (B 8).toNat) := by
  show (B 23 ^^^ (~~~ B 3 &&& B 8)).toNat = _
  rw [BitVec.toNat_xor, BitVec.toNat_and, not_toNat]
theorem chi_24 (B : Nat → Lane) : (chi B 24).toNat = (B 24).toNat ^^^ ((18446744073709551615 - (B 4).toNat) &&& (B 9).toNat) := by
  show (B 24 ^^^ (~~~ B 4 &&& B 9)).toNat = _
  rw [BitVec.toNat_xor, BitVec.toNat_and, not_toNat]
theorem stN_round (A : Nat → Lane) (rc : Lane) : l25 (kround A rc offN) = stN (l25 A) rc.toNat := by
  have e0 : (kround A rc offN 0).toNat = (chi (rho (th A) offN) 0).toNat ^^^ rc.toNat := by
    show (chi (rho (th A) offN) 0 ^^^ rc).toNat = _
    rw [BitVec.toNat_xor]
  have e1 : (kround A rc offN 1).toNat = (chi (rho (th A) offN) 1).toNat := rfl
  have e2 : (kround A rc offN 2).toNat = (chi (rho (th A) offN) 2).toNat := rfl
  have e3 : (kround A rc offN 3).toNat = (chi (rho (th A) offN) 3).toNat := rfl
  have e4 : (kround A rc offN 4).toNat = (chi (rho (th A) offN) 4).toNat := rfl
  have e5 : (kround A rc offN 5).toNat = (chi (rho (th A) offN) 5).toNat := rfl
  have e6 : (kround A rc offN 6).toNat = (chi (rho (th A) offN) 6).toNat := rfl
  have e7 : (kround A rc offN 7).toNat = (chi (rho (th A) offN) 7).toNat := rfl
  have e8 : (kround A rc offN 8).toNat = (chi (rho (th A) offN) 8).toNat := rfl
  have e9 : (kround A rc offN 9).toNat = (chi (rho (th A) offN) 9).toNat := rfl
  have e10 : (kround A rc offN 10).toNat = (chi (rho (th A) offN) 10).toNat := rfl
  have e11 : (kround A rc offN 11).toNat = (chi (rho (th A) offN) 11).toNat := rfl
  have e12 : (kround A rc offN 12).toNat = (chi (rho (th A) offN) 12).toNat := rfl
  have e13 : (kround A rc offN 13).toNat = (chi (rho (th A) offN) 13).toNat := rfl
  have e14 : (kround A rc offN 14).toNat = (chi (rho (th A) offN) 14).toNat := rfl
  have e15 : (kround A rc offN 15).toNat = (chi (rho (th A) offN) 15).toNat := rfl
  have e16 : (kround A rc offN 16).toNat = (chi (rho (th A) offN) 16).toNat := rfl
  have e17 : (kround A rc offN 17).toNat = (chi (rho (th A) offN) 17).toNat := rfl
  have e18 : (kround A rc offN 18).toNat = (chi (rho (th A) offN) 18).toNat := rfl
  have e19 : (kround A rc offN 19).toNat = (chi (rho (th A) offN) 19).toNat := rfl
  have e20 : (kround A rc offN 20).toNat = (chi (rho (th A) offN) 20).toNat := rfl
  have e21 : (kround A rc offN 21).toNat = (chi (rho (th A) offN) 21).toNat := rfl
  have e22 : (kround A rc offN 22).toNat = (chi (rho (th A) offN) 22).toNat := rfl
  have e23 : (kround A rc offN 23).toNat = (chi (rho (th A) offN) 23).toNat := rfl
  have e24 : (kround A rc offN 24).toNat = (chi (rho (th A) offN) 24).toNat := rfl
  unfold l25
  rw [e0, e1, e2, e3, e4, e5, e6, e7, e8, e9, e10, e11, e12, e13, e14, e15, e16, e17, e18, e19, e20, e21, e22, e23, e24]
  simp only [chi_0, chi_1, chi_2, chi_3, chi_4, chi_5, chi_6, chi_7, chi_8, chi_9, chi_10, chi_11, chi_12, chi_13, chi_14, chi_15, chi_16, chi_17, chi_18, chi_19, chi_20, chi_21, chi_22, chi_23, chi_24, rho_0, rho_1, rho_2, rho_3, rho_4, rho_5, rho_6, rho_7, rho_8, rho_9, rho_10, rho_11, rho_12, rho_13, rho_14, rho_15, rho_16, rho_17, rho_18, rho_19, rho_20, rho_21, rho_22, rho_23, rho_24, th_0, th_1, th_2, th_3, th_4, th_5, th_6, th_7, th_8, th_9, th_10, th_11, th_12, th_13, th_14, th_15, th_16, th_17, th_18, th_19, th_20, th_21, th_22, th_23, th_24, cC_0, cC_1, cC_2, cC_3, cC_4]
  rfl
/-- The numbers after n rounds. -/
def pN (l : List Nat) : Nat → List Nat
  | 0 => l
  | n + 1 => stN (pN l n) (rcs.getD n 0 % 18446744073709551616)
theorem pN_kS (A : Nat → Lane) (n : Nat) : l25 (kS A n) = pN (l25 A) n := by
  induction n with
  | zero => rfl
  | succ n ih =>
    show l25 (kround (kS A n) (rcL n) offN) = stN (pN (l25 A) n) _
    rw [stN_round, ih]
    unfold rcL
    rw [BitVec.toNat_ofNat]
theorem pN_perm (A : Nat → Lane) : l25 (kperm A) = pN (l25 A) 24 := pN_kS A 24
end Go.Proofs.YtalhdalmafhofaaGreatDoor
