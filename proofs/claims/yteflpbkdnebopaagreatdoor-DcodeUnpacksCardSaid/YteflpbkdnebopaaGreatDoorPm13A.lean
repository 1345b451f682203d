/- Rows of the table, as lists; the program's named, afterDSA and afterKEM. The table's rows; what the tables of package params hold. -/
import Derived.Test.YteflpbkdnebopaaGreatDoorO9A
import Derived.Laws.Rows
import Derived.Laws.Tables
import Derived.Handy
import Derived.Laws.ResultCell
import Derived.Lib.LaidTab
namespace Go.Proofs.YteflpbkdnebopaaGreatDoor
open Go.RowKit
set_option linter.unusedVariables false

/-- A row of the table. -/
structure R13 where
  alg : Int
  fam : Int
  name : ByteArray
  pub : Int
  priv : Int
  seed : Int
  sig : Int
  text : ByteArray
  cose : Int
  typ : Int
/-- A set of parameters with an object identifier that lies somewhere. -/
abbrev setC (r : R13) (o : Value) : Array Value := #[.int .i64 r.alg, .int .i64 r.fam, .string r.name, .int .i64 r.pub, .int .i64 r.priv, .int .i64 r.seed, .int .i64 r.sig, o, .int .i64 r.cose, .int .u32 r.typ]
def setV (r : R13) (o : Value) : Value := .agg (setC r o)
abbrev zeroC : Array Value := #[.int .i64 0, .int .i64 0, .string ⟨#[]⟩, .int .i64 0, .int .i64 0, .int .i64 0, .int .i64 0, .slice none 0 0, .int .i64 0, .int .u32 0]
abbrev sizC (e : ByteArray) (p pr sd sg : Int) : Array Value := #[.string e, .int .i64 p, .int .i64 pr, .int .i64 sd, .int .i64 sg]
theorem resS (cs : Array Value) (h : cs.size = 10) : (Tryz.prog.info? 81).map (·.size) = some cs.size := by rw [h]; kernel_rfl
theorem past_alloc13 (w : World) (o : Obj) : Past w (w.alloc o) := (Below.refl w.heap.size w).alloc (Nat.le_refl _) o
theorem past_row13 {w W : World} {g : Nat} (h : Past w W) (hg : w.heap.size ≤ g) (cs : Array Value) : Past w (W.setRow g cs) :=
  ⟨h.os, h.tape, h.output, by simpa using h.size, fun i hi => (setRow_other W g i cs (by omega)).trans (h.block i hi)⟩
set_option maxHeartbeats 4000000 in
set_option maxRecDepth 100000 in
theorem named_any (alg fam : Int) (beg e : ByteArray) (p pr sd sg : Int) (w : World) (hz : beg.size + e.size ≤ 1000000) :
    Calls Tryz.prog 78 #[.int .i64 alg, .int .i64 fam, .string beg, .agg (sizC e p pr sd sg)] w fun r w' =>
      r = .returned (.agg #[.int .i64 alg, .int .i64 fam, .string (beg ++ e), .int .i64 p, .int .i64 pr, .int .i64 sd, .int .i64 sg, .slice none 0 0, .int .i64 0, .int .u32 0]) ∧ Past w w' := by
  have hadd := fun w : World => run_string_add_sum (P := Tryz.prog) (w := w) beg e (by omega)
  obtain ⟨B, hB⟩ : ∃ B, beg ++ e = B := ⟨_, rfl⟩
  rw [hB] at hadd ⊢
  clear hB hz
  have hrow : ∀ cs : Array Value, ((w.alloc (.cells (sizC e p pr sd sg) 159)).alloc (.cells cs 81)).heap[w.heap.size + 1]? = some (.cells cs 81) := fun cs => by
    have h := Row.new (w.alloc (.cells (sizC e p pr sd sg) 159)) 81 cs
    rw [World.size_alloc] at h
    exact h
  have HR := Lib.hid hrow
  clear hrow
  go_enter Tryz.func78, Tryz.ntmps78
  go_wp2_with fail
  refine bodyPost_ret (results_cell_row rfl _ _ _ _ _ _ _ rfl (HR.out _) Tryz.underlying81 rfl (resS _ (by rfl))) (by rfl) ?_
  exact ⟨rfl, (past_alloc13 _ _).trans' (past_alloc13 _ _)⟩
def itoB (i : Nat) : ByteArray := ⟨(Lib.decDigits i).toArray⟩
abbrev befDSA : ByteArray := ⟨#[50, 46, 49, 54, 46, 56, 52, 48, 46, 49, 46, 49, 48, 49, 46, 51, 46, 52, 46, 51, 46]⟩
abbrev befKEM : ByteArray := ⟨#[50, 46, 49, 54, 46, 56, 52, 48, 46, 49, 46, 49, 48, 49, 46, 51, 46, 52, 46, 52, 46]⟩
set_option maxHeartbeats 4000000 in
set_option maxRecDepth 100000 in
theorem afterDSA_any (n : Nat) (hn : n ≤ 20) (w : World) : Calls Tryz.prog 79 #[.int .i64 (n : Int)] w fun r w' => r = .returned (.tuple #[.int .i64 (-48 - (n : Int)), .string (befDSA ++ itoB (17 + n))]) ∧ w' = w := by
  have hz : (itoB (17 + n)).size ≤ 100 := by
    have : ∀ k : Fin 40, (itoB k.val).size ≤ 100 := by decide +kernel
    exact this ⟨17 + n, by omega⟩
  have hadd := fun w : World => run_string_add_sum (P := Tryz.prog) (w := w) befDSA (itoB (17 + n)) (by have : befDSA.size = 21 := rfl; omega)
  have HI := Lib.hid (Tryz.strconv_Itoa_small (17 + n) (by omega) w)
  have hw1 : IntKind.i64.wrap (-48 - (n : Int)) = -48 - (n : Int) := by rw [IntKind.wrap_i64]; omega
  obtain ⟨m, hm⟩ : ∃ m, 17 + n = m := ⟨_, rfl⟩
  have hw2 : IntKind.i64.wrap (17 + (n : Int)) = (m : Int) := by rw [IntKind.wrap_i64]; omega
  change Hid (Calls Tryz.prog 85 #[.int .i64 ((17 + n : Nat) : Int)] w fun e w' => e = .returned (.string (itoB (17 + n))) ∧ w' = w) at HI
  rw [hm] at HI hadd ⊢
  obtain ⟨D, hD⟩ : ∃ D, itoB m = D := ⟨_, rfl⟩
  rw [hD] at HI hadd ⊢
  obtain ⟨B, hB⟩ : ∃ B, befDSA ++ D = B := ⟨_, rfl⟩
  rw [hB] at hadd ⊢
  clear hz hm hD hB
  go_enter Tryz.func79, Tryz.ntmps79
  go_wp2_with fail
  refine (HI.out).mono ?_
  rintro e w1 ⟨rfl, hw⟩
  rw [hw]
  clear hw
  go_wp2_with fail
  go_ret2
  exact ⟨rfl, rfl⟩
set_option maxHeartbeats 4000000 in
set_option maxRecDepth 100000 in
theorem afterKEM_any (n : Nat) (hn : n ≤ 20) (w : World) : Calls Tryz.prog 80 #[.int .i64 (n : Int)] w fun r w' => r = .returned (.tuple #[.int .i64 (-111 - (n : Int)), .string (befKEM ++ itoB (1 + n))]) ∧ w' = w := by
  have hz : (itoB (1 + n)).size ≤ 100 := by
    have : ∀ k : Fin 40, (itoB k.val).size ≤ 100 := by decide +kernel
    exact this ⟨1 + n, by omega⟩
  have hadd := fun w : World => run_string_add_sum (P := Tryz.prog) (w := w) befKEM (itoB (1 + n)) (by have : befKEM.size = 21 := rfl; omega)
  have HI := Lib.hid (Tryz.strconv_Itoa_small (1 + n) (by omega) w)
  have hw1 : IntKind.i64.wrap (-111 - (n : Int)) = -111 - (n : Int) := by rw [IntKind.wrap_i64]; omega
  obtain ⟨m, hm⟩ : ∃ m, 1 + n = m := ⟨_, rfl⟩
  have hw2 : IntKind.i64.wrap (1 + (n : Int)) = (m : Int) := by rw [IntKind.wrap_i64]; omega
  change Hid (Calls Tryz.prog 85 #[.int .i64 ((1 + n : Nat) : Int)] w fun e w' => e = .returned (.string (itoB (1 + n))) ∧ w' = w) at HI
  rw [hm] at HI hadd ⊢
  obtain ⟨D, hD⟩ : ∃ D, itoB m = D := ⟨_, rfl⟩
  rw [hD] at HI hadd ⊢
  obtain ⟨B, hB⟩ : ∃ B, befKEM ++ D = B := ⟨_, rfl⟩
  rw [hB] at hadd ⊢
  clear hz hm hD hB
  go_enter Tryz.func80, Tryz.ntmps80
  go_wp2_with fail
  refine (HI.out).mono ?_
  rintro e w1 ⟨rfl, hw⟩
  rw [hw]
  clear hw
  go_wp2_with fail
  go_ret2
  exact ⟨rfl, rfl⟩
end Go.Proofs.YteflpbkdnebopaaGreatDoor

namespace Go.Proofs.YteflpbkdnebopaaGreatDoor
open Go.RowKit
set_option linter.unusedVariables false

def zero13 : R13 := { alg := 0, fam := 0, name := ⟨#[]⟩, pub := 0, priv := 0, seed := 0, sig := 0, text := ⟨#[]⟩, cose := 0, typ := 0 }
def tab13 : List R13 := [
  { alg := 1, fam := 1, name := ⟨#[77, 76, 45, 75, 69, 77, 45, 53, 49, 50]⟩, pub := 800, priv := 1632, seed := 64, sig := 0, text := ⟨#[50, 46, 49, 54, 46, 56, 52, 48, 46, 49, 46, 49, 48, 49, 46, 51, 46, 52, 46, 52, 46, 49]⟩, cose := -111, typ := 0 },
  { alg := 2, fam := 1, name := ⟨#[77, 76, 45, 75, 69, 77, 45, 55, 54, 56]⟩, pub := 1184, priv := 2400, seed := 64, sig := 0, text := ⟨#[50, 46, 49, 54, 46, 56, 52, 48, 46, 49, 46, 49, 48, 49, 46, 51, 46, 52, 46, 52, 46, 50]⟩, cose := -112, typ := 0 },
  { alg := 3, fam := 1, name := ⟨#[77, 76, 45, 75, 69, 77, 45, 49, 48, 50, 52]⟩, pub := 1568, priv := 3168, seed := 64, sig := 0, text := ⟨#[50, 46, 49, 54, 46, 56, 52, 48, 46, 49, 46, 49, 48, 49, 46, 51, 46, 52, 46, 52, 46, 51]⟩, cose := -113, typ := 0 },
  { alg := 4, fam := 2, name := ⟨#[77, 76, 45, 68, 83, 65, 45, 52, 52]⟩, pub := 1312, priv := 2560, seed := 32, sig := 2420, text := ⟨#[50, 46, 49, 54, 46, 56, 52, 48, 46, 49, 46, 49, 48, 49, 46, 51, 46, 52, 46, 51, 46, 49, 55]⟩, cose := -48, typ := 0 },
  { alg := 5, fam := 2, name := ⟨#[77, 76, 45, 68, 83, 65, 45, 54, 53]⟩, pub := 1952, priv := 4032, seed := 32, sig := 3309, text := ⟨#[50, 46, 49, 54, 46, 56, 52, 48, 46, 49, 46, 49, 48, 49, 46, 51, 46, 52, 46, 51, 46, 49, 56]⟩, cose := -49, typ := 0 },
  { alg := 6, fam := 2, name := ⟨#[77, 76, 45, 68, 83, 65, 45, 56, 55]⟩, pub := 2592, priv := 4896, seed := 32, sig := 4627, text := ⟨#[50, 46, 49, 54, 46, 56, 52, 48, 46, 49, 46, 49, 48, 49, 46, 51, 46, 52, 46, 51, 46, 49, 57]⟩, cose := -50, typ := 0 },
  { alg := 7, fam := 3, name := ⟨#[83, 76, 72, 45, 68, 83, 65, 45, 83, 72, 65, 50, 45, 49, 50, 56, 115]⟩, pub := 32, priv := 64, seed := 0, sig := 7856, text := ⟨#[50, 46, 49, 54, 46, 56, 52, 48, 46, 49, 46, 49, 48, 49, 46, 51, 46, 52, 46, 51, 46, 50, 48]⟩, cose := -51, typ := 0 },
  { alg := 8, fam := 3, name := ⟨#[83, 76, 72, 45, 68, 83, 65, 45, 83, 72, 65, 50, 45, 49, 50, 56, 102]⟩, pub := 32, priv := 64, seed := 0, sig := 17088, text := ⟨#[50, 46, 49, 54, 46, 56, 52, 48, 46, 49, 46, 49, 48, 49, 46, 51, 46, 52, 46, 51, 46, 50, 49]⟩, cose := -52, typ := 0 },
  { alg := 9, fam := 3, name := ⟨#[83, 76, 72, 45, 68, 83, 65, 45, 83, 72, 65, 50, 45, 49, 57, 50, 115]⟩, pub := 48, priv := 96, seed := 0, sig := 16224, text := ⟨#[50, 46, 49, 54, 46, 56, 52, 48, 46, 49, 46, 49, 48, 49, 46, 51, 46, 52, 46, 51, 46, 50, 50]⟩, cose := -53, typ := 0 },
  { alg := 10, fam := 3, name := ⟨#[83, 76, 72, 45, 68, 83, 65, 45, 83, 72, 65, 50, 45, 49, 57, 50, 102]⟩, pub := 48, priv := 96, seed := 0, sig := 35664, text := ⟨#[50, 46, 49, 54, 46, 56, 52, 48, 46, 49, 46, 49, 48, 49, 46, 51, 46, 52, 46, 51, 46, 50, 51]⟩, cose := -54, typ := 0 },
  { alg := 11, fam := 3, name := ⟨#[83, 76, 72, 45, 68, 83, 65, 45, 83, 72, 65, 50, 45, 50, 53, 54, 115]⟩, pub := 64, priv := 128, seed := 0, sig := 29792, text := ⟨#[50, 46, 49, 54, 46, 56, 52, 48, 46, 49, 46, 49, 48, 49, 46, 51, 46, 52, 46, 51, 46, 50, 52]⟩, cose := -55, typ := 0 },
  { alg := 12, fam := 3, name := ⟨#[83, 76, 72, 45, 68, 83, 65, 45, 83, 72, 65, 50, 45, 50, 53, 54, 102]⟩, pub := 64, priv := 128, seed := 0, sig := 49856, text := ⟨#[50, 46, 49, 54, 46, 56, 52, 48, 46, 49, 46, 49, 48, 49, 46, 51, 46, 52, 46, 51, 46, 50, 53]⟩, cose := -56, typ := 0 },
  { alg := 13, fam := 3, name := ⟨#[83, 76, 72, 45, 68, 83, 65, 45, 83, 72, 65, 75, 69, 45, 49, 50, 56, 115]⟩, pub := 32, priv := 64, seed := 0, sig := 7856, text := ⟨#[50, 46, 49, 54, 46, 56, 52, 48, 46, 49, 46, 49, 48, 49, 46, 51, 46, 52, 46, 51, 46, 50, 54]⟩, cose := -57, typ := 0 },
  { alg := 14, fam := 3, name := ⟨#[83, 76, 72, 45, 68, 83, 65, 45, 83, 72, 65, 75, 69, 45, 49, 50, 56, 102]⟩, pub := 32, priv := 64, seed := 0, sig := 17088, text := ⟨#[50, 46, 49, 54, 46, 56, 52, 48, 46, 49, 46, 49, 48, 49, 46, 51, 46, 52, 46, 51, 46, 50, 55]⟩, cose := -58, typ := 0 },
  { alg := 15, fam := 3, name := ⟨#[83, 76, 72, 45, 68, 83, 65, 45, 83, 72, 65, 75, 69, 45, 49, 57, 50, 115]⟩, pub := 48, priv := 96, seed := 0, sig := 16224, text := ⟨#[50, 46, 49, 54, 46, 56, 52, 48, 46, 49, 46, 49, 48, 49, 46, 51, 46, 52, 46, 51, 46, 50, 56]⟩, cose := -59, typ := 0 },
  { alg := 16, fam := 3, name := ⟨#[83, 76, 72, 45, 68, 83, 65, 45, 83, 72, 65, 75, 69, 45, 49, 57, 50, 102]⟩, pub := 48, priv := 96, seed := 0, sig := 35664, text := ⟨#[50, 46, 49, 54, 46, 56, 52, 48, 46, 49, 46, 49, 48, 49, 46, 51, 46, 52, 46, 51, 46, 50, 57]⟩, cose := -60, typ := 0 },
  { alg := 17, fam := 3, name := ⟨#[83, 76, 72, 45, 68, 83, 65, 45, 83, 72, 65, 75, 69, 45, 50, 53, 54, 115]⟩, pub := 64, priv := 128, seed := 0, sig := 29792, text := ⟨#[50, 46, 49, 54, 46, 56, 52, 48, 46, 49, 46, 49, 48, 49, 46, 51, 46, 52, 46, 51, 46, 51, 48]⟩, cose := -61, typ := 0 },
  { alg := 18, fam := 3, name := ⟨#[83, 76, 72, 45, 68, 83, 65, 45, 83, 72, 65, 75, 69, 45, 50, 53, 54, 102]⟩, pub := 64, priv := 128, seed := 0, sig := 49856, text := ⟨#[50, 46, 49, 54, 46, 56, 52, 48, 46, 49, 46, 49, 48, 49, 46, 51, 46, 52, 46, 51, 46, 51, 49]⟩, cose := -62, typ := 0 },
  { alg := 19, fam := 4, name := ⟨#[72, 83, 83, 47, 76, 77, 83]⟩, pub := 0, priv := 0, seed := 0, sig := 0, text := ⟨#[49, 46, 50, 46, 56, 52, 48, 46, 49, 49, 51, 53, 52, 57, 46, 49, 46, 57, 46, 49, 54, 46, 51, 46, 49, 55]⟩, cose := 0, typ := 0 },
  { alg := 20, fam := 5, name := ⟨#[88, 77, 83, 83, 45, 83, 72, 65, 50, 95, 49, 48, 95, 50, 53, 54]⟩, pub := 68, priv := 0, seed := 0, sig := 2500, text := ⟨#[49, 46, 51, 46, 54, 46, 49, 46, 53, 46, 53, 46, 55, 46, 54, 46, 51, 52]⟩, cose := 0, typ := 1 },
  { alg := 21, fam := 5, name := ⟨#[88, 77, 83, 83, 45, 83, 72, 65, 50, 95, 49, 54, 95, 50, 53, 54]⟩, pub := 68, priv := 0, seed := 0, sig := 2692, text := ⟨#[49, 46, 51, 46, 54, 46, 49, 46, 53, 46, 53, 46, 55, 46, 54, 46, 51, 52]⟩, cose := 0, typ := 2 },
  { alg := 22, fam := 5, name := ⟨#[88, 77, 83, 83, 45, 83, 72, 65, 50, 95, 50, 48, 95, 50, 53, 54]⟩, pub := 68, priv := 0, seed := 0, sig := 2820, text := ⟨#[49, 46, 51, 46, 54, 46, 49, 46, 53, 46, 53, 46, 55, 46, 54, 46, 51, 52]⟩, cose := 0, typ := 3 },
  { alg := 23, fam := 5, name := ⟨#[88, 77, 83, 83, 45, 83, 72, 65, 50, 95, 49, 48, 95, 53, 49, 50]⟩, pub := 132, priv := 0, seed := 0, sig := 9092, text := ⟨#[49, 46, 51, 46, 54, 46, 49, 46, 53, 46, 53, 46, 55, 46, 54, 46, 51, 52]⟩, cose := 0, typ := 4 },
  { alg := 24, fam := 5, name := ⟨#[88, 77, 83, 83, 45, 83, 72, 65, 50, 95, 49, 54, 95, 53, 49, 50]⟩, pub := 132, priv := 0, seed := 0, sig := 9476, text := ⟨#[49, 46, 51, 46, 54, 46, 49, 46, 53, 46, 53, 46, 55, 46, 54, 46, 51, 52]⟩, cose := 0, typ := 5 },
  { alg := 25, fam := 5, name := ⟨#[88, 77, 83, 83, 45, 83, 72, 65, 50, 95, 50, 48, 95, 53, 49, 50]⟩, pub := 132, priv := 0, seed := 0, sig := 9732, text := ⟨#[49, 46, 51, 46, 54, 46, 49, 46, 53, 46, 53, 46, 55, 46, 54, 46, 51, 52]⟩, cose := 0, typ := 6 }]
def row13 (a : Int) : R13 := if 1 ≤ a ∧ a ≤ 25 then tab13.getD (a.toNat - 1) zero13 else zero13

def cellsKEM : Array Value := #[.string ⟨#[53, 49, 50]⟩, .int .i64 800, .int .i64 1632, .int .i64 64, .int .i64 0, .string ⟨#[55, 54, 56]⟩, .int .i64 1184, .int .i64 2400, .int .i64 64, .int .i64 0, .string ⟨#[49, 48, 50, 52]⟩, .int .i64 1568, .int .i64 3168, .int .i64 64, .int .i64 0]
def cellsDSA : Array Value := #[.string ⟨#[52, 52]⟩, .int .i64 1312, .int .i64 2560, .int .i64 32, .int .i64 2420, .string ⟨#[54, 53]⟩, .int .i64 1952, .int .i64 4032, .int .i64 32, .int .i64 3309, .string ⟨#[56, 55]⟩, .int .i64 2592, .int .i64 4896, .int .i64 32, .int .i64 4627]
def cellsSLH : Array Value := #[.string ⟨#[49, 50, 56, 115]⟩, .int .i64 32, .int .i64 64, .int .i64 0, .int .i64 7856, .string ⟨#[49, 50, 56, 102]⟩, .int .i64 32, .int .i64 64, .int .i64 0, .int .i64 17088, .string ⟨#[49, 57, 50, 115]⟩, .int .i64 48, .int .i64 96, .int .i64 0, .int .i64 16224, .string ⟨#[49, 57, 50, 102]⟩, .int .i64 48, .int .i64 96, .int .i64 0, .int .i64 35664, .string ⟨#[50, 53, 54, 115]⟩, .int .i64 64, .int .i64 128, .int .i64 0, .int .i64 29792, .string ⟨#[50, 53, 54, 102]⟩, .int .i64 64, .int .i64 128, .int .i64 0, .int .i64 49856]
def cellsXMSS : Array Value := #[.string ⟨#[49, 48, 95, 50, 53, 54]⟩, .int .i64 68, .int .i64 0, .int .i64 0, .int .i64 2500, .string ⟨#[49, 54, 95, 50, 53, 54]⟩, .int .i64 68, .int .i64 0, .int .i64 0, .int .i64 2692, .string ⟨#[50, 48, 95, 50, 53, 54]⟩, .int .i64 68, .int .i64 0, .int .i64 0, .int .i64 2820, .string ⟨#[49, 48, 95, 53, 49, 50]⟩, .int .i64 132, .int .i64 0, .int .i64 0, .int .i64 9092, .string ⟨#[49, 54, 95, 53, 49, 50]⟩, .int .i64 132, .int .i64 0, .int .i64 0, .int .i64 9476, .string ⟨#[50, 48, 95, 53, 49, 50]⟩, .int .i64 132, .int .i64 0, .int .i64 0, .int .i64 9732]
/-- What the variables hold that a run reads. -/
structure Glob13 (w : World) : Prop where
  lib : Glob w
  kem : w.var? Tryz.prog "pyx/params.sizesKEM" = some cellsKEM
  dsa : w.var? Tryz.prog "pyx/params.sizesDSA" = some cellsDSA
  slh : w.var? Tryz.prog "pyx/params.sizesSLH" = some cellsSLH
  xms : w.var? Tryz.prog "pyx/params.sizesXMSS" = some cellsXMSS
theorem Glob13.past {w w' : World} (h : Glob13 w) (hp : Past w w') : Glob13 w' :=
  ⟨h.lib.past hp, var_past (g := 4) (by kernel_rfl) h.kem hp, var_past (g := 3) (by kernel_rfl) h.dsa hp, var_past (g := 2) (by kernel_rfl) h.slh hp, var_past (g := 1) (by kernel_rfl) h.xms hp⟩
theorem Glob13.kemAt {w : World} (h : Glob13 w) (i : Nat) : w.cell? ⟨4, i, none⟩ = cellsKEM[i]? := World.var?_cell (by kernel_rfl) h.kem i
theorem Glob13.dsaAt {w : World} (h : Glob13 w) (i : Nat) : w.cell? ⟨3, i, none⟩ = cellsDSA[i]? := World.var?_cell (by kernel_rfl) h.dsa i
theorem Glob13.slhAt {w : World} (h : Glob13 w) (i : Nat) : w.cell? ⟨2, i, none⟩ = cellsSLH[i]? := World.var?_cell (by kernel_rfl) h.slh i
theorem Glob13.xmsAt {w : World} (h : Glob13 w) (i : Nat) : w.cell? ⟨1, i, none⟩ = cellsXMSS[i]? := World.var?_cell (by kernel_rfl) h.xms i
theorem results_cr {fn : Func} {p u : Tmp} {ty : TypeId} (h : fn.results = #[.cell p ty, .tmp u]) (tmps : Array Value) {P : Program} (w : World) (a : Addr) (v : Value)
    (hp : tmps.getD p undef = .pointer (some a)) (hl : (loadVar ty a).run P w = .ok v w) :
    (results fn tmps).run P w = .ok (.tuple #[v, tmps.getD u undef]) w := by
  rw [results_cell_tmp h, hp]
  simp [asAddr, Result.andThen, hl]
/-- A set in a row of its own, loaded. -/
theorem load_set (w : World) (g : Nat) (cs : Array Value) (hg : w.heap[g]? = some (.cells cs 81)) (h : cs.size = 10) : (loadVar 81 ⟨g, 0, none⟩).run Tryz.prog w = .ok (.agg cs) w :=
  run_loadVar_row w g 81 81 cs (0, 0) _ hg Tryz.underlying81 rfl (by rw [h]; kernel_rfl)
end Go.Proofs.YteflpbkdnebopaaGreatDoor
