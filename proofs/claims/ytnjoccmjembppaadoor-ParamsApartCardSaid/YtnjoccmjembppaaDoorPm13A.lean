/- Rows of the table, as lists; the program's named, afterDSA and afterKEM. -/
import Derived.Test.YtnjoccmjembppaaDoorO9F
import Derived.Laws.Rows
import Derived.Laws.Tables
import Derived.Handy
import Derived.Laws.ResultCell
namespace Go.Proofs.YtnjoccmjembppaaDoor
open Go.RowKit
set_option linter.unusedVariables false

/-- A row of the table. -/
structure R13 where
  alg : Int
  fam : Int
  name : ByteArray
  pub : Int
  priv : Int
  seed : Int
  sig : Int
  text : ByteArray
  cose : Int
  typ : Int
/-- A set of parameters with an object identifier that lies somewhere. -/
abbrev setC (r : R13) (o : Value) : Array Value := #[.int .i64 r.alg, .int .i64 r.fam, .string r.name, .int .i64 r.pub, .int .i64 r.priv, .int .i64 r.seed, .int .i64 r.sig, o, .int .i64 r.cose, .int .u32 r.typ]
def setV (r : R13) (o : Value) : Value := .agg (setC r o)
abbrev zeroC : Array Value := #[.int .i64 0, .int .i64 0, .string ⟨#[]⟩, .int .i64 0, .int .i64 0, .int .i64 0, .int .i64 0, .slice none 0 0, .int .i64 0, .int .u32 0]
abbrev sizC (e : ByteArray) (p pr sd sg : Int) : Array Value := #[.string e, .int .i64 p, .int .i64 pr, .int .i64 sd, .int .i64 sg]
theorem resS (cs : Array Value) (h : cs.size = 10) : (Tryd.prog.info? 26).map (·.size) = some cs.size := by rw [h]; kernel_rfl
theorem past_alloc13 (w : World) (o : Obj) : Past w (w.alloc o) := (Below.refl w.heap.size w).alloc (Nat.le_refl _) o
theorem past_row13 {w W : World} {g : Nat} (h : Past w W) (hg : w.heap.size ≤ g) (cs : Array Value) : Past w (W.setRow g cs) :=
  ⟨h.os, h.tape, h.output, by simpa using h.size, fun i hi => (setRow_other W g i cs (by omega)).trans (h.block i hi)⟩
set_option maxHeartbeats 4000000 in
set_option maxRecDepth 100000 in
theorem named_any (alg fam : Int) (beg e : ByteArray) (p pr sd sg : Int) (w : World) (hz : beg.size + e.size ≤ 1000000) :
    Calls Tryd.prog 34 #[.int .i64 alg, .int .i64 fam, .string beg, .agg (sizC e p pr sd sg)] w fun r w' =>
      r = .returned (.agg #[.int .i64 alg, .int .i64 fam, .string (beg ++ e), .int .i64 p, .int .i64 pr, .int .i64 sd, .int .i64 sg, .slice none 0 0, .int .i64 0, .int .u32 0]) ∧ Past w w' := by
  have hadd := fun w : World => run_string_add_sum (P := Tryd.prog) (w := w) beg e (by omega)
  obtain ⟨B, hB⟩ : ∃ B, beg ++ e = B := ⟨_, rfl⟩
  rw [hB] at hadd ⊢
  clear hB hz
  have hrow : ∀ cs : Array Value, ((w.alloc (.cells (sizC e p pr sd sg) 61)).alloc (.cells cs 26)).heap[w.heap.size + 1]? = some (.cells cs 26) := fun cs => by
    have h := Row.new (w.alloc (.cells (sizC e p pr sd sg) 61)) 26 cs
    rw [World.size_alloc] at h
    exact h
  have HR := Lib.hid hrow
  clear hrow
  go_enter Tryd.func34, Tryd.ntmps34
  go_wp2_with fail
  refine bodyPost_ret (results_cell_row rfl _ _ _ _ _ _ _ rfl (HR.out _) Tryd.underlying26 rfl (resS _ (by rfl))) (by rfl) ?_
  exact ⟨rfl, (past_alloc13 _ _).trans' (past_alloc13 _ _)⟩
def itoB (i : Nat) : ByteArray := ⟨(Lib.decDigits i).toArray⟩
abbrev befDSA : ByteArray := ⟨#[50, 46, 49, 54, 46, 56, 52, 48, 46, 49, 46, 49, 48, 49, 46, 51, 46, 52, 46, 51, 46]⟩
abbrev befKEM : ByteArray := ⟨#[50, 46, 49, 54, 46, 56, 52, 48, 46, 49, 46, 49, 48, 49, 46, 51, 46, 52, 46, 52, 46]⟩
set_option maxHeartbeats 4000000 in
set_option maxRecDepth 100000 in
theorem afterDSA_any (n : Nat) (hn : n ≤ 20) (w : World) : Calls Tryd.prog 35 #[.int .i64 (n : Int)] w fun r w' => r = .returned (.tuple #[.int .i64 (-48 - (n : Int)), .string (befDSA ++ itoB (17 + n))]) ∧ w' = w := by
  have hz : (itoB (17 + n)).size ≤ 100 := by
    have : ∀ k : Fin 40, (itoB k.val).size ≤ 100 := by decide +kernel
    exact this ⟨17 + n, by omega⟩
  have hadd := fun w : World => run_string_add_sum (P := Tryd.prog) (w := w) befDSA (itoB (17 + n)) (by have : befDSA.size = 21 := rfl; omega)
  have HI := Lib.hid (Tryd.strconv_Itoa_small (17 + n) (by omega) w)
  have hw1 : IntKind.i64.wrap (-48 - (n : Int)) = -48 - (n : Int) := by rw [IntKind.wrap_i64]; omega
  obtain ⟨m, hm⟩ : ∃ m, 17 + n = m := ⟨_, rfl⟩
  have hw2 : IntKind.i64.wrap (17 + (n : Int)) = (m : Int) := by rw [IntKind.wrap_i64]; omega
  change Hid (Calls Tryd.prog 42 #[.int .i64 ((17 + n : Nat) : Int)] w fun e w' => e = .returned (.string (itoB (17 + n))) ∧ w' = w) at HI
  rw [hm] at HI hadd ⊢
  obtain ⟨D, hD⟩ : ∃ D, itoB m = D := ⟨_, rfl⟩
  rw [hD] at HI hadd ⊢
  obtain ⟨B, hB⟩ : ∃ B, befDSA ++ D = B := ⟨_, rfl⟩
  rw [hB] at hadd ⊢
  clear hz hm hD hB
  go_enter Tryd.func35, Tryd.ntmps35
  go_wp2_with fail
  refine (HI.out).mono ?_
  rintro e w1 ⟨rfl, hw⟩
  rw [hw]
  clear hw
  go_wp2_with fail
  go_ret2
  exact ⟨rfl, rfl⟩
set_option maxHeartbeats 4000000 in
set_option maxRecDepth 100000 in
theorem afterKEM_any (n : Nat) (hn : n ≤ 20) (w : World) : Calls Tryd.prog 36 #[.int .i64 (n : Int)] w fun r w' => r = .returned (.tuple #[.int .i64 (-111 - (n : Int)), .string (befKEM ++ itoB (1 + n))]) ∧ w' = w := by
  have hz : (itoB (1 + n)).size ≤ 100 := by
    have : ∀ k : Fin 40, (itoB k.val).size ≤ 100 := by decide +kernel
    exact this ⟨1 + n, by omega⟩
  have hadd := fun w : World => run_string_add_sum (P := Tryd.prog) (w := w) befKEM (itoB (1 + n)) (by have : befKEM.size = 21 := rfl; omega)
  have HI := Lib.hid (Tryd.strconv_Itoa_small (1 + n) (by omega) w)
  have hw1 : IntKind.i64.wrap (-111 - (n : Int)) = -111 - (n : Int) := by rw [IntKind.wrap_i64]; omega
  obtain ⟨m, hm⟩ : ∃ m, 1 + n = m := ⟨_, rfl⟩
  have hw2 : IntKind.i64.wrap (1 + (n : Int)) = (m : Int) := by rw [IntKind.wrap_i64]; omega
  change Hid (Calls Tryd.prog 42 #[.int .i64 ((1 + n : Nat) : Int)] w fun e w' => e = .returned (.string (itoB (1 + n))) ∧ w' = w) at HI
  rw [hm] at HI hadd ⊢
  obtain ⟨D, hD⟩ : ∃ D, itoB m = D := ⟨_, rfl⟩
  rw [hD] at HI hadd ⊢
  obtain ⟨B, hB⟩ : ∃ B, befKEM ++ D = B := ⟨_, rfl⟩
  rw [hB] at hadd ⊢
  clear hz hm hD hB
  go_enter Tryd.func36, Tryd.ntmps36
  go_wp2_with fail
  refine (HI.out).mono ?_
  rintro e w1 ⟨rfl, hw⟩
  rw [hw]
  clear hw
  go_wp2_with fail
  go_ret2
  exact ⟨rfl, rfl⟩
end Go.Proofs.YtnjoccmjembppaaDoor
