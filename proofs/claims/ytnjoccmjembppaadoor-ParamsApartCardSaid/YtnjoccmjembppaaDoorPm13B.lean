/- The table's rows; what the tables of package params hold. -/
import Derived.Test.YtnjoccmjembppaaDoorPm13A
import Derived.Lib.LaidTab
namespace Go.Proofs.YtnjoccmjembppaaDoor
open Go.RowKit
set_option linter.unusedVariables false

def zero13 : R13 := { alg := 0, fam := 0, name := ⟨#[]⟩, pub := 0, priv := 0, seed := 0, sig := 0, text := ⟨#[]⟩, cose := 0, typ := 0 }
def tab13 : List R13 := [
  { alg := 1, fam := 1, name := ⟨#[77, 76, 45, 75, 69, 77, 45, 53, 49, 50]⟩, pub := 800, priv := 1632, seed := 64, sig := 0, text := ⟨#[50, 46, 49, 54, 46, 56, 52, 48, 46, 49, 46, 49, 48, 49, 46, 51, 46, 52, 46, 52, 46, 49]⟩, cose := -111, typ := 0 },
  { alg := 2, fam := 1, name := ⟨#[77, 76, 45, 75, 69, 77, 45, 55, 54, 56]⟩, pub := 1184, priv := 2400, seed := 64, sig := 0, text := ⟨#[50, 46, 49, 54, 46, 56, 52, 48, 46, 49, 46, 49, 48, 49, 46, 51, 46, 52, 46, 52, 46, 50]⟩, cose := -112, typ := 0 },
  { alg := 3, fam := 1, name := ⟨#[77, 76, 45, 75, 69, 77, 45, 49, 48, 50, 52]⟩, pub := 1568, priv := 3168, seed := 64, sig := 0, text := ⟨#[50, 46, 49, 54, 46, 56, 52, 48, 46, 49, 46, 49, 48, 49, 46, 51, 46, 52, 46, 52, 46, 51]⟩, cose := -113, typ := 0 },
  { alg := 4, fam := 2, name := ⟨#[77, 76, 45, 68, 83, 65, 45, 52, 52]⟩, pub := 1312, priv := 2560, seed := 32, sig := 2420, text := ⟨#[50, 46, 49, 54, 46, 56, 52, 48, 46, 49, 46, 49, 48, 49, 46, 51, 46, 52, 46, 51, 46, 49, 55]⟩, cose := -48, typ := 0 },
  { alg := 5, fam := 2, name := ⟨#[77, 76, 45, 68, 83, 65, 45, 54, 53]⟩, pub := 1952, priv := 4032, seed := 32, sig := 3309, text := ⟨#[50, 46, 49, 54, 46, 56, 52, 48, 46, 49, 46, 49, 48, 49, 46, 51, 46, 52, 46, 51, 46, 49, 56]⟩, cose := -49, typ := 0 },
  { alg := 6, fam := 2, name := ⟨#[77, 76, 45, 68, 83, 65, 45, 56, 55]⟩, pub := 2592, priv := 4896, seed := 32, sig := 4627, text := ⟨#[50, 46, 49, 54, 46, 56, 52, 48, 46, 49, 46, 49, 48, 49, 46, 51, 46, 52, 46, 51, 46, 49, 57]⟩, cose := -50, typ := 0 },
  { alg := 7, fam := 3, name := ⟨#[83, 76, 72, 45, 68, 83, 65, 45, 83, 72, 65, 50, 45, 49, 50, 56, 115]⟩, pub := 32, priv := 64, seed := 0, sig := 7856, text := ⟨#[50, 46, 49, 54, 46, 56, 52, 48, 46, 49, 46, 49, 48, 49, 46, 51, 46, 52, 46, 51, 46, 50, 48]⟩, cose := -51, typ := 0 },
  { alg := 8, fam := 3, name := ⟨#[83, 76, 72, 45, 68, 83, 65, 45, 83, 72, 65, 50, 45, 49, 50, 56, 102]⟩, pub := 32, priv := 64, seed := 0, sig := 17088, text := ⟨#[50, 46, 49, 54, 46, 56, 52, 48, 46, 49, 46, 49, 48, 49, 46, 51, 46, 52, 46, 51, 46, 50, 49]⟩, cose := -52, typ := 0 },
  { alg := 9, fam := 3, name := ⟨#[83, 76, 72, 45, 68, 83, 65, 45, 83, 72, 65, 50, 45, 49, 57, 50, 115]⟩, pub := 48, priv := 96, seed := 0, sig := 16224, text := ⟨#[50, 46, 49, 54, 46, 56, 52, 48, 46, 49, 46, 49, 48, 49, 46, 51, 46, 52, 46, 51, 46, 50, 50]⟩, cose := -53, typ := 0 },
  { alg := 10, fam := 3, name := ⟨#[83, 76, 72, 45, 68, 83, 65, 45, 83, 72, 65, 50, 45, 49, 57, 50, 102]⟩, pub := 48, priv := 96, seed := 0, sig := 35664, text := ⟨#[50, 46, 49, 54, 46, 56, 52, 48, 46, 49, 46, 49, 48, 49, 46, 51, 46, 52, 46, 51, 46, 50, 51]⟩, cose := -54, typ := 0 },
  { alg := 11, fam := 3, name := ⟨#[83, 76, 72, 45, 68, 83, 65, 45, 83, 72, 65, 50, 45, 50, 53, 54, 115]⟩, pub := 64, priv := 128, seed := 0, sig := 29792, text := ⟨#[50, 46, 49, 54, 46, 56, 52, 48, 46, 49, 46, 49, 48, 49, 46, 51, 46, 52, 46, 51, 46, 50, 52]⟩, cose := -55, typ := 0 },
  { alg := 12, fam := 3, name := ⟨#[83, 76, 72, 45, 68, 83, 65, 45, 83, 72, 65, 50, 45, 50, 53, 54, 102]⟩, pub := 64, priv := 128, seed := 0, sig := 49856, text := ⟨#[50, 46, 49, 54, 46, 56, 52, 48, 46, 49, 46, 49, 48, 49, 46, 51, 46, 52, 46, 51, 46, 50, 53]⟩, cose := -56, typ := 0 },
  { alg := 13, fam := 3, name := ⟨#[83, 76, 72, 45, 68, 83, 65, 45, 83, 72, 65, 75, 69, 45, 49, 50, 56, 115]⟩, pub := 32, priv := 64, seed := 0, sig := 7856, text := ⟨#[50, 46, 49, 54, 46, 56, 52, 48, 46, 49, 46, 49, 48, 49, 46, 51, 46, 52, 46, 51, 46, 50, 54]⟩, cose := -57, typ := 0 },
  { alg := 14, fam := 3, name := ⟨#[83, 76, 72, 45, 68, 83, 65, 45, 83, 72, 65, 75, 69, 45, 49, 50, 56, 102]⟩, pub := 32, priv := 64, seed := 0, sig := 17088, text := ⟨#[50, 46, 49, 54, 46, 56, 52, 48, 46, 49, 46, 49, 48, 49, 46, 51, 46, 52, 46, 51, 46, 50, 55]⟩, cose := -58, typ := 0 },
  { alg := 15, fam := 3, name := ⟨#[83, 76, 72, 45, 68, 83, 65, 45, 83, 72, 65, 75, 69, 45, 49, 57, 50, 115]⟩, pub := 48, priv := 96, seed := 0, sig := 16224, text := ⟨#[50, 46, 49, 54, 46, 56, 52, 48, 46, 49, 46, 49, 48, 49, 46, 51, 46, 52, 46, 51, 46, 50, 56]⟩, cose := -59, typ := 0 },
  { alg := 16, fam := 3, name := ⟨#[83, 76, 72, 45, 68, 83, 65, 45, 83, 72, 65, 75, 69, 45, 49, 57, 50, 102]⟩, pub := 48, priv := 96, seed := 0, sig := 35664, text := ⟨#[50, 46, 49, 54, 46, 56, 52, 48, 46, 49, 46, 49, 48, 49, 46, 51, 46, 52, 46, 51, 46, 50, 57]⟩, cose := -60, typ := 0 },
  { alg := 17, fam := 3, name := ⟨#[83, 76, 72, 45, 68, 83, 65, 45, 83, 72, 65, 75, 69, 45, 50, 53, 54, 115]⟩, pub := 64, priv := 128, seed := 0, sig := 29792, text := ⟨#[50, 46, 49, 54, 46, 56, 52, 48, 46, 49, 46, 49, 48, 49, 46, 51, 46, 52, 46, 51, 46, 51, 48]⟩, cose := -61, typ := 0 },
  { alg := 18, fam := 3, name := ⟨#[83, 76, 72, 45, 68, 83, 65, 45, 83, 72, 65, 75, 69, 45, 50, 53, 54, 102]⟩, pub := 64, priv := 128, seed := 0, sig := 49856, text := ⟨#[50, 46, 49, 54, 46, 56, 52, 48, 46, 49, 46, 49, 48, 49, 46, 51, 46, 52, 46, 51, 46, 51, 49]⟩, cose := -62, typ := 0 },
  { alg := 19, fam := 4, name := ⟨#[72, 83, 83, 47, 76, 77, 83]⟩, pub := 0, priv := 0, seed := 0, sig := 0, text := ⟨#[49, 46, 50, 46, 56, 52, 48, 46, 49, 49, 51, 53, 52, 57, 46, 49, 46, 57, 46, 49, 54, 46, 51, 46, 49, 55]⟩, cose := 0, typ := 0 },
  { alg := 20, fam := 5, name := ⟨#[88, 77, 83, 83, 45, 83, 72, 65, 50, 95, 49, 48, 95, 50, 53, 54]⟩, pub := 68, priv := 0, seed := 0, sig := 2500, text := ⟨#[49, 46, 51, 46, 54, 46, 49, 46, 53, 46, 53, 46, 55, 46, 54, 46, 51, 52]⟩, cose := 0, typ := 1 },
  { alg := 21, fam := 5, name := ⟨#[88, 77, 83, 83, 45, 83, 72, 65, 50, 95, 49, 54, 95, 50, 53, 54]⟩, pub := 68, priv := 0, seed := 0, sig := 2692, text := ⟨#[49, 46, 51, 46, 54, 46, 49, 46, 53, 46, 53, 46, 55, 46, 54, 46, 51, 52]⟩, cose := 0, typ := 2 },
  { alg := 22, fam := 5, name := ⟨#[88, 77, 83, 83, 45, 83, 72, 65, 50, 95, 50, 48, 95, 50, 53, 54]⟩, pub := 68, priv := 0, seed := 0, sig := 2820, text := ⟨#[49, 46, 51, 46, 54, 46, 49, 46, 53, 46, 53, 46, 55, 46, 54, 46, 51, 52]⟩, cose := 0, typ := 3 },
  { alg := 23, fam := 5, name := ⟨#[88, 77, 83, 83, 45, 83, 72, 65, 50, 95, 49, 48, 95, 53, 49, 50]⟩, pub := 132, priv := 0, seed := 0, sig := 9092, text := ⟨#[49, 46, 51, 46, 54, 46, 49, 46, 53, 46, 53, 46, 55, 46, 54, 46, 51, 52]⟩, cose := 0, typ := 4 },
  { alg := 24, fam := 5, name := ⟨#[88, 77, 83, 83, 45, 83, 72, 65, 50, 95, 49, 54, 95, 53, 49, 50]⟩, pub := 132, priv := 0, seed := 0, sig := 9476, text := ⟨#[49, 46, 51, 46, 54, 46, 49, 46, 53, 46, 53, 46, 55, 46, 54, 46, 51, 52]⟩, cose := 0, typ := 5 },
  { alg := 25, fam := 5, name := ⟨#[88, 77, 83, 83, 45, 83, 72, 65, 50, 95, 50, 48, 95, 53, 49, 50]⟩, pub := 132, priv := 0, seed := 0, sig := 9732, text := ⟨#[49, 46, 51, 46, 54, 46, 49, 46, 53, 46, 53, 46, 55, 46, 54, 46, 51, 52]⟩, cose := 0, typ := 6 }]
def row13 (a : Int) : R13 := if 1 ≤ a ∧ a ≤ 25 then tab13.getD (a.toNat - 1) zero13 else zero13

def cellsKEM : Array Value := #[.string ⟨#[53, 49, 50]⟩, .int .i64 800, .int .i64 1632, .int .i64 64, .int .i64 0, .string ⟨#[55, 54, 56]⟩, .int .i64 1184, .int .i64 2400, .int .i64 64, .int .i64 0, .string ⟨#[49, 48, 50, 52]⟩, .int .i64 1568, .int .i64 3168, .int .i64 64, .int .i64 0]
def cellsDSA : Array Value := #[.string ⟨#[52, 52]⟩, .int .i64 1312, .int .i64 2560, .int .i64 32, .int .i64 2420, .string ⟨#[54, 53]⟩, .int .i64 1952, .int .i64 4032, .int .i64 32, .int .i64 3309, .string ⟨#[56, 55]⟩, .int .i64 2592, .int .i64 4896, .int .i64 32, .int .i64 4627]
def cellsSLH : Array Value := #[.string ⟨#[49, 50, 56, 115]⟩, .int .i64 32, .int .i64 64, .int .i64 0, .int .i64 7856, .string ⟨#[49, 50, 56, 102]⟩, .int .i64 32, .int .i64 64, .int .i64 0, .int .i64 17088, .string ⟨#[49, 57, 50, 115]⟩, .int .i64 48, .int .i64 96, .int .i64 0, .int .i64 16224, .string ⟨#[49, 57, 50, 102]⟩, .int .i64 48, .int .i64 96, .int .i64 0, .int .i64 35664, .string ⟨#[50, 53, 54, 115]⟩, .int .i64 64, .int .i64 128, .int .i64 0, .int .i64 29792, .string ⟨#[50, 53, 54, 102]⟩, .int .i64 64, .int .i64 128, .int .i64 0, .int .i64 49856]
def cellsXMSS : Array Value := #[.string ⟨#[49, 48, 95, 50, 53, 54]⟩, .int .i64 68, .int .i64 0, .int .i64 0, .int .i64 2500, .string ⟨#[49, 54, 95, 50, 53, 54]⟩, .int .i64 68, .int .i64 0, .int .i64 0, .int .i64 2692, .string ⟨#[50, 48, 95, 50, 53, 54]⟩, .int .i64 68, .int .i64 0, .int .i64 0, .int .i64 2820, .string ⟨#[49, 48, 95, 53, 49, 50]⟩, .int .i64 132, .int .i64 0, .int .i64 0, .int .i64 9092, .string ⟨#[49, 54, 95, 53, 49, 50]⟩, .int .i64 132, .int .i64 0, .int .i64 0, .int .i64 9476, .string ⟨#[50, 48, 95, 53, 49, 50]⟩, .int .i64 132, .int .i64 0, .int .i64 0, .int .i64 9732]
/-- What the variables hold that a run reads. -/
structure Glob13 (w : World) : Prop where
  lib : Glob w
  kem : w.var? Tryd.prog "pyx/params.sizesKEM" = some cellsKEM
  dsa : w.var? Tryd.prog "pyx/params.sizesDSA" = some cellsDSA
  slh : w.var? Tryd.prog "pyx/params.sizesSLH" = some cellsSLH
  xms : w.var? Tryd.prog "pyx/params.sizesXMSS" = some cellsXMSS
theorem Glob13.past {w w' : World} (h : Glob13 w) (hp : Past w w') : Glob13 w' :=
  ⟨h.lib.past hp, var_past (g := 3) (by kernel_rfl) h.kem hp, var_past (g := 2) (by kernel_rfl) h.dsa hp, var_past (g := 1) (by kernel_rfl) h.slh hp, var_past (g := 0) (by kernel_rfl) h.xms hp⟩
theorem Glob13.kemAt {w : World} (h : Glob13 w) (i : Nat) : w.cell? ⟨3, i, none⟩ = cellsKEM[i]? := World.var?_cell (by kernel_rfl) h.kem i
theorem Glob13.dsaAt {w : World} (h : Glob13 w) (i : Nat) : w.cell? ⟨2, i, none⟩ = cellsDSA[i]? := World.var?_cell (by kernel_rfl) h.dsa i
theorem Glob13.slhAt {w : World} (h : Glob13 w) (i : Nat) : w.cell? ⟨1, i, none⟩ = cellsSLH[i]? := World.var?_cell (by kernel_rfl) h.slh i
theorem Glob13.xmsAt {w : World} (h : Glob13 w) (i : Nat) : w.cell? ⟨0, i, none⟩ = cellsXMSS[i]? := World.var?_cell (by kernel_rfl) h.xms i
theorem results_cr {fn : Func} {p u : Tmp} {ty : TypeId} (h : fn.results = #[.cell p ty, .tmp u]) (tmps : Array Value) {P : Program} (w : World) (a : Addr) (v : Value)
    (hp : tmps.getD p undef = .pointer (some a)) (hl : (loadVar ty a).run P w = .ok v w) :
    (results fn tmps).run P w = .ok (.tuple #[v, tmps.getD u undef]) w := by
  rw [results_cell_tmp h, hp]
  simp [asAddr, Result.andThen, hl]
/-- A set in a row of its own, loaded. -/
theorem load_set (w : World) (g : Nat) (cs : Array Value) (hg : w.heap[g]? = some (.cells cs 26)) (h : cs.size = 10) : (loadVar 26 ⟨g, 0, none⟩).run Tryd.prog w = .ok (.agg cs) w :=
  run_loadVar_row w g 26 26 cs (0, 0) _ hg Tryd.underlying26 rfl (by rw [h]; kernel_rfl)
end Go.Proofs.YtnjoccmjembppaaDoor
