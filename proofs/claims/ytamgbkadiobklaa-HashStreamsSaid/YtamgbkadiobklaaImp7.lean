/- The program's package hash as a whole: every contract that the laws ask for. -/
import Derived.Test.YtamgbkadiobklaaSp7D
import Derived.Test.YtamgbkadiobklaaSp7E
import Derived.Test.YtamgbkadiobklaaP7
import Derived.Laws.Cover3
namespace Go.Proofs.Ytamgbkadiobklaa
open Go.RowKit

theorem built51 (f : Nat → Int) (R U T : Nat) : Try.prog.built 51 [(0, .agg (spg f R U T))] = some (spg f R U T) := by kernel_rfl
theorem sm_size (f : Nat → Int) (R U T : Nat) : (Try.prog.info? 51).map (·.size) = some (spg f R U T).size := by rw [spg_size]; kernel_rfl
theorem wpList_build_one {P : Program} {ops : Array Oper} {rest : List Oper} {o : Oper} {a : Act} {w : World} {Q : Exit → Act → World → Prop} (hg : o.guard = none) (t : TypeId) (i : Nat) (x : Operand) (ho : o.op = .build t #[(i, x)]) (v : Value) (hx : a.eval x = v) (cs : Array Value)
    (hb : P.built t [(i, v)] = some cs) (h : wpList P ops Q rest (a.put o.dst (.agg cs)) w) : wpList P ops Q (o :: rest) a w := by
  have e : ((#[(i, x)] : Array (Nat × Operand)).map fun (i, x) => (i, a.eval x)).toList = [(i, v)] := by simp [hx]
  exact wpList_build hg t #[(i, x)] ho (by rw [e, hb]; rfl) (by rw [e, hb]; exact h)

/-- A stream in block g. -/
def Stm (g R : Nat) (S : Nat → Lane) (w : World) (k : Nat) : Prop := SP w g 51 (kbyte (rsq S ((k - 1) / R))) R (AU R k) ((k - 1) / R)
theorem first_read (S : Nat → Lane) (R : Nat) : spg (kbyte (rsq S ((0 - 1) / R))) R (AU R 0) ((0 - 1) / R) = spg (kbyte S) R 0 0 := by
  have e : AU R 0 = 0 := by unfold AU; omega
  rw [e, Nat.zero_sub, Nat.zero_div]
  rfl

set_option maxHeartbeats 1000000 in
theorem hNew128_any (P : Option Addr) (n c : Nat) (V : Nat → Option Addr) (C : Nat → Nat) (X : Nat → List Int) (w : World) (h : Sls w P n c V C X) (hn : n ≤ 1000) (hlen : (cat X n).length ≤ 1000) :
    Calls Try.prog 19 #[.slice P n c] w (News (fun w' g => Stm g 168 (rstate (cat X n) 168 31) w' 0) w) := by
  have HB := Lib.hid (habsorbed_any P n c V C X 168 31 w h (by omega) (by omega) (by omega) (by omega) (by omega))
  clear h hlen
  have HS : Hid (∀ wx g, Row wx g 51 (spg (kbyte (rstate (cat X n) 168 31)) 168 0 0) → Stm g 168 (rstate (cat X n) 168 31) wx 0) := Lib.hid fun wx g hr => by
    unfold Stm SP
    rw [first_read]
    exact hr
  have hb := built51 (kbyte (rstate (cat X n) 168 31)) 168 0 0
  have hi := sm_size (kbyte (rstate (cat X n) 168 31)) 168 0 0
  generalize spg (kbyte (rstate (cat X n) 168 31)) 168 0 0 = cs at *
  go_enter Try.func19, Try.ntmps19
  go_wp2_with fail
  refine HB.out.mono ?_
  rintro e w1 ⟨rfl, hp⟩
  have HP := Lib.hid hp
  clear hp HB
  go_wp2_with (refine wpList_build_one rfl 51 0 (.tmp 4) rfl _ rfl _ hb ?_)
  go_ret
  exact ⟨w1.heap.size, rfl, HP.out.size, HS.out _ _ (Row.new w1 _ cs), HP.out.trans' (past_alloc6 _ _)⟩

set_option maxHeartbeats 1000000 in
theorem hNew256_any (P : Option Addr) (n c : Nat) (V : Nat → Option Addr) (C : Nat → Nat) (X : Nat → List Int) (w : World) (h : Sls w P n c V C X) (hn : n ≤ 1000) (hlen : (cat X n).length ≤ 1000) :
    Calls Try.prog 20 #[.slice P n c] w (News (fun w' g => Stm g 136 (rstate (cat X n) 136 31) w' 0) w) := by
  have HB := Lib.hid (habsorbed_any P n c V C X 136 31 w h (by omega) (by omega) (by omega) (by omega) (by omega))
  clear h hlen
  have HS : Hid (∀ wx g, Row wx g 51 (spg (kbyte (rstate (cat X n) 136 31)) 136 0 0) → Stm g 136 (rstate (cat X n) 136 31) wx 0) := Lib.hid fun wx g hr => by
    unfold Stm SP
    rw [first_read]
    exact hr
  have hb := built51 (kbyte (rstate (cat X n) 136 31)) 136 0 0
  have hi := sm_size (kbyte (rstate (cat X n) 136 31)) 136 0 0
  generalize spg (kbyte (rstate (cat X n) 136 31)) 136 0 0 = cs at *
  go_enter Try.func20, Try.ntmps20
  go_wp2_with fail
  refine HB.out.mono ?_
  rintro e w1 ⟨rfl, hp⟩
  have HP := Lib.hid hp
  clear hp HB
  go_wp2_with (refine wpList_build_one rfl 51 0 (.tmp 4) rfl _ rfl _ hb ?_)
  go_ret
  exact ⟨w1.heap.size, rfl, HP.out.size, HS.out _ _ (Row.new w1 _ cs), HP.out.trans' (past_alloc6 _ _)⟩

theorem hNext_nil (N : Int) (w : World) : Calls Try.prog 21 #[.pointer none, .int .i64 N] w fun e w' => e = .returned (.slice none 0 0) ∧ Past w w' := by
  go_enter Try.func21, Try.ntmps21
  go_wp2_with fail
  go_ret
  exact ⟨rfl, Below.refl _ _⟩
theorem hBlocks_nil (w : World) : Calls Try.prog 22 #[.pointer none] w fun e w' => e = .returned (.int .i64 0) ∧ Past w w' := by
  go_enter Try.func22, Try.ntmps22
  go_wp2_with fail
  go_ret
  exact ⟨rfl, Below.refl _ _⟩
theorem hBlocks_any (g R : Nat) (S : Nat → Lane) (k : Nat) (w : World) (h : Stm g R S w k) :
    Calls Try.prog 22 #[.pointer (some ⟨g, 0, none⟩)] w fun e w' => e = .returned (.int .i64 (((k - 1) / R : Nat) : Int)) ∧ Past w w' := by
  unfold Stm at h
  have k0 := SP.turns h
  clear h
  generalize (k - 1) / R = T at *
  go_enter Try.func22, Try.ntmps22
  go_wp2_with fail
  go_ret
  exact ⟨rfl, Below.refl _ _⟩
theorem hNext_any (g R : Nat) (S : Nat → Lane) (k : Nat) (N : Int) (w : World) (hR : R = 168 ∨ R = 136) (h : Stm g R S w k) (hk : k ≤ 10000) (hN : N ≤ 1000) :
    Calls Try.prog 21 #[.pointer (some ⟨g, 0, none⟩), .int .i64 N] w (Nexts g (Stm g R S) (outp S R k N.toNat) k N.toNat w) := by
  have HN := Lib.hid (hnext_any S g 51 R k N w (by omega) (by omega) (by omega) (by omega) h)
  clear h
  go_enter Try.func21, Try.ntmps21
  go_wp2_with fail
  refine HN.out.mono ?_
  rintro e w1 ⟨P, c, rfl, h1, h2, h3⟩
  have H := Lib.hid (And.intro h1 (And.intro h2 h3))
  clear h1 h2 h3 HN
  go_wp2_with fail
  go_ret
  exact ⟨P, c, rfl, H.out.1, H.out.2.1, H.out.2.2⟩

set_option maxHeartbeats 1000000 in
theorem hShake128_any (N : Int) (P : Option Addr) (n c : Nat) (V : Nat → Option Addr) (C : Nat → Nat) (X : Nat → List Int) (w : World) (h : Sls w P n c V C X) (hn : n ≤ 1000) (hlen : (cat X n).length ≤ 1000) (hN : N ≤ 1000) :
    Calls Try.prog 15 #[.int .i64 N, .slice P n c] w (Outs (bl (rout (rstate (cat X n) 168 31) 168) N.toNat) N.toNat w) := by
  have HB := Lib.hid (hNew128_any P n c V C X w h hn hlen)
  clear h hlen
  generalize rstate (cat X n) 168 31 = S at *
  go_enter Try.func15, Try.ntmps15
  go_wp2_with fail
  refine HB.out.mono ?_
  rintro e w1 ⟨g, rfl, hg, hs, hp⟩
  have HP := Lib.hid (And.intro hp hg)
  have HN := Lib.hid (hNext_any g 168 S 0 N w1 (by omega) hs (by omega) hN)
  clear hp hg hs HB
  go_wp2_with fail
  refine HN.out.mono ?_
  rintro e w2 ⟨A, d, rfl, h1, h2, _⟩
  have e : outp S 168 0 N.toNat = bl (rout S 168) N.toNat := bl_ext fun j _ => by rw [Nat.zero_add]
  rw [e] at h1
  have HO : Hid (Sl w2 A N.toNat d (bl (rout S 168) N.toNat) ∧ Past w w2) := Lib.hid ⟨Sl.of_own h1 (bl_rng _ _ fun j => rout_rng S 168 j), past_of_only HP.out.1 h2 HP.out.1.size HP.out.2⟩
  clear h1 h2 e HN HP
  go_wp2_with fail
  go_ret
  exact ⟨A, d, rfl, HO.out.1, HO.out.2⟩

set_option maxHeartbeats 1000000 in
theorem hShake256_any (N : Int) (P : Option Addr) (n c : Nat) (V : Nat → Option Addr) (C : Nat → Nat) (X : Nat → List Int) (w : World) (h : Sls w P n c V C X) (hn : n ≤ 1000) (hlen : (cat X n).length ≤ 1000) (hN : N ≤ 1000) :
    Calls Try.prog 17 #[.int .i64 N, .slice P n c] w (Outs (bl (rout (rstate (cat X n) 136 31) 136) N.toNat) N.toNat w) := by
  have HB := Lib.hid (hNew256_any P n c V C X w h hn hlen)
  clear h hlen
  generalize rstate (cat X n) 136 31 = S at *
  go_enter Try.func17, Try.ntmps17
  go_wp2_with fail
  refine HB.out.mono ?_
  rintro e w1 ⟨g, rfl, hg, hs, hp⟩
  have HP := Lib.hid (And.intro hp hg)
  have HN := Lib.hid (hNext_any g 136 S 0 N w1 (by omega) hs (by omega) hN)
  clear hp hg hs HB
  go_wp2_with fail
  refine HN.out.mono ?_
  rintro e w2 ⟨A, d, rfl, h1, h2, _⟩
  have e : outp S 136 0 N.toNat = bl (rout S 136) N.toNat := bl_ext fun j _ => by rw [Nat.zero_add]
  rw [e] at h1
  have HO : Hid (Sl w2 A N.toNat d (bl (rout S 136) N.toNat) ∧ Past w w2) := Lib.hid ⟨Sl.of_own h1 (bl_rng _ _ fun j => rout_rng S 136 j), past_of_only HP.out.1 h2 HP.out.1.size HP.out.2⟩
  clear h1 h2 e HN HP
  go_wp2_with fail
  go_ret
  exact ⟨A, d, rfl, HO.out.1, HO.out.2⟩

set_option maxHeartbeats 2000000 in
theorem hSHA256_any (P : Option Addr) (n c : Nat) (V : Nat → Option Addr) (C : Nat → Nat) (X : Nat → List Int) (w : World) (h : Sls w P n c V C X) (hn : n ≤ 1000) (hlen : (cat X n).length ≤ 1000) :
    Calls Try.prog 10 #[.slice P n c] w fun e w' => e = .returned (.agg (hsh (cat X n) 136 6 32)) ∧ Past w w' := by
  have HB := Lib.hid (fun w h => habsorbed_any P n c V C X 136 6 w h (by omega) (by omega) (by omega) (by omega) (by omega))
  have H := Lib.hid h
  clear h hlen
  have hz := zeroSp
  have hz2 := zero32
  unfold hsh
  generalize rstate (cat X n) 136 6 = S at *
  have HS := Lib.hid (first_read S 136)
  have hi1 := sp_size (kbyte S) 136 0 0
  have ho1 := spg_one (kbyte S) 136 0 0
  have hs1 : (spg (fun _ => 0) 0 0 0).size = (spg (kbyte S) 136 0 0).size := by rw [spg_size, spg_size]
  generalize spg (kbyte S) 136 0 0 = cs at *
  generalize spg (fun _ => 0) 0 0 0 = cz at *
  have hi2 : (Try.prog.info? 27).map (·.size) = some (arr .u8 32 (rout S 136)).size := by rw [arr_size]; kernel_rfl
  have hs2 : (arr .u8 32 fun _ => 0).size = (arr .u8 32 (rout S 136)).size := by rw [arr_size, arr_size]
  have ho2 := arr_one .u8 32 (rout S 136)
  have hrr : Row (w.alloc (.cells (arr .u8 32 fun _ => 0) 27)) w.heap.size 27 (arr .u8 32 fun _ => 0) := Row.new _ _ _
  have HR0 := Lib.hid hrr
  clear hrr
  go_enter Try.func10, Try.ntmps10
  go_wp2_with fail
  have hPa : Past w (w.alloc (.cells (arr .u8 32 fun _ => 0) 27)) := past_alloc6 _ _
  refine (HB.out _ (H.out.past hPa)).mono ?_
  rintro e w1 ⟨rfl, hp⟩
  have H1 : Hid (Past w w1 ∧ Row w1 w.heap.size 27 (arr .u8 32 fun _ => 0)) := Lib.hid ⟨hPa.trans' hp, HR0.out.past hp⟩
  clear hp hPa HR0 HB
  have hn1 := heap_alloc_new w1 (.cells cz 47)
  go_wp2_with (refine wpList_store_row rfl 47 _ _ rfl w1.heap.size _ rfl rfl _ _ hn1 hi1 hs1 ho1 ?_)
  rw [World.setRow_alloc_new]
  have H2 : Hid (Past w (w1.alloc (.cells cs 47)) ∧ Row (w1.alloc (.cells cs 47)) w.heap.size 27 (arr .u8 32 fun _ => 0) ∧ SP (w1.alloc (.cells cs 47)) w1.heap.size 47 (kbyte (rsq S ((0 - 1) / 136))) 136 (AU 136 0) ((0 - 1) / 136)) := by
    refine Lib.hid ⟨H1.out.1.trans' (past_alloc6 _ _), H1.out.2.alloc _, ?_⟩
    unfold SP
    rw [HS.out]
    exact Row.new w1 _ cs
  have hgl := H1.out.2.lt
  have hgs := H1.out.1.size
  clear H1 hn1 HS hz
  generalize w1.alloc (.cells cs 47) = w2 at *
  generalize w1.heap.size = g at *
  refine (hnext_any S g _ 136 0 32 w2 (by omega) (by omega) (by omega) (by omega) H2.out.2.2).mono ?_
  rintro e w3 ⟨A, d, rfl, h1, h2, _⟩
  have e : bl (fun j => rout S 136 (0 + j)) (Int.toNat 32) = bl (rout S 136) 32 := bl_ext fun j _ => by rw [Nat.zero_add]
  rw [e] at h1
  obtain ⟨b, cur, rfl, _, hrow, hcur⟩ := own_row h1 (by decide)
  have hrg : w3.rangeAt b 0 ((bl (rout S 136) 32).map (Value.int .u8)) := fun j v hj => by
    rw [Nat.zero_add, World.ownsRow.cellAt h1 j (by
      have := (List.getElem?_eq_some_iff.1 hj).1
      rw [List.length_map, bl_len] at this
      simpa using this)]
    exact hj
  have hae : ((bl (rout S 136) 32).map (Value.int .u8)).toArray = arr .u8 32 (rout S 136) := by
    unfold bl arr
    rw [List.map_map]
    rfl
  have hil : (Try.prog.info? 27).map (·.size) = some ((bl (rout S 136) 32).map (Value.int .u8)).length := by rw [List.length_map, bl_len]; kernel_rfl
  have hrr : Row w3 w.heap.size 27 (arr .u8 32 fun _ => 0) := H2.out.2.1.grown h2 (by simp; omega)
  have HP : Hid (Past w w3) := Lib.hid (past_of_only H2.out.1 h2 H2.out.1.size hgs)
  have har := fun w => run_arrayAt (P := Try.prog) w 27 5 32 (some ⟨b, 0, none⟩) 32 d Try.underlying27 (Nat.le_refl _)
  clear h1 h2 hrow hcur H2 e
  have HAE := Lib.hid hae
  clear hae
  generalize (bl (rout S 136) 32).map (Value.int .u8) = l at *
  generalize hcc : arr .u8 32 (rout S 136) = c2 at *
  have HCC := Lib.hid hcc
  clear hcc
  generalize arr .u8 32 (fun _ => 0) = c1 at *
  obtain rfl := HAE.out
  go_wp2_with (first | (refine wpList_load_mid rfl 27 _ rfl b 0 rfl l _ hrg Try.underlying27 rfl hil ?_) | (refine wpList_store_row rfl 27 _ _ rfl w.heap.size _ rfl rfl _ _ hrr hi2 hs2 ho2 ?_))
  refine bodyPost_ret (results_cell_row rfl _ _ w.heap.size _ _ (0, 0) _ rfl (setRow_heap w3 w.heap.size _ _ _ _ hrr) Try.underlying27 rfl hi2) rfl ?_
  exact ⟨by rw [HCC.out], below_setRow HP.out (Nat.le_refl _) _⟩

set_option maxHeartbeats 2000000 in
theorem hSHA512_any (P : Option Addr) (n c : Nat) (V : Nat → Option Addr) (C : Nat → Nat) (X : Nat → List Int) (w : World) (h : Sls w P n c V C X) (hn : n ≤ 1000) (hlen : (cat X n).length ≤ 1000) :
    Calls Try.prog 11 #[.slice P n c] w fun e w' => e = .returned (.agg (hsh (cat X n) 72 6 64)) ∧ Past w w' := by
  have HB := Lib.hid (fun w h => habsorbed_any P n c V C X 72 6 w h (by omega) (by omega) (by omega) (by omega) (by omega))
  have H := Lib.hid h
  clear h hlen
  have hz := zeroSp
  have hz2 := zero64
  unfold hsh
  generalize rstate (cat X n) 72 6 = S at *
  have HS := Lib.hid (first_read S 72)
  have hi1 := sp_size (kbyte S) 72 0 0
  have ho1 := spg_one (kbyte S) 72 0 0
  have hs1 : (spg (fun _ => 0) 0 0 0).size = (spg (kbyte S) 72 0 0).size := by rw [spg_size, spg_size]
  generalize spg (kbyte S) 72 0 0 = cs at *
  generalize spg (fun _ => 0) 0 0 0 = cz at *
  have hi2 : (Try.prog.info? 29).map (·.size) = some (arr .u8 64 (rout S 72)).size := by rw [arr_size]; kernel_rfl
  have hs2 : (arr .u8 64 fun _ => 0).size = (arr .u8 64 (rout S 72)).size := by rw [arr_size, arr_size]
  have ho2 := arr_one .u8 64 (rout S 72)
  have hrr : Row (w.alloc (.cells (arr .u8 64 fun _ => 0) 29)) w.heap.size 29 (arr .u8 64 fun _ => 0) := Row.new _ _ _
  have HR0 := Lib.hid hrr
  clear hrr
  go_enter Try.func11, Try.ntmps11
  go_wp2_with fail
  have hPa : Past w (w.alloc (.cells (arr .u8 64 fun _ => 0) 29)) := past_alloc6 _ _
  refine (HB.out _ (H.out.past hPa)).mono ?_
  rintro e w1 ⟨rfl, hp⟩
  have H1 : Hid (Past w w1 ∧ Row w1 w.heap.size 29 (arr .u8 64 fun _ => 0)) := Lib.hid ⟨hPa.trans' hp, HR0.out.past hp⟩
  clear hp hPa HR0 HB
  have hn1 := heap_alloc_new w1 (.cells cz 47)
  go_wp2_with (refine wpList_store_row rfl 47 _ _ rfl w1.heap.size _ rfl rfl _ _ hn1 hi1 hs1 ho1 ?_)
  rw [World.setRow_alloc_new]
  have H2 : Hid (Past w (w1.alloc (.cells cs 47)) ∧ Row (w1.alloc (.cells cs 47)) w.heap.size 29 (arr .u8 64 fun _ => 0) ∧ SP (w1.alloc (.cells cs 47)) w1.heap.size 47 (kbyte (rsq S ((0 - 1) / 72))) 72 (AU 72 0) ((0 - 1) / 72)) := by
    refine Lib.hid ⟨H1.out.1.trans' (past_alloc6 _ _), H1.out.2.alloc _, ?_⟩
    unfold SP
    rw [HS.out]
    exact Row.new w1 _ cs
  have hgl := H1.out.2.lt
  have hgs := H1.out.1.size
  clear H1 hn1 HS hz
  generalize w1.alloc (.cells cs 47) = w2 at *
  generalize w1.heap.size = g at *
  refine (hnext_any S g _ 72 0 64 w2 (by omega) (by omega) (by omega) (by omega) H2.out.2.2).mono ?_
  rintro e w3 ⟨A, d, rfl, h1, h2, _⟩
  have e : bl (fun j => rout S 72 (0 + j)) (Int.toNat 64) = bl (rout S 72) 64 := bl_ext fun j _ => by rw [Nat.zero_add]
  rw [e] at h1
  obtain ⟨b, cur, rfl, _, hrow, hcur⟩ := own_row h1 (by decide)
  have hrg : w3.rangeAt b 0 ((bl (rout S 72) 64).map (Value.int .u8)) := fun j v hj => by
    rw [Nat.zero_add, World.ownsRow.cellAt h1 j (by
      have := (List.getElem?_eq_some_iff.1 hj).1
      rw [List.length_map, bl_len] at this
      simpa using this)]
    exact hj
  have hae : ((bl (rout S 72) 64).map (Value.int .u8)).toArray = arr .u8 64 (rout S 72) := by
    unfold bl arr
    rw [List.map_map]
    rfl
  have hil : (Try.prog.info? 29).map (·.size) = some ((bl (rout S 72) 64).map (Value.int .u8)).length := by rw [List.length_map, bl_len]; kernel_rfl
  have hrr : Row w3 w.heap.size 29 (arr .u8 64 fun _ => 0) := H2.out.2.1.grown h2 (by simp; omega)
  have HP : Hid (Past w w3) := Lib.hid (past_of_only H2.out.1 h2 H2.out.1.size hgs)
  have har := fun w => run_arrayAt (P := Try.prog) w 29 5 64 (some ⟨b, 0, none⟩) 64 d Try.underlying29 (Nat.le_refl _)
  clear h1 h2 hrow hcur H2 e
  have HAE := Lib.hid hae
  clear hae
  generalize (bl (rout S 72) 64).map (Value.int .u8) = l at *
  generalize hcc : arr .u8 64 (rout S 72) = c2 at *
  have HCC := Lib.hid hcc
  clear hcc
  generalize arr .u8 64 (fun _ => 0) = c1 at *
  obtain rfl := HAE.out
  go_wp2_with (first | (refine wpList_load_mid rfl 29 _ rfl b 0 rfl l _ hrg Try.underlying29 rfl hil ?_) | (refine wpList_store_row rfl 29 _ _ rfl w.heap.size _ rfl rfl _ _ hrr hi2 hs2 ho2 ?_))
  refine bodyPost_ret (results_cell_row rfl _ _ w.heap.size _ _ (0, 0) _ rfl (setRow_heap w3 w.heap.size _ _ _ _ hrr) Try.underlying29 rfl hi2) rfl ?_
  exact ⟨by rw [HCC.out], below_setRow HP.out (Nat.le_refl _) _⟩

def prog7 : Prog7 where
  St := Stm
  lt := fun h => Row.lt h
  keep := fun h e => e.trans h
  sha256 := hSHA256_any
  sha512 := hSHA512_any
  shake128 := hShake128_any
  shake256 := hShake256_any
  new128 := hNew128_any
  new256 := hNew256_any
  next := hNext_any
  nextNil := hNext_nil
  blocks := fun g R S k w _ h => hBlocks_any g R S k w h
  blocksNil := hBlocks_nil

end Go.Proofs.Ytamgbkadiobklaa
