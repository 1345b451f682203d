/- The streams and hashes of the program's package hash that stage 16 calls. -/
import Derived.Test.YtalhdalmafhofaaGreatDoorSp7A
import Derived.Laws.Cover3
namespace Go.Proofs.YtalhdalmafhofaaGreatDoor
open Go.RowKit
set_option linter.unusedVariables false
set_option maxRecDepth 100000

theorem built51 (f : Nat → Int) (R U T : Nat) : Tryz.prog.built 72 [(0, .agg (spg f R U T))] = some (spg f R U T) := by kernel_rfl
theorem sm_size (f : Nat → Int) (R U T : Nat) : (Tryz.prog.info? 72).map (·.size) = some (spg f R U T).size := by rw [spg_size]; kernel_rfl
/-- A stream in block g. -/
def Stm (g R : Nat) (S : Nat → Lane) (w : World) (k : Nat) : Prop := SP w g 72 (kbyte (rsq S ((k - 1) / R))) R (AU R k) ((k - 1) / R)
set_option maxHeartbeats 1000000 in
theorem hNew128_any (P : Option Addr) (n c : Nat) (V : Nat → Option Addr) (C : Nat → Nat) (X : Nat → List Int) (w : World) (h : Sls w P n c V C X) (hn : n ≤ 1000) (hlen : (cat X n).length ≤ 1000) :
    Calls Tryz.prog 43 #[.slice P n c] w (News (fun w' g => Stm g 168 (rstate (cat X n) 168 31) w' 0) w) := by
  have HB := Lib.hid (habsorbed_any P n c V C X 168 31 w h (by omega) (by omega) (by omega) (by omega) (by omega))
  clear h hlen
  have HS : Hid (∀ wx g, Row wx g 72 (spg (kbyte (rstate (cat X n) 168 31)) 168 0 0) → Stm g 168 (rstate (cat X n) 168 31) wx 0) := Lib.hid fun wx g hr => by
    unfold Stm SP
    rw [first_read]
    exact hr
  have hb := built51 (kbyte (rstate (cat X n) 168 31)) 168 0 0
  have hi := sm_size (kbyte (rstate (cat X n) 168 31)) 168 0 0
  generalize spg (kbyte (rstate (cat X n) 168 31)) 168 0 0 = cs at *
  go_enter Tryz.func43, Tryz.ntmps43
  go_wp2_with fail
  refine HB.out.mono ?_
  rintro e w1 ⟨rfl, hp⟩
  have HP := Lib.hid hp
  clear hp HB
  go_wp2_with (refine wpList_build_one rfl 72 0 (.tmp 4) rfl _ rfl _ hb ?_)
  go_ret
  exact ⟨w1.heap.size, rfl, HP.out.size, HS.out _ _ (Row.new w1 _ cs), HP.out.trans' (past_alloc6 _ _)⟩

set_option maxHeartbeats 1000000 in
theorem hNew256_any (P : Option Addr) (n c : Nat) (V : Nat → Option Addr) (C : Nat → Nat) (X : Nat → List Int) (w : World) (h : Sls w P n c V C X) (hn : n ≤ 1000) (hlen : (cat X n).length ≤ 1000) :
    Calls Tryz.prog 12 #[.slice P n c] w (News (fun w' g => Stm g 136 (rstate (cat X n) 136 31) w' 0) w) := by
  have HB := Lib.hid (habsorbed_any P n c V C X 136 31 w h (by omega) (by omega) (by omega) (by omega) (by omega))
  clear h hlen
  have HS : Hid (∀ wx g, Row wx g 72 (spg (kbyte (rstate (cat X n) 136 31)) 136 0 0) → Stm g 136 (rstate (cat X n) 136 31) wx 0) := Lib.hid fun wx g hr => by
    unfold Stm SP
    rw [first_read]
    exact hr
  have hb := built51 (kbyte (rstate (cat X n) 136 31)) 136 0 0
  have hi := sm_size (kbyte (rstate (cat X n) 136 31)) 136 0 0
  generalize spg (kbyte (rstate (cat X n) 136 31)) 136 0 0 = cs at *
  go_enter Tryz.func12, Tryz.ntmps12
  go_wp2_with fail
  refine HB.out.mono ?_
  rintro e w1 ⟨rfl, hp⟩
  have HP := Lib.hid hp
  clear hp HB
  go_wp2_with (refine wpList_build_one rfl 72 0 (.tmp 4) rfl _ rfl _ hb ?_)
  go_ret
  exact ⟨w1.heap.size, rfl, HP.out.size, HS.out _ _ (Row.new w1 _ cs), HP.out.trans' (past_alloc6 _ _)⟩

theorem hNext_any (g R : Nat) (S : Nat → Lane) (k : Nat) (N : Int) (w : World) (hR : R = 168 ∨ R = 136) (h : Stm g R S w k) (hk : k ≤ 10000) (hN : N ≤ 1000) :
    Calls Tryz.prog 13 #[.pointer (some ⟨g, 0, none⟩), .int .i64 N] w (Nexts g (Stm g R S) (outp S R k N.toNat) k N.toNat w) := by
  have HN := Lib.hid (hnext_any S g 72 R k N w (by omega) (by omega) (by omega) (by omega) h)
  clear h
  go_enter Tryz.func13, Tryz.ntmps13
  go_wp2_with fail
  refine HN.out.mono ?_
  rintro e w1 ⟨P, c, rfl, h1, h2, h3⟩
  have H := Lib.hid (And.intro h1 (And.intro h2 h3))
  clear h1 h2 h3 HN
  go_wp2_with fail
  go_ret
  exact ⟨P, c, rfl, H.out.1, H.out.2.1, H.out.2.2⟩

set_option maxHeartbeats 1000000 in
theorem hShake256_any (N : Int) (P : Option Addr) (n c : Nat) (V : Nat → Option Addr) (C : Nat → Nat) (X : Nat → List Int) (w : World) (h : Sls w P n c V C X) (hn : n ≤ 1000) (hlen : (cat X n).length ≤ 1000) (hN : N ≤ 1000) :
    Calls Tryz.prog 5 #[.int .i64 N, .slice P n c] w (Outs (bl (rout (rstate (cat X n) 136 31) 136) N.toNat) N.toNat w) := by
  have HB := Lib.hid (hNew256_any P n c V C X w h hn hlen)
  clear h hlen
  generalize rstate (cat X n) 136 31 = S at *
  go_enter Tryz.func5, Tryz.ntmps5
  go_wp2_with fail
  refine HB.out.mono ?_
  rintro e w1 ⟨g, rfl, hg, hs, hp⟩
  have HP := Lib.hid (And.intro hp hg)
  have HN := Lib.hid (hNext_any g 136 S 0 N w1 (by omega) hs (by omega) hN)
  clear hp hg hs HB
  go_wp2_with fail
  refine HN.out.mono ?_
  rintro e w2 ⟨A, d, rfl, h1, h2, _⟩
  have e : outp S 136 0 N.toNat = bl (rout S 136) N.toNat := bl_ext fun j _ => by rw [Nat.zero_add]
  rw [e] at h1
  have HO : Hid (Sl w2 A N.toNat d (bl (rout S 136) N.toNat) ∧ Past w w2) := Lib.hid ⟨Sl.of_own h1 (bl_rng _ _ fun j => rout_rng S 136 j), past_of_only HP.out.1 h2 HP.out.1.size HP.out.2⟩
  clear h1 h2 e HN HP
  go_wp2_with fail
  go_ret
  exact ⟨A, d, rfl, HO.out.1, HO.out.2⟩

set_option maxHeartbeats 2000000 in
theorem hSHA512_any (P : Option Addr) (n c : Nat) (V : Nat → Option Addr) (C : Nat → Nat) (X : Nat → List Int) (w : World) (h : Sls w P n c V C X) (hn : n ≤ 1000) (hlen : (cat X n).length ≤ 1000) :
    Calls Tryz.prog 21 #[.slice P n c] w fun e w' => e = .returned (.agg (hsh (cat X n) 72 6 64)) ∧ Past w w' := by
  have HB := Lib.hid (fun w h => habsorbed_any P n c V C X 72 6 w h (by omega) (by omega) (by omega) (by omega) (by omega))
  have H := Lib.hid h
  clear h hlen
  have hz := zeroSp
  have hz2 := zero64
  unfold hsh
  generalize rstate (cat X n) 72 6 = S at *
  have HS := Lib.hid (first_read S 72)
  have hi1 := sp_size (kbyte S) 72 0 0
  have ho1 := spg_one (kbyte S) 72 0 0
  have hs1 : (spg (fun _ => 0) 0 0 0).size = (spg (kbyte S) 72 0 0).size := by rw [spg_size, spg_size]
  generalize spg (kbyte S) 72 0 0 = cs at *
  generalize spg (fun _ => 0) 0 0 0 = cz at *
  have hi2 : (Tryz.prog.info? 54).map (·.size) = some (arr .u8 64 (rout S 72)).size := by rw [arr_size]; kernel_rfl
  have hs2 : (arr .u8 64 fun _ => 0).size = (arr .u8 64 (rout S 72)).size := by rw [arr_size, arr_size]
  have ho2 := arr_one .u8 64 (rout S 72)
  have hrr : Row (w.alloc (.cells (arr .u8 64 fun _ => 0) 54)) w.heap.size 54 (arr .u8 64 fun _ => 0) := Row.new _ _ _
  have HR0 := Lib.hid hrr
  clear hrr
  go_enter Tryz.func21, Tryz.ntmps21
  go_wp2_with fail
  have hPa : Past w (w.alloc (.cells (arr .u8 64 fun _ => 0) 54)) := past_alloc6 _ _
  refine (HB.out _ (H.out.past hPa)).mono ?_
  rintro e w1 ⟨rfl, hp⟩
  have H1 : Hid (Past w w1 ∧ Row w1 w.heap.size 54 (arr .u8 64 fun _ => 0)) := Lib.hid ⟨hPa.trans' hp, HR0.out.past hp⟩
  clear hp hPa HR0 HB
  have hn1 := heap_alloc_new w1 (.cells cz 69)
  go_wp2_with (refine wpList_store_row rfl 69 _ _ rfl w1.heap.size _ rfl rfl _ _ hn1 hi1 hs1 ho1 ?_)
  rw [World.setRow_alloc_new]
  have H2 : Hid (Past w (w1.alloc (.cells cs 69)) ∧ Row (w1.alloc (.cells cs 69)) w.heap.size 54 (arr .u8 64 fun _ => 0) ∧ SP (w1.alloc (.cells cs 69)) w1.heap.size 69 (kbyte (rsq S ((0 - 1) / 72))) 72 (AU 72 0) ((0 - 1) / 72)) := by
    refine Lib.hid ⟨H1.out.1.trans' (past_alloc6 _ _), H1.out.2.alloc _, ?_⟩
    unfold SP
    rw [HS.out]
    exact Row.new w1 _ cs
  have hgl := H1.out.2.lt
  have hgs := H1.out.1.size
  clear H1 hn1 HS hz
  generalize w1.alloc (.cells cs 69) = w2 at *
  generalize w1.heap.size = g at *
  refine (hnext_any S g _ 72 0 64 w2 (by omega) (by omega) (by omega) (by omega) H2.out.2.2).mono ?_
  rintro e w3 ⟨A, d, rfl, h1, h2, _⟩
  have e : bl (fun j => rout S 72 (0 + j)) (Int.toNat 64) = bl (rout S 72) 64 := bl_ext fun j _ => by rw [Nat.zero_add]
  rw [e] at h1
  obtain ⟨b, cur, rfl, _, hrow, hcur⟩ := own_row h1 (by decide)
  have hrg : w3.rangeAt b 0 ((bl (rout S 72) 64).map (Value.int .u8)) := fun j v hj => by
    rw [Nat.zero_add, World.ownsRow.cellAt h1 j (by
      have := (List.getElem?_eq_some_iff.1 hj).1
      rw [List.length_map, bl_len] at this
      simpa using this)]
    exact hj
  have hae : ((bl (rout S 72) 64).map (Value.int .u8)).toArray = arr .u8 64 (rout S 72) := by
    unfold bl arr
    rw [List.map_map]
    rfl
  have hil : (Tryz.prog.info? 54).map (·.size) = some ((bl (rout S 72) 64).map (Value.int .u8)).length := by rw [List.length_map, bl_len]; kernel_rfl
  have hrr : Row w3 w.heap.size 54 (arr .u8 64 fun _ => 0) := H2.out.2.1.grown h2 (by simp; omega)
  have HP : Hid (Past w w3) := Lib.hid (past_of_only H2.out.1 h2 H2.out.1.size hgs)
  have har := fun w => run_arrayAt (P := Tryz.prog) w 54 5 64 (some ⟨b, 0, none⟩) 64 d Tryz.underlying54 (Nat.le_refl _)
  clear h1 h2 hrow hcur H2 e
  have HAE := Lib.hid hae
  clear hae
  generalize (bl (rout S 72) 64).map (Value.int .u8) = l at *
  generalize hcc : arr .u8 64 (rout S 72) = c2 at *
  have HCC := Lib.hid hcc
  clear hcc
  generalize arr .u8 64 (fun _ => 0) = c1 at *
  obtain rfl := HAE.out
  go_wp2_with (first | (refine wpList_load_mid rfl 54 _ rfl b 0 rfl l _ hrg Tryz.underlying54 rfl hil ?_) | (refine wpList_store_row rfl 54 _ _ rfl w.heap.size _ rfl rfl _ _ hrr hi2 hs2 ho2 ?_))
  refine bodyPost_ret (results_cell_row rfl _ _ w.heap.size _ _ (0, 0) _ rfl (setRow_heap w3 w.heap.size _ _ _ _ hrr) Tryz.underlying54 rfl hi2) rfl ?_
  exact ⟨by rw [HCC.out], below_setRow HP.out (Nat.le_refl _) _⟩

end Go.Proofs.YtalhdalmafhofaaGreatDoor
