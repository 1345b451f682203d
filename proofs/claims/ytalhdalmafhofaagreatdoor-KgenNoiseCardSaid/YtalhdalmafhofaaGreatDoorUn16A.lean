/- The closure of Uniform: the two numbers of the next group. -/
import Derived.Test.YtalhdalmafhofaaGreatDoorNs16
import Derived.Test.YtalhdalmafhofaaGreatDoorEv16
import Derived.Test.YtalhdalmafhofaaGreatDoorP14
import Derived.Test.YtalhdalmafhofaaGreatDoorNo16D
namespace Go.Proofs.YtalhdalmafhofaaGreatDoor
open Go.RowKit
set_option maxRecDepth 100000
set_option linter.unusedVariables false

theorem Stm.keep {g R : Nat} {S : Nat → Lane} {w w' : World} {k : Nat} (h : Stm g R S w k) (he : w'.heap[g]? = w.heap[g]?) : Stm g R S w' k := by
  unfold Stm SP at *
  unfold Row at *
  rw [he]
  exact h
theorem Stm.lt {g R : Nat} {S : Nat → Lane} {w : World} {k : Nat} (h : Stm g R S w k) : g < w.heap.size := by
  unfold Stm SP at h
  exact Row.lt h
theorem outp3 (S : Nat → Lane) (k : Nat) : outp S 168 k 3 = [rout S 168 k, rout S 168 (k + 1), rout S 168 (k + 2)] := rfl
theorem nu_even (B : Nat → Int) (m : Nat) : nuF B (2 * m) = B (3 * m) + 256 * (B (3 * m + 1) % 16) := by
  unfold nuF
  rw [if_pos (by omega), show 2 * m / 2 = m by omega]
theorem nu_odd (B : Nat → Int) (m : Nat) : nuF B (2 * m + 1) = B (3 * m + 1) / 16 + 16 * B (3 * m + 2) := by
  unfold nuF
  rw [if_neg (by omega), show (2 * m + 1) / 2 = m by omega]
theorem built2 (a b : Int) : Tryz.prog.built 84 [(0, .int .u16 a), (1, .int .u16 b)] = some #[.int .u16 a, .int .u16 b] := by kernel_rfl
theorem wpList_build_two {P : Program} {ops : Array Oper} {rest : List Oper} {o : Oper} {a : Act} {w : World} {Q : Exit → Act → World → Prop} (hg : o.guard = none) (t : TypeId) (i j : Nat) (x y : Operand) (ho : o.op = .build t #[(i, x), (j, y)]) (vx vy : Value) (hx : a.eval x = vx) (hy : a.eval y = vy) (cs : Array Value)
    (hb : P.built t [(i, vx), (j, vy)] = some cs) (h : wpList P ops Q rest (a.put o.dst (.agg cs)) w) : wpList P ops Q (o :: rest) a w := by
  have e : ((#[(i, x), (j, y)] : Array (Nat × Operand)).map fun (i, x) => (i, a.eval x)).toList = [(i, vx), (j, vy)] := by simp [hx, hy]
  exact wpList_build hg t #[(i, x), (j, y)] ho (by rw [e, hb]; rfl) (by rw [e, hb]; exact h)
theorem info2 (a b : Value) : (Tryz.prog.info? 84).map (·.size) = some (#[a, b] : Array Value).size := by kernel_rfl
theorem zero2 (w : World) : (zeroValue 84).run Tryz.prog w = .ok (.agg #[.int .u16 0, .int .u16 0]) w := by kernel_rfl
/-- Two blocks have changed, and new ones have come. -/
def TwoW (w w' : World) (a b : Nat) : Prop := (∀ B, B ≤ a → B ≤ b → B ≤ w.heap.size → Below B w w') ∧ ∀ i, i < w.heap.size → i ≠ a → i ≠ b → w'.heap[i]? = w.heap[i]?
theorem TwoW.row {w w' : World} {a b g : Nat} {t : TypeId} {cs : Array Value} (h : TwoW w w' a b) (hr : Row w g t cs) (h1 : g ≠ a) (h2 : g ≠ b) : Row w' g t cs := (h.2 g hr.lt h1 h2).trans hr
set_option maxHeartbeats 2000000 in
theorem unext_any (g1 g2 gs m : Nat) (S : Nat → Lane) (w : World) (h1 : w.cell? ⟨g1, 0, none⟩ = some (.pointer (some ⟨gs, 0, none⟩))) (h2 : Row w g2 3 #[.int .i64 ((3 * m : Nat) : Int)]) (hS : Stm gs 168 S w (3 * m)) (hm : 3 * m ≤ 9000) (hn : gs ≠ g2) :
    Calls Tryz.prog 44 #[.pointer (some ⟨g1, 0, none⟩), .pointer (some ⟨g2, 0, none⟩)] w fun r w' =>
      r = .returned (.agg #[.int .u16 (nuF (rout S 168) (2 * m)), .int .u16 (nuF (rout S 168) (2 * m + 1))]) ∧ TwoW w w' gs g2 ∧ Stm gs 168 S w' (3 * (m + 1)) ∧ Row w' g2 3 #[.int .i64 ((3 * (m + 1) : Nat) : Int)] := by
  obtain ⟨k, hk⟩ : ∃ k, 3 * m = k := ⟨_, rfl⟩
  rw [nu_even, nu_odd, show 3 * (m + 1) = k + 3 by omega]
  rw [hk] at h2 hS hm ⊢
  obtain ⟨g, hg⟩ : ∃ g, w.heap.size = g := ⟨_, rfl⟩
  obtain ⟨w1, hw1⟩ : ∃ w', w.alloc (.cells #[.int .u16 0, .int .u16 0] 84) = w' := ⟨_, rfl⟩
  have hp1 : Past w w1 := by rw [← hw1]; exact (Below.refl _ _).alloc (Nat.le_refl _) _
  have hr1 : Row w1 g 84 #[.int .u16 0, .int .u16 0] := by rw [← hw1, ← hg]; exact Row.new _ _ _
  have HNX := Lib.hid (hNext_any gs 168 S k 3 w1 (.inl rfl) (hS.keep (hp1.block gs hS.lt)) (by omega) (by decide))
  have h1' := (hp1.cell (cell_lt h1)).trans h1
  have H2 : Hid (Row w1 g2 3 #[.int .i64 (k : Int)] ∧ gs ≠ g2 ∧ gs < g ∧ g2 < g) := Lib.hid ⟨h2.past hp1, hn, by rw [← hg]; exact hS.lt, by rw [← hg]; exact h2.lt⟩
  have HP1 := Lib.hid hp1
  have HR1 := Lib.hid hr1
  have HW1 := Lib.hid hw1
  have HGW := Lib.hid hg
  have hwk : IntKind.i64.wrap ((k : Int) + 3) = (k : Int) + 3 := by rw [IntKind.wrap_i64]; omega
  have HX := Lib.hid (outp_rng S 168 k 3)
  rw [show (3 : Int).toNat = 3 from rfl] at HNX
  rw [outp3] at HNX HX
  generalize rout S 168 k = x at *
  generalize rout S 168 (k + 1) = y at *
  generalize rout S 168 (k + 2) = z at *
  clear h1 h2 hS hp1 hr1 hw1 hn hk
  go_enter Tryz.func44, Tryz.ntmps44
  have hz := zero2
  go_upto_region 1 with (fail)
  rw [HW1.out]
  try rw [hg]
  clear HW1 hz hg
  go_wp2_with fail
  refine HNX.out.mono ?_
  rintro r w2 ⟨A, c, rfl, hown, hgr, hst⟩
  have hp2 : w1.heap.size ≤ w2.heap.size := hgr.size
  have hr2 : Row w2 g2 3 #[.int .i64 (k : Int)] := H2.out.1.grown hgr (by have := H2.out.2.1; simp; omega)
  obtain ⟨gA, cA, hA, _, _, _⟩ := own_some hown (by decide)
  simp only [Value.slice.injEq] at hA
  obtain ⟨rfl, _, _⟩ := hA
  obtain ⟨cur, hrow, hgA, hcap1, hcap2, hcs, htk, htl⟩ := own_row15 hown
  have hgA2 : gA ≠ g2 ∧ g2 < w1.heap.size := by have := H2.out; have := H2.out.1.lt; omega
  obtain ⟨w3, hw3⟩ : ∃ w', w2.setCell ⟨g2, 0, none⟩ (.int .i64 ((k : Int) + 3)) = w' := ⟨_, rfl⟩
  have HRA : Hid (Row w3 gA 5 cur) := Lib.hid (by rw [← hw3]; exact hrow.setOther (by omega) _ _)
  have HC : Hid (cur[0]? = some (.int .u8 x) ∧ cur[1]? = some (.int .u8 y) ∧ cur[2]? = some (.int .u8 z)) := Lib.hid (by
    have hj : ∀ j, j < 3 → cur[j]? = ([x, y, z].map (Value.int .u8))[j]? := fun j hj => by
      rw [← htk, List.getElem?_take_of_lt hj, Array.getElem?_toList]
    exact ⟨hj 0 (by decide), hj 1 (by decide), hj 2 (by decide)⟩)
  have HCP : Hid ((3 : Int) ≤ (c : Int)) := Lib.hid (by omega)
  have HR3 : Hid (Row w3 g 84 #[.int .u16 0, .int .u16 0] ∧ Row w3 g2 3 #[.int .i64 ((k : Int) + 3)] ∧ Stm gs 168 S w3 (k + 3) ∧ w2.grownBy w3 (some g2) ∧ w1.grownBy w2 (some gs) ∧ g ≠ g2 ∧ g ≠ gs ∧ w3.heap.size = w2.heap.size) := Lib.hid (by
    have h2 := H2.out
    refine ⟨?_, ?_, ?_, ?_, hgr, by omega, by omega, ?_⟩
    · rw [← hw3]; exact (HR1.out.grown hgr (by simp; omega)).setOther (by omega) _ _
    · rw [← hw3]; exact Row.set hr2 0 _
    · rw [← hw3]; exact hst.keep (by simp [World.setCell, Array.getElem?_modify]; intro h; omega)
    · rw [← hw3]; exact only_setCell (World.grownBy.refl _ _) (.inl rfl) _
    · rw [← hw3]; simp [World.setCell])
  have hc2 := hr2.cell 0
  have hf2 := hr2.fr 0
  have HW3 := Lib.hid hw3
  have hX := HX.out
  obtain ⟨x0, x1⟩ := hX x (by simp)
  obtain ⟨y0, y1⟩ := hX y (by simp)
  obtain ⟨z0, z1⟩ := hX z (by simp)
  clear hown hgr hst hrow hgA hcap1 hcap2 hcs htk htl hgA2 hr2 hp2 hw3 hX HNX
  go_upto_region 3 with (fail)
  rw [HW3.out]
  clear HW3 hc2 hf2 hwk
  have hrA := HRA.out
  have k0 : w3.cell? ⟨gA, 0, none⟩ = some (.int .u8 x) := by rw [hrA.cell]; exact HC.out.1
  have k1 : w3.cell? ⟨gA, 1, none⟩ = some (.int .u8 y) := by rw [hrA.cell]; exact HC.out.2.1
  have k2 : w3.cell? ⟨gA, 2, none⟩ = some (.int .u8 z) := by rw [hrA.cell]; exact HC.out.2.2
  obtain ⟨r, hr⟩ : ∃ r, y % 16 = r := ⟨_, rfl⟩
  obtain ⟨q, hq⟩ : ∃ q, y / 16 = q := ⟨_, rfl⟩
  have hrb : 0 ≤ r ∧ r < 16 := by omega
  have hqb : 0 ≤ q ∧ q < 16 := by omega
  obtain ⟨a1, ha1⟩ : ∃ a, x + 256 * r = a := ⟨_, rfl⟩
  obtain ⟨b1, hb1⟩ : ∃ a, q + 16 * z = a := ⟨_, rfl⟩
  have HWA : Hid (IntKind.u16.wrap x = x ∧ IntKind.u16.wrap y = y ∧ IntKind.u16.wrap z = z ∧ y % 16 = r ∧ y / 16 = q ∧ IntKind.u16.wrap (256 * r) = 256 * r ∧ IntKind.u16.wrap (x + 256 * r) = a1 ∧ IntKind.u16.wrap (16 * z) = 16 * z ∧ IntKind.u16.wrap (q + 16 * z) = b1 ∧ x + 256 * r = a1 ∧ q + 16 * z = b1 ∧ IntKind.u16.wrap (y.tdiv 16) = q) := Lib.hid ⟨by rw [IntKind.wrap_u16]; omega, by rw [IntKind.wrap_u16]; omega, by rw [IntKind.wrap_u16]; omega, hr, hq, by rw [IntKind.wrap_u16]; omega, by rw [IntKind.wrap_u16]; omega, by rw [IntKind.wrap_u16]; omega, by rw [IntKind.wrap_u16]; omega, ha1, hb1, by rw [Int.tdiv_eq_ediv_of_nonneg y0, hq, IntKind.wrap_u16]; omega⟩
  have HE : Hid (x + 256 * (y % 16) = a1 ∧ y / 16 + 16 * z = b1) := Lib.hid ⟨by rw [hr]; exact ha1, by rw [hq]; exact hb1⟩
  clear hr hq ha1 hb1
  obtain ⟨c1, c2, c3, _⟩ := HWA.out
  go_region
  clear c1 c2 c3 k0 k1 k2 hrA
  have HR3' : Hid (Row w3.drew g 84 #[.int .u16 0, .int .u16 0] ∧ Row w3.drew g2 3 #[.int .i64 ((k : Int) + 3)] ∧ Stm gs 168 S w3.drew (k + 3) ∧ w2.grownBy w3.drew (some g2) ∧ w1.grownBy w2 (some gs) ∧ g ≠ g2 ∧ g ≠ gs ∧ w3.drew.heap.size = w2.heap.size) := Lib.hid ⟨HR3.out.1, HR3.out.2.1, HR3.out.2.2.1, only_drewN HR3.out.2.2.2.1 1, HR3.out.2.2.2.2⟩
  clear HR3 HRA
  have HR3 := HR3'
  clear HR3'
  generalize w3.drew = w3 at *
  obtain ⟨_, _, _, c4, c5, c6, c7, c8, c9, c10, c11, c12⟩ := HWA.out
  have hb2 := built2 a1 b1
  have hrg := HR3.out.1
  have hi2 := info2 (.int .u16 a1) (.int .u16 b1)
  have ho2 : (#[.int .u16 a1, .int .u16 b1] : Array Value).all (·.oneCell') = true := by simp [Value.oneCell']
  go_wp2_with (first | (refine wpList_build_two rfl 84 0 1 _ _ rfl _ _ rfl rfl _ hb2 ?_) | (refine wpList_store_row rfl 84 _ _ rfl g _ rfl rfl _ _ hrg hi2 (by rfl) ho2 ?_))
  refine bodyPost_ret (results_cell_row rfl _ _ g _ #[.int .u16 a1, .int .u16 b1] (0, 0) _ rfl (setRow_heap _ g _ _ _ _ hrg) Tryz.underlying84 rfl hi2) (by rfl) ?_
  obtain ⟨_, hrB, hstB, hgB, hgA, hne1, hne2, hsz⟩ := HR3.out
  have hgw : w.heap.size = g := HGW.out
  refine ⟨by rw [HE.out.1, HE.out.2], ⟨fun B ha hb hB => ?_, fun i hi h1 h2 => ?_⟩, ?_, ?_⟩
  · have b1 : Below B w w1 := Below.mono HP1.out hB
    have b2 := past_of_only b1 hgA (Nat.le_trans hB b1.size) ha
    have b3 := past_of_only b2 hgB (Nat.le_trans hB b2.size) hb
    exact below_setRow b3 (by omega) _
  · rw [setRow_other w3 g i _ (by omega)]
    have e1 := HP1.out.block i hi
    have l1 : i < w1.heap.size := Nat.lt_of_lt_of_le hi HP1.out.size
    have e2 := hgA.block i l1 (by simp; omega)
    have l2 : i < w2.heap.size := Nat.lt_of_lt_of_le l1 hgA.size
    have e3 := hgB.block i l2 (by simp; omega)
    rw [e3, e2, e1]
  · exact hstB.keep (setRow_other w3 g gs _ (by omega))
  · exact (setRow_other w3 g g2 _ (by omega)).trans hrB
end Go.Proofs.YtalhdalmafhofaaGreatDoor
