/- Contracts of the reference of Keccak: the permutation, and the bytes of a state. -/
import Derived.Test.YtamgbkadiobklaaRef6E
import Derived.Deep.WholeRow
import Derived.StillTailTactics
namespace Go.Proofs.Ytamgbkadiobklaa
open Go.RowKit

def rcL (i : Nat) : Lane := BitVec.ofNat 64 (rcs.getD i 0)
def offN (i : Nat) : Nat := offs.getD i 0
theorem rcF_ln : ∀ i : Fin 24, rcF i.val = ln (rcL i.val) := by decide +kernel
theorem offN_lt : ∀ i : Fin 25, offN i.val < 64 := by decide +kernel
/-- The state after n rounds. -/
def kS (A : Nat → Lane) : Nat → Nat → Lane
  | 0 => A
  | n + 1 => kround (kS A n) (rcL n) offN
def kperm (A : Nat → Lane) : Nat → Lane := kS A 24

/-- A load of a whole array among operations that only read. -/
theorem still_load_row {P : Program} {ops : Array Oper} {w : World} {Q : Act → Prop} {a : Act} {o : Oper} {rest : List Oper} (hgd : o.guard = none) (ty : TypeId) (x : Operand) (ho : o.op = .load ty x) (g : Nat) (hx : a.eval x = .pointer (some ⟨g, 0, none⟩)) (t : TypeId) (cs : Array Value) (d : TypeDesc) (hg : Row w g t cs)
    (hu : P.underlying ty = some d) (hd : (match d with | .struct _ | .array _ _ => true | _ => false) = true) (hi : (P.info? ty).map (·.size) = some cs.size) (h : wpStill P ops w Q rest (a.put o.dst (.agg cs))) : wpStill P ops w Q (o :: rest) a := by
  refine wpStill_step fun K hK => ?_
  rw [if_pos (by unfold Region.wanted; rw [hgd])]
  unfold Oper.still execOp
  simp only [ho, hx, Instr.loadAt, Instr.sureAddr, Sem.run_bind, Sem.run_pure, Result.andThen_ok, run_loadVar_row w g t ty cs (0, 0) d hg hu hd hi]
  exact ⟨rfl, hK _ h⟩
theorem past_alloc6 (w : World) (o : Obj) : Past w (w.alloc o) := (Below.refl _ _).alloc (Nat.le_refl _) _

/-- The blocks of a permutation: the lanes, the result, the constants, the offsets. -/
def PW (w wx : World) (g c o : Nat) (crc cof : Array Value) (fa : Nat → Int) : Prop :=
  Past w wx ∧ LM .u64 wx g 67 25 fa ∧ Row wx (g + 1) 67 (arr .u64 25 fun _ => 0) ∧ Row wx c 73 crc ∧ Row wx o 77 cof ∧ w.heap.size ≤ g ∧ g + 1 < c ∧ c < o

set_option maxHeartbeats 2000000 in
set_option maxRecDepth 100000 in
theorem permute_any (A : Nat → Lane) (w : World) :
    Calls Try.prog 38 #[.agg (arr .u64 25 fun i => ln (A i))] w fun e w' => e = .returned (.agg (arr .u64 25 fun i => ln (kperm A i))) ∧ Past w w' := by
  have HC := Lib.hid constants_any
  have HO := Lib.hid offsets_any
  have hsa := arr_size .u64 25 fun i => ln (A i)
  generalize hca : arr .u64 25 (fun i => ln (A i)) = ca at *
  have HCA := Lib.hid hca
  clear hca
  have hrc : ∀ i, i < 24 → (arr .u64 24 rcF)[i]? = some (.int .u64 (ln (rcL i))) := fun i hi => by rw [arr_get .u64 24 rcF i hi, rcF_ln ⟨i, hi⟩]
  have hi24 : (Try.prog.info? 73).map (·.size) = some (arr .u64 24 rcF).size := by rw [arr_size]; kernel_rfl
  have hs24 : (arr .u64 24 fun _ => 0).size = (arr .u64 24 rcF).size := by rw [arr_size, arr_size]
  have ho24 := arr_one .u64 24 rcF
  have hof : arr .i64 25 offF = arr .i64 25 fun i => (offN i : Int) := rfl
  have hi25 : (Try.prog.info? 77).map (·.size) = some (arr .i64 25 offF).size := by rw [arr_size]; kernel_rfl
  have hs25 : (arr .i64 25 fun _ => 0).size = (arr .i64 25 offF).size := by rw [arr_size, arr_size]
  have ho25 := arr_one .i64 25 offF
  have HOF := Lib.hid hof
  have HRC := Lib.hid hrc
  clear hof hrc
  generalize arr .u64 24 rcF = crc at *
  generalize hco : arr .i64 25 offF = cof at *
  clear hco
  have h0 : Past w ((w.alloc (.cells ca 67)).alloc (.cells (arr .u64 25 fun _ => 0) 67)) ∧ LM .u64 ((w.alloc (.cells ca 67)).alloc (.cells (arr .u64 25 fun _ => 0) 67)) w.heap.size 67 25 (fun i => ln (A i)) ∧
      Row ((w.alloc (.cells ca 67)).alloc (.cells (arr .u64 25 fun _ => 0) 67)) (w.heap.size + 1) 67 (arr .u64 25 fun _ => 0) := by
    refine ⟨((Below.refl _ _).alloc (Nat.le_refl _) _).alloc (by simp) _, ?_, ?_⟩
    · unfold LM
      rw [HCA.out]
      exact (Row.new w _ _).alloc _
    · have := Row.new (w.alloc (.cells ca 67)) 67 (arr .u64 25 fun _ => 0)
      simpa using this
  have H0 := Lib.hid h0
  clear h0
  go_enter Try.func38, Try.ntmps38
  go_wp2_with fail
  rw [arr_zero25]
  generalize (w.alloc (.cells ca 67)).alloc (.cells (arr .u64 25 fun _ => 0) 67) = wb at *
  obtain ⟨g, hg⟩ : ∃ g, w.heap.size = g := ⟨_, rfl⟩
  have hge : w.heap.size ≤ g := by omega
  rw [hg] at H0 ⊢
  clear hg
  refine (HC.out _).mono ?_
  rintro e w1 ⟨rfl, hp⟩
  have H1 : Hid (Past w w1 ∧ LM .u64 w1 g 67 25 (fun i => ln (A i)) ∧ Row w1 (g + 1) 67 (arr .u64 25 fun _ => 0)) := ⟨H0.out.1.trans' hp, Row.past H0.out.2.1 hp, H0.out.2.2.past hp⟩
  clear H0 hp
  have hn1 := heap_alloc_new w1 (.cells (arr .u64 24 fun _ => 0) 73)
  go_wp2_with (refine wpList_store_row rfl 73 _ _ rfl w1.heap.size _ rfl rfl _ _ hn1 hi24 hs24 ho24 ?_)
  rw [World.setRow_alloc_new]
  have H2 : Hid (Past w (w1.alloc (.cells crc 73)) ∧ LM .u64 (w1.alloc (.cells crc 73)) g 67 25 (fun i => ln (A i)) ∧ Row (w1.alloc (.cells crc 73)) (g + 1) 67 (arr .u64 25 fun _ => 0) ∧ Row (w1.alloc (.cells crc 73)) w1.heap.size 73 crc ∧ g + 1 < w1.heap.size) :=
    ⟨H1.out.1.trans' (past_alloc6 _ _), Row.alloc H1.out.2.1 _, H1.out.2.2.alloc _, Row.new w1 _ _, H1.out.2.2.lt⟩
  clear H1 hn1
  generalize w1.alloc (.cells crc 73) = w2 at *
  generalize w1.heap.size = c at *
  refine (HO.out _).mono ?_
  rintro e w3 ⟨rfl, hp⟩
  have H3 : Hid (Past w w3 ∧ LM .u64 w3 g 67 25 (fun i => ln (A i)) ∧ Row w3 (g + 1) 67 (arr .u64 25 fun _ => 0) ∧ Row w3 c 73 crc ∧ g + 1 < c) := by
    obtain ⟨h1, h2, h3, h4, h5⟩ := H2.out
    exact ⟨h1.trans' hp, Row.past h2 hp, h3.past hp, h4.past hp, h5⟩
  clear H2 hp
  have hn3 := heap_alloc_new w3 (.cells (arr .i64 25 fun _ => 0) 77)
  go_wp2_with (refine wpList_store_row rfl 77 _ _ rfl w3.heap.size _ rfl rfl _ _ hn3 hi25 hs25 ho25 ?_)
  rw [World.setRow_alloc_new]
  have H4 : Hid (PW w (w3.alloc (.cells cof 77)) g c w3.heap.size crc cof (fun i => ln (A i))) := by
    obtain ⟨h1, h2, h3, h4, h5⟩ := H3.out
    exact ⟨h1.trans' (past_alloc6 _ _), Row.alloc h2 _, h3.alloc _, h4.alloc _, Row.new w3 _ _, hge, h5, h4.lt⟩
  clear H3 hn3
  generalize w3.alloc (.cells cof 77) = w4 at *
  generalize w3.heap.size = o at *
  go_wp2_with fail
  go_loopg [5] 24 (fun k s5 wx => ∃ i : Nat, i ≤ 24 ∧ k = 24 - i ∧ s5 = .int .i64 (i : Int) ∧ Hid (PW w wx g c o crc cof (fun j => ln (kS A i j))))
  case atStart => exact ⟨0, Nat.zero_le _, rfl, rfl, H4⟩
  case round =>
    clear H4
    obtain ⟨i, hi, hgk, rfl, HQ⟩ := hrel
    have HGK := Lib.hid hgk
    clear hgk
    by_cases hlt : i < 24
    · have hia : (Try.prog.info? 67).map (·.size) = some (arr .u64 25 fun j => ln (kS A i j)).size := by rw [arr_size]; kernel_rfl
      have hra : Row wr.drew g 67 (arr .u64 25 fun j => ln (kS A i j)) := HQ.out.2.1
      have hro : Row wr.drew o 77 cof := HQ.out.2.2.2.2.1
      have hcc : wr.drew.cell? ⟨c, i, none⟩ = some (.int .u64 (ln (rcL i))) := by
        have h := HQ.out.2.2.2.1.cell i
        rw [HRC.out i hlt] at h
        exact h
      have hii : (i : Int) < 24 := by omega
      go_wp2_with fail
      refine wp_region_still_tail 5 (by kernel_rfl) (by kernel_rfl) ?_
      simp only [List.take_succ_cons, List.take_zero, List.drop_succ_cons, List.drop_zero]
      change wpStill _ _ wr.drew _ _ _
      refine still_load_row rfl 67 _ rfl g rfl _ _ _ hra Try.underlying67 rfl hia ?_
      repeat still_step
      refine still_load_row rfl 77 _ rfl o rfl _ _ _ hro Try.underlying77 rfl hi25 ?_
      refine wpStill_nil ?_
      go_wp2_with fail
      have hrd := round_any (kS A i) (rcL i) offN (fun j hj => offN_lt ⟨j, hj⟩) wr.drew
      rw [← HOF.out] at hrd
      have HRD := Lib.hid hrd
      have HPD : Hid (PW w wr.drew g c o crc cof (fun j => ln (kS A i j))) := ⟨HQ.out.1.drewN 1, HQ.out.2⟩
      clear hrd HQ hra hro hcc
      generalize wr.drew = wd at *
      refine HRD.out.mono ?_
      rintro e w5 ⟨rfl, hp⟩
      have HPE : Hid (PW w w5 g c o crc cof (fun j => ln (kS A i j))) := by
        obtain ⟨h1, h2, h3, h4, h5, h6, h7, h8⟩ := HPD.out
        exact ⟨h1.trans' hp, Row.past h2 hp, h3.past hp, h4.past hp, h5.past hp, h6, h7, h8⟩
      have hsn : (arr .u64 25 fun j => ln (kS A i j)).size = (arr .u64 25 fun j => ln (kround (kS A i) (rcL i) offN j)).size := by rw [arr_size, arr_size]
      have hin : (Try.prog.info? 67).map (·.size) = some (arr .u64 25 fun j => ln (kround (kS A i) (rcL i) offN j)).size := by rw [arr_size]; kernel_rfl
      have hon := arr_one .u64 25 fun j => ln (kround (kS A i) (rcL i) offN j)
      have hra := HPE.out.2.1
      unfold LM at hra
      clear hp HPD HRD
      go_wp2_with (refine wpList_store_row rfl 67 _ _ rfl g _ rfl rfl _ _ hra hin hsn hon ?_)
      have HPF : Hid (PW w (w5.setRow g (arr .u64 25 fun j => ln (kround (kS A i) (rcL i) offN j))) g c o crc cof (fun j => ln (kS A (i + 1) j))) := by
        obtain ⟨h1, h2, h3, h4, h5, h6, h7, h8⟩ := HPE.out
        refine ⟨below_setRow h1 h6 _, setRow_heap w5 g _ _ _ _ h2, ?_, ?_, ?_, h6, h7, h8⟩
        · exact (setRow_other w5 g (g + 1) _ (by omega)).trans h3
        · exact (setRow_other w5 g c _ (by omega)).trans h4
        · exact (setRow_other w5 g o _ (by omega)).trans h5
      clear HPE hra hin hsn hon
      go_wp2_with fail
      go_roundg (24 - (i + 1))
      case rel => exact ⟨i + 1, by omega, rfl, by go_num, HPF⟩
      case measure => have := HGK.out; omega
    · obtain rfl : i = 24 := by omega
      have hr2 := HQ.out.2.1
      have hr1 := HQ.out.2.2.1
      have HP := Lib.hid HQ.out.1
      unfold LM at hr2
      have hi2 : (Try.prog.info? 67).map (·.size) = some (arr .u64 25 fun i => ln (kperm A i)).size := by rw [arr_size]; kernel_rfl
      have hs2 : (arr .u64 25 fun _ => 0).size = (arr .u64 25 fun i => ln (kperm A i)).size := by rw [arr_size, arr_size]
      have ho2 := arr_one .u64 25 fun i => ln (kperm A i)
      have he : (arr .u64 25 fun j => ln (kS A 24 j)) = arr .u64 25 fun i => ln (kperm A i) := rfl
      rw [he] at hr2
      clear HQ he
      generalize hcc : arr .u64 25 (fun i => ln (kperm A i)) = c2 at *
      have HCC := Lib.hid hcc
      clear hcc
      generalize arr .u64 25 (fun _ => 0) = c1 at *
      go_wp2_with (first | (refine wpList_load_row rfl 67 _ rfl g rfl _ _ (0, 0) _ hr2 Try.underlying67 rfl hi2 ?_) | (refine wpList_store_row rfl 67 _ _ rfl (g + 1) _ rfl rfl _ _ hr1 hi2 hs2 ho2 ?_))
      refine bodyPost_ret (results_cell_row rfl _ _ (g + 1) _ c2 (0, 0) _ rfl (setRow_heap wr (g + 1) c1 c2 _ _ hr1) Try.underlying67 rfl hi2) rfl ?_
      exact ⟨by rw [HCC.out], below_setRow HP.out (by omega) _⟩

end Go.Proofs.Ytamgbkadiobklaa
