/- Contract of the reference of the hashes: the output of a sponge. -/
import Derived.Test.YtamgbkadiobklaaRef7C
namespace Go.Proofs.Ytamgbkadiobklaa
open Go.RowKit

/-- The state after the first k blocks of R bytes. -/
def rabs (p : List Int) (R : Nat) : Nat → Nat → Lane
  | 0 => fun _ => 0
  | k + 1 => rperm (mixF (rabs p R k) ((p.drop (k * R)).take R))
/-- The state after k more permutations. -/
def rsq (A : Nat → Lane) : Nat → Nat → Lane
  | 0 => A
  | k + 1 => rperm (rsq A k)
/-- A byte of the output. -/
def rout (A : Nat → Lane) (R j : Nat) : Int := kbyte (rsq A (j / R)) (j % R)
/-- The state after all bytes. -/
def rstate (xs : List Int) (R : Nat) (s : Int) : Nat → Lane := rabs (padL xs R s) R (plen xs.length R / R)

theorem bits8 : ∀ x : Fin 256, 0 ≤ bits .xor .u8 (x.val : Int) 128 ∧ bits .xor .u8 (x.val : Int) 128 < 256 := by decide +kernel
theorem padL_rng (xs : List Int) (R : Nat) (s : Int) (hx : ∀ x ∈ xs, 0 ≤ x ∧ x < 256) (hs : 0 ≤ s ∧ s < 256) : ∀ x ∈ padL xs R s, 0 ≤ x ∧ x < 256 := by
  intro x h
  obtain ⟨j, _, rfl⟩ := List.mem_map.1 h
  have hp := pd_rng xs s hx hs j
  unfold padF
  split
  · obtain ⟨y, hy⟩ := Int.eq_ofNat_of_zero_le hp.1
    rw [hy]
    exact bits8 ⟨y, by omega⟩
  · exact hp
/-- A cut of two indexes. -/
theorem slice2 (g L pc I R : Nat) (h1 : I + R ≤ pc) (hI : I < pc) (w : World) :
    (Instr.slice 23 (.slice (some ⟨g, 0, none⟩) L pc) (some (.int .i64 (I : Int))) (some (.int .i64 ((I : Int) + (R : Int)))) none).run Try.prog w = .ok (.slice (some ⟨g, I, none⟩) R (pc - I)) w := by
  rw [run_slice_lh w 23 (some ⟨g, 0, none⟩) L pc Try.underlying23 .i64 .i64 (I : Int) ((I : Int) + (R : Int)) (by omega) (by omega) (by omega)]
  have hs : (sizeOf (Try.prog.elem 23)).run Try.prog w = .ok 1 w := by kernel_rfl
  rw [hs]
  simp only [Result.andThen, sliced, Int.toNat_natCast, show ((I : Int) + (R : Int)).toNat = I + R by omega]
  rw [if_neg (by omega), Option.map_some, Nat.mul_one, add_none, Nat.zero_add, Nat.add_sub_cancel_left]
theorem sliceAt2 (g L pc I R : Nat) (h1 : I + R ≤ pc) (hI : I < pc) (w : World) :
    (Instr.sliceAt 23 (.slice (some ⟨g, 0, none⟩) L pc) (some (.int .i64 (I : Int))) (some (.int .i64 ((I : Int) + (R : Int)))) none).run Try.prog w = .ok (.slice (some ⟨g, I, none⟩) R (pc - I)) w := by
  rw [run_sliceAt_slice w 23 _ _ _ _ Try.underlying23]
  exact slice2 g L pc I R h1 hI w
theorem own_past {w w' : World} {B : Nat} {e : TypeId} {v : Value} {n : Nat} {xs : List Value} (h : w.ownsRow B e 1 v n xs) (hp : Past w w') : w'.ownsRow B e 1 v n xs := by
  refine ⟨h.1, ?_⟩
  rcases h.2 with h | ⟨g, cap, cur, e1, e2, e3, e4⟩
  · exact .inl h
  · exact .inr ⟨g, cap, cur, e1, e2, (show Row w g e cur from e3).past hp, e4⟩
theorem own_setRow {w : World} {B g : Nat} {e : TypeId} {v : Value} {n : Nat} {xs : List Value} (h : w.ownsRow B e 1 v n xs) (hg : g < B) (cs : Array Value) : (w.setRow g cs).ownsRow B e 1 v n xs := by
  refine ⟨h.1, ?_⟩
  rcases h.2 with h | ⟨g', cap, cur, e1, e2, e3, e4⟩
  · exact .inl h
  · exact .inr ⟨g', cap, cur, e1, e2, (setRow_other w g g' cs (by omega)).trans e3, e4⟩
theorem bl_take (f : Nat → Int) (m M : Nat) (h : M ≤ m) : (bl f m).take M = bl f M := by
  unfold bl
  rw [← List.map_take, List.take_range, Nat.min_eq_left h]
theorem bl_add (f : Nat → Int) (a b : Nat) : bl f (a + b) = bl f a ++ bl (fun j => f (a + j)) b := by
  unfold bl
  rw [List.range_add, List.map_append, List.map_map]
  rfl
theorem rout_add (A : Nat → Lane) (R t : Nat) (hR : 0 < R) : bl (rout A R) (t * R + R) = bl (rout A R) (t * R) ++ bl (kbyte (rsq A t)) R := by
  rw [bl_add]
  congr 1
  refine bl_ext fun j hj => ?_
  unfold rout
  rw [Nat.mul_comm t R, Nat.mul_add_div hR, Nat.div_eq_of_lt hj, Nat.add_zero, Nat.mul_add_mod, Nat.mod_eq_of_lt hj]
theorem kbyte_rng (A : Nat → Lane) (j : Nat) : 0 ≤ kbyte A j ∧ kbyte A j < 256 := by
  unfold kbyte
  omega
/-- The first bytes of an array as a slice. -/
theorem sliceArr (g R : Nat) (hR2 : R ≤ 200) (w : World) :
    (Instr.sliceAt 45 (.pointer (some ⟨g, 0, none⟩)) none (some (.int .i64 (R : Int))) none).run Try.prog w = .ok (.slice (some ⟨g, 0, none⟩) R 200) w := by
  have hl : Try.prog.arrayLen 45 = 200 := by kernel_rfl
  rw [run_sliceAt_array_h w 45 ⟨g, 0, none⟩ Try.underlying45 .i64 (R : Int) (by omega) (by rw [hl]; omega)]
  have hs : (sizeOf (Try.prog.elem 45)).run Try.prog w = .ok 1 w := by kernel_rfl
  rw [hs]
  simp only [Result.andThen, slicedAt, hl, Int.toNat_natCast]
  rw [if_neg (by omega), add_none]
  rfl
/-- Bytes in a block of their own. -/
theorem Sl.ofRow {w : World} {g m R : Nat} {t : TypeId} {f : Nat → Int} (h : Row w g t (arr .u8 m f)) (hR : R ≤ m) (hm : m ≤ 1000) (hf : ∀ i, 0 ≤ f i ∧ f i < 256) : Sl w (some ⟨g, 0, none⟩) R m (bl f R) := by
  refine ⟨bl_len f R, hR, by unfold maxLen; omega, fun _ => ⟨g, 0, rfl, fun i hi => ?_⟩, fun x hx => ?_, fun e => by cases e⟩
  · rw [Nat.zero_add, h.cell, arr_get .u8 m f i (by omega), bl_getD f R i hi]
  · obtain ⟨j, _, rfl⟩ := List.mem_map.1 hx
    exact hf j
theorem rout_rng (A : Nat → Lane) (R j : Nat) : 0 ≤ rout A R j ∧ rout A R j < 256 := kbyte_rng _ _
theorem bl_rng (f : Nat → Int) (m : Nat) (h : ∀ i, 0 ≤ f i ∧ f i < 256) : ∀ x ∈ bl f m, 0 ≤ x ∧ x < 256 := by
  intro x hx
  obtain ⟨j, _, rfl⟩ := List.mem_map.1 hx
  exact h j
/-- Where the absorbing stands. -/
def AQ (w1 wx : World) (cs : Array Value) : Prop := Past w1 wx ∧ Row wx w1.heap.size 56 cs

theorem st_size (f : Nat → Lane) : (Try.prog.info? 56).map (·.size) = some (arr .u64 25 fun i => ln (f i)).size := by rw [arr_size]; kernel_rfl

set_option maxHeartbeats 4000000 in
theorem routput_fresh (N : Int) (A : Option Addr) (n c R : Nat) (s : Int) (xs : List Int) (w : World) (hS : Sl w A n c xs) (hs : 0 ≤ s ∧ s < 256) (hn : n ≤ 100000) (hR : 0 < R) (hR2 : R ≤ 200) (hN : N ≤ 100000) :
    Calls Try.prog 26 #[.int .i64 N, .slice A n c, .int .i64 (R : Int), .int .u8 s] w fun e w' => ∃ B d, e = .returned (.slice B N.toNat d) ∧ Sl w' B N.toNat d (bl (rout (rstate xs R s) R) N.toNat) ∧ Past w w' ∧ ∀ b o, B = some ⟨b, o, none⟩ → w.heap.size ≤ b := by
  have HRP := Lib.hid (rpad_any A n c R s xs w hS hn hR hR2)
  have HRG := Lib.hid (padL_rng xs R s hS.rng hs)
  have HLN := Lib.hid hS.len
  clear hS
  obtain ⟨L, hL⟩ : ∃ L, plen n R = L := ⟨_, rfl⟩
  have hL0 : 0 < L := by rw [← hL]; unfold plen; omega
  have hL1 : L ≤ 100400 := by
    rw [← hL]
    unfold plen
    have := Nat.mod_lt (R - (n + 1) % R) hR
    omega
  obtain ⟨K, hK⟩ : ∃ K, L / R = K := ⟨_, rfl⟩
  have hKL : K * R = L := by
    rw [← hK]
    exact Nat.div_mul_cancel (Nat.dvd_of_mod_eq_zero (by rw [← hL]; exact plen_mod n R hR))
  have HKL := Lib.hid hKL
  have HST : Hid (rstate xs R s = rabs (padL xs R s) R K) := by show _ = _; unfold rstate; rw [HLN.out, hL, hK]
  rw [hL] at HRP
  generalize padL xs R s = P at *
  generalize rstate xs R s = S at *
  clear hL hK hKL HLN hs
  have hz := arr_zero25
  go_enter Try.func26, Try.ntmps26
  go_wp2_with fail
  refine (HRP.out).mono ?_
  rintro e w1 ⟨v, rfl, hown, hp1⟩
  obtain ⟨PA, pc, rfl⟩ := own_slice hown
  have hsl := Sl.of_own hown HRG.out
  obtain ⟨g, _, rfl, _, _, _⟩ := own_row hown hL0
  have hpc := hsl.cap
  have hpb := hsl.big
  have HS1 := Lib.hid hsl
  have HP1 := Lib.hid hp1
  clear hown hp1 HRP HRG hsl
  have hn1 := heap_alloc_new w1 (.cells (arr .u64 25 fun _ => 0) 56)
  have hz2 : arr .u64 25 (fun _ => 0) = arr .u64 25 fun j => ln (rabs P R 0 j) := rfl
  have H0 : Hid (AQ w1 (w1.alloc (.cells (arr .u64 25 fun j => ln (rabs P R 0 j)) 56)) (arr .u64 25 fun j => ln (rabs P R 0 j))) := ⟨past_alloc6 _ _, Row.new w1 _ _⟩
  have hi1 := st_size (rabs P R 0)
  have ho1 := arr_one .u64 25 fun j => ln (rabs P R 0 j)
  rw [← hz2] at H0 hi1 ho1
  have HZ2 := Lib.hid hz2
  clear hz2
  generalize arr .u64 25 (fun _ => 0) = c0 at *
  go_wp2_with (refine wpList_store_row rfl 56 _ _ rfl w1.heap.size _ rfl rfl _ _ hn1 hi1 rfl ho1 ?_)
  rw [World.setRow_alloc_new]
  generalize w1.alloc (.cells c0 56) = w2 at *
  rw [HZ2.out] at H0
  clear hn1 hi1 ho1 hz
  go_loopg [11] K (fun k s11 wx => ∃ i : Nat, i ≤ K ∧ k = K - i ∧ s11 = .int .i64 ((i * R : Nat) : Int) ∧ Hid (AQ w1 wx (arr .u64 25 fun j => ln (rabs P R i j))))
  case atStart => exact ⟨0, Nat.zero_le _, rfl, by simp, H0⟩
  case round =>
    clear H0
    obtain ⟨i, hi, hgk, rfl, HQ⟩ := hrel
    have HGK := Lib.hid hgk
    clear hgk
    by_cases hlt : i < K
    · have hIR : i * R + R ≤ L := by
        have := Nat.mul_le_mul_right R (Nat.succ_le_of_lt hlt)
        rw [HKL.out, Nat.succ_mul] at this
        exact this
      have HSU := Lib.hid (Nat.succ_mul i R)
      have hsb := (HS1.out.past (HQ.out.1.drewN 1)).cut2 hIR
      rw [if_neg (by omega), Option.map_some, add_none, Nat.zero_add] at hsb
      have HMX := Lib.hid (rmix_any (rabs P R i) _ R _ _ (wr.drewN 1) hsb hR2)
      have HPM := Lib.hid (rpermute_any (mixF (rabs P R i) ((P.drop (i * R)).take R)))
      have hra : Row wr.drew w1.heap.size 56 (arr .u64 25 fun j => ln (rabs P R i j)) := HQ.out.2
      have hia := st_size (rabs P R i)
      have hin := st_size (rabs P R (i + 1))
      have hon := arr_one .u64 25 fun j => ln (rabs P R (i + 1) j)
      have hsn : (arr .u64 25 fun j => ln (rabs P R i j)).size = (arr .u64 25 fun j => ln (rabs P R (i + 1) j)).size := by rw [arr_size, arr_size]
      change Hid (Calls _ _ _ wr.drew _) at HMX
      change Hid (∀ w, Calls Try.prog 31 #[.agg (arr .u64 25 fun j => ln (mixF (rabs P R i) ((P.drop (i * R)).take R) j))] w fun e w' => e = .returned (.agg (arr .u64 25 fun j => ln (rabs P R (i + 1) j))) ∧ Past w w') at HPM
      have HQ2 : Hid (AQ w1 wr.drew (arr .u64 25 fun j => ln (rabs P R i j))) := ⟨HQ.out.1.drewN 1, HQ.out.2⟩
      clear hsb HQ
      generalize arr .u64 25 (fun j => ln (rabs P R i j)) = c1 at *
      generalize hc2 : arr .u64 25 (fun j => ln (rabs P R (i + 1) j)) = c2 at *
      have HC2 := Lib.hid hc2
      clear hc2
      generalize arr .u64 25 (fun j => ln (mixF (rabs P R i) ((P.drop (i * R)).take R) j)) = c3 at *
      generalize i * R = I at *
      have hwr : IntKind.i64.wrap ((I : Int) + (R : Int)) = (I : Int) + (R : Int) := by rw [IntKind.wrap_i64]; omega
      have hsa := sliceAt2 g L pc I R (by omega) (by omega)
      have hsb := slice2 g L pc I R (by omega) (by omega)
      go_wp2_with fail
      refine wp_region_still_tail 7 (by kernel_rfl) (by kernel_rfl) ?_
      simp only [List.take_succ_cons, List.take_zero, List.drop_succ_cons, List.drop_zero]
      change wpStill _ _ wr.drew _ _ _
      refine still_load_row rfl 56 _ rfl w1.heap.size rfl _ _ _ hra Try.underlying56 rfl hia ?_
      clear hra
      repeat still_step
      refine wpStill_nil ?_
      clear hwr hsa hsb
      go_wp2_with fail
      refine HMX.out.mono ?_
      rintro e w4 ⟨rfl, hp⟩
      have hp' : Past wr.drew w4 := hp
      have HQ3 : Hid (AQ w1 w4 c1) := ⟨HQ2.out.1.trans' hp', HQ2.out.2.past hp'⟩
      clear hp'
      clear hp HQ2
      go_wp2_with fail
      refine (HPM.out _).mono ?_
      rintro e w5 ⟨rfl, hp⟩
      have HP5 := Lib.hid (HQ3.out.1.trans' hp)
      have hr5 := HQ3.out.2.past hp
      clear hp HQ3
      go_wp2_with (refine wpList_store_row rfl 56 _ _ rfl w1.heap.size _ rfl rfl _ _ hr5 hin hsn hon ?_)
      have HQ6 : Hid (AQ w1 (w5.setRow w1.heap.size c2) (arr .u64 25 fun j => ln (rabs P R (i + 1) j))) := by
        rw [HC2.out]
        exact ⟨below_setRow HP5.out (Nat.le_refl _) _, setRow_heap w5 w1.heap.size c1 c2 _ _ hr5⟩
      clear hr5 HP5 HC2
      generalize w5.setRow w1.heap.size c2 = w6 at *
      go_wp2_with fail
      go_roundg (K - (i + 1))
      case rel => exact ⟨i + 1, by omega, rfl, by rw [HSU.out]; go_num, HQ6⟩
      case measure => have := HGK.out; omega
    · obtain rfl : i = K := by omega
      rw [HKL.out]
      have HQ1 : Hid (AQ w1 wr (arr .u64 25 fun j => ln (rsq S 0 j))) := by rw [show rsq S 0 = S from rfl, HST.out]; exact HQ.out
      have HP0 := Lib.hid (HP1.out)
      clear HQ HST HKL HZ2 HS1 hlt
      go_wp2_with fail
      generalize rabs P R i = zz at *
      go_loopg [12] N.toNat (fun k s12 wx => ∃ t : Nat, k = N.toNat - t * R ∧ Hid (wx.ownsRow (w1.heap.size + 1) 5 1 s12 (t * R) ((bl (rout S R) (t * R)).map (Value.int .u8)) ∧ AQ w1 wx (arr .u64 25 fun j => ln (rsq S t j))))
      case atStart => exact ⟨0, by omega, by rw [Nat.zero_mul]; exact ⟨rfl, .inl ⟨rfl, rfl⟩⟩, HQ1.out⟩
      case round =>
        clear HQ1
        obtain ⟨t, hgk, HO⟩ := hrel
        have HGK2 := Lib.hid hgk
        clear hgk
        obtain ⟨BA, bc, rfl⟩ := own_slice HO.out.1
        have HSU := Lib.hid (Nat.succ_mul t R)
        have HBL := Lib.hid (rout_add S R t hR)
        generalize t * R = I at *
        by_cases hlt : (I : Int) < N
        · have HB := Lib.hid (bytes_any (rsq S t))
          have HPM := Lib.hid (rpermute_any (rsq S t))
          have hra := HO.out.2.2
          have hia := st_size (rsq S t)
          go_wp2_with (refine wpList_load_row rfl 56 _ rfl w1.heap.size rfl _ _ (0, 0) _ hra Try.underlying56 rfl hia ?_)
          refine (HB.out _).mono ?_
          rintro e w3 ⟨rfl, hp⟩
          have HO3 : Hid (w3.ownsRow (w1.heap.size + 1) 5 1 (.slice BA I bc) I ((bl (rout S R) I).map (Value.int .u8)) ∧ AQ w1 w3 (arr .u64 25 fun j => ln (rsq S t j))) :=
            ⟨own_past HO.out.1 hp, HO.out.2.1.trans' hp, HO.out.2.2.past hp⟩
          clear hp HO hra
          have hz2 := zero200
          have hn3 := heap_alloc_new w3 (.cells (arr .u8 200 fun _ => 0) 45)
          have hi3 : (Try.prog.info? 45).map (·.size) = some (arr .u8 200 (kbyte (rsq S t))).size := by rw [arr_size]; kernel_rfl
          have hs3 : (arr .u8 200 fun _ => 0).size = (arr .u8 200 (kbyte (rsq S t))).size := by rw [arr_size, arr_size]
          have ho3 := arr_one .u8 200 (kbyte (rsq S t))
          go_wp2_with (refine wpList_store_row rfl 45 _ _ rfl w3.heap.size _ rfl rfl _ _ hn3 hi3 hs3 ho3 ?_)
          rw [World.setRow_alloc_new]
          have HO4 : Hid ((w3.alloc (.cells (arr .u8 200 (kbyte (rsq S t))) 45)).ownsRow (w1.heap.size + 1) 5 1 (.slice BA I bc) I ((bl (rout S R) I).map (Value.int .u8)) ∧ AQ w1 (w3.alloc (.cells (arr .u8 200 (kbyte (rsq S t))) 45)) (arr .u64 25 fun j => ln (rsq S t j))) :=
            ⟨HO3.out.1.alloc _, HO3.out.2.1.trans' (past_alloc6 _ _), HO3.out.2.2.alloc _⟩
          have HSL : Hid (Sl (w3.alloc (.cells (arr .u8 200 (kbyte (rsq S t))) 45)) (some ⟨w3.heap.size, 0, none⟩) R 200 (bl (kbyte (rsq S t)) R)) :=
            Sl.ofRow (Row.new w3 45 _) hR2 (by omega) (kbyte_rng _)
          clear HO3 hn3 hi3 hs3 ho3 hz2
          generalize w3.alloc (.cells (arr .u8 200 (kbyte (rsq S t))) 45) = w4 at *
          generalize w3.heap.size = q at *
          have hsl := sliceArr q R hR2
          go_wp2_with fail
          rw [hsl]
          go_wp2_with (at_builtin; refine wpList_append_sl rfl _ _ 23 5 rfl Try.underlying23 info8 (w1.heap.size + 1) _ I _ rfl HO4.out.1 (some ⟨q, 0, none⟩) R 200 _ rfl HSL.out ?a1 ?a2 ?_)
          case a1 => omega
          case a2 => exact HO4.out.2.2.lt
          intro v5 w5 hown5 hgrow5
          have HO5 : Hid (w5.ownsRow (w1.heap.size + 1) 5 1 v5 (I + R) ((bl (rout S R) (I + R)).map (Value.int .u8)) ∧ AQ w1 w5 (arr .u64 25 fun j => ln (rsq S t j))) := by
            rw [HBL.out]
            have hge := own_block_ge HO4.out.1
            refine ⟨by rw [List.map_append]; exact hown5, HO4.out.2.1.grown hgrow5 (Nat.le_of_lt HO4.out.2.2.lt) fun x hx => Nat.le_of_succ_le (hge x hx), HO4.out.2.2.grown hgrow5 fun e => ?_⟩
            have := hge _ e.symm
            omega
          clear hown5 hgrow5 HO4 HSL hsl
          have hrb := HO5.out.2.2
          have hin := st_size (rsq S (t + 1))
          have hsn : (arr .u64 25 fun j => ln (rsq S t j)).size = (arr .u64 25 fun j => ln (rsq S (t + 1) j)).size := by rw [arr_size, arr_size]
          have hon := arr_one .u64 25 fun j => ln (rsq S (t + 1) j)
          go_wp2_with (refine wpList_load_row rfl 56 _ rfl w1.heap.size rfl _ _ (0, 0) _ hrb Try.underlying56 rfl hia ?_)
          refine (HPM.out _).mono ?_
          rintro e w6 ⟨rfl, hp⟩
          have HO6 : Hid (w6.ownsRow (w1.heap.size + 1) 5 1 v5 (I + R) ((bl (rout S R) (I + R)).map (Value.int .u8)) ∧ AQ w1 w6 (arr .u64 25 fun j => ln (rsq S t j))) :=
            ⟨own_past HO5.out.1 hp, HO5.out.2.1.trans' hp, HO5.out.2.2.past hp⟩
          clear hp HO5 hrb
          have hr6 := HO6.out.2.2
          change Row w6 w1.heap.size _ _ at hr6
          go_wp2_with (refine wpList_store_row rfl 56 _ _ rfl w1.heap.size _ rfl rfl _ _ hr6 hin hsn hon ?_)
          have HO7 : Hid ((w6.setRow w1.heap.size (arr .u64 25 fun j => ln (rperm (rsq S t) j))).ownsRow (w1.heap.size + 1) 5 1 v5 (I + R) ((bl (rout S R) (I + R)).map (Value.int .u8)) ∧ AQ w1 (w6.setRow w1.heap.size (arr .u64 25 fun j => ln (rperm (rsq S t) j))) (arr .u64 25 fun j => ln (rsq S (t + 1) j))) :=
            ⟨own_setRow HO6.out.1 (Nat.lt_succ_self _) _, below_setRow HO6.out.2.1 (Nat.le_refl _) _, setRow_heap w6 w1.heap.size _ _ _ _ HO6.out.2.2⟩
          clear HO6 hr6 hin hsn hon
          generalize w6.setRow w1.heap.size (arr .u64 25 fun j => ln (rperm (rsq S t) j)) = w7 at *
          go_wp2_with fail
          go_roundg (N.toNat - (I + R))
          case rel => exact ⟨t + 1, by rw [HSU.out], by rw [HSU.out]; exact HO7⟩
          case measure => have := HGK2.out; omega
        · by_cases hneg : N < 0
          · go_wp2_with fail
            go_ret
            have e : N.toNat = 0 := by omega
            rw [e]
            exact ⟨none, 0, rfl, Sl.nil _, HP0.out.trans' HO.out.2.1, fun _ _ e => by cases e⟩
          · obtain ⟨M, rfl⟩ : ∃ M : Nat, N = (M : Int) := ⟨N.toNat, by omega⟩
            have hMI : M ≤ I := by omega
            have hsl := Sl.of_own HO.out.1 (bl_rng _ _ (rout_rng S R))
            have HP2 := Lib.hid (HP0.out.trans' HO.out.2.1)
            rcases HO.out.1.2 with ⟨e1, e2⟩ | ⟨h, cap, cur, e1, hbase, _, _⟩
            · injection e1 with a1 a2 a3
              subst a1 a2 a3
              obtain rfl : M = 0 := by omega
              clear HO hsl
              go_wp2_with fail
              go_ret
              exact ⟨none, 0, rfl, Sl.nil _, HP2.out, fun _ _ e => by cases e⟩
            · injection e1 with a1 a2 a3
              subst a1 a3
              have hcap := hsl.cap
              have hcb := hsl.big
              have hct := hsl.cut2 (i := 0) (m := M) (by omega)
              have he : (if bc = 0 then some (⟨h, 0, none⟩ : Addr) else (some (⟨h, 0, none⟩ : Addr)).map (·.add 0)) = some ⟨h, 0, none⟩ := by
                rw [Option.map_some, add_none, ite_self]
              rw [List.drop_zero, bl_take _ _ _ hMI, he, Nat.sub_zero] at hct
              clear he
              have HCT := Lib.hid hct
              clear HO hsl hct
              go_wp2_with fail
              go_ret
              have hw01 := HP0.out.size
              exact ⟨some ⟨h, 0, none⟩, bc, rfl, HCT.out, HP2.out, fun b o e => by
                injection e with e
                injection e with e
                omega⟩

theorem routput_any (N : Int) (A : Option Addr) (n c R : Nat) (s : Int) (xs : List Int) (w : World) (hS : Sl w A n c xs) (hs : 0 ≤ s ∧ s < 256) (hn : n ≤ 100000) (hR : 0 < R) (hR2 : R ≤ 200) (hN : N ≤ 100000) :
    Calls Try.prog 26 #[.int .i64 N, .slice A n c, .int .i64 (R : Int), .int .u8 s] w fun e w' => ∃ B d, e = .returned (.slice B N.toNat d) ∧ Sl w' B N.toNat d (bl (rout (rstate xs R s) R) N.toNat) ∧ Past w w' := (routput_fresh N A n c R s xs w hS hs hn hR hR2 hN).mono fun _ _ ⟨B, d, h1, h2, h3, _⟩ => ⟨B, d, h1, h2, h3⟩

end Go.Proofs.Ytamgbkadiobklaa
