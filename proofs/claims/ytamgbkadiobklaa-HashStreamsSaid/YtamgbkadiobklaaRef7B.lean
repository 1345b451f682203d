/- Contract of the reference of the hashes: a block is combined with a state. -/
import Derived.Test.YtamgbkadiobklaaRef7A
import Derived.Test.YtamgbkadiobklaaRef6G
namespace Go.Proofs.Ytamgbkadiobklaa
open Go.RowKit

/-- A byte at its place in a lane. -/
def lby (y : Int) (i : Nat) : Lane := BitVec.ofNat 64 y.toNat <<< (8 * (i % 8))
/-- A state combined with the first i bytes. -/
def mixN (A : Nat → Lane) (ys : List Int) : Nat → Nat → Lane
  | 0 => A
  | i + 1 => fun j => if j = i / 8 then mixN A ys i j ^^^ lby (ys.getD i 0) i else mixN A ys i j
theorem mixN_at (A : Nat → Lane) (ys : List Int) (i j : Nat) : mixN A ys (i + 1) j = if j = i / 8 then mixN A ys i j ^^^ lby (ys.getD i 0) i else mixN A ys i j := rfl
def mixF (A : Nat → Lane) (ys : List Int) : Nat → Lane := mixN A ys ys.length

theorem lby_ln (y : Int) (h0 : 0 ≤ y) (h1 : y < 256) (m : Nat) : IntKind.u64.wrap (y * 2 ^ (8 * m)) = ln (BitVec.ofNat 64 y.toNat <<< (8 * m)) := by
  obtain ⟨k, rfl⟩ := Int.eq_ofNat_of_zero_le h0
  unfold ln
  rw [IntKind.wrap_u64, BitVec.toNat_shiftLeft, BitVec.toNat_ofNat, Nat.shiftLeft_eq, Int.toNat_natCast, Nat.mod_eq_of_lt (a := k) (by omega), Int.natCast_emod, Int.natCast_mul, Int.natCast_pow]
  rfl
theorem getD_rng {xs : List Int} (h : ∀ x ∈ xs, 0 ≤ x ∧ x < 256) (i : Nat) : 0 ≤ xs.getD i 0 ∧ xs.getD i 0 < 256 := by
  rw [List.getD_eq_getElem?_getD]
  by_cases hi : i < xs.length
  · rw [List.getElem?_eq_getElem hi]
    exact h _ (List.getElem_mem hi)
  · rw [List.getElem?_eq_none (by omega)]
    simp
def TwoM (w wx : World) (g : Nat) (c1 : Array Value) (f : Nat → Int) : Prop :=
  Past w wx ∧ LM .u64 wx g 56 25 f ∧ Row wx (g + 1) 56 c1
theorem TwoM.put {w wx : World} {g : Nat} {c1 : Array Value} {f : Nat → Int} (h : TwoM w wx g c1 f) (hg : w.heap.size ≤ g) (i : Nat) (hi : i < 25) (v : Int) : TwoM w (wx.setCell ⟨g, i, none⟩ (.int .u64 v)) g c1 (upd f i v) :=
  ⟨h.1.set hg _, h.2.1.put i hi v, Row.setOther h.2.2 (by omega) _ _⟩

set_option maxHeartbeats 4000000 in
theorem rmix_any (A : Nat → Lane) (B : Option Addr) (n c : Nat) (ys : List Int) (w : World) (hS : Sl w B n c ys) (hn : n ≤ 200) :
    Calls Try.prog 32 #[.agg (arr .u64 25 fun i => ln (A i)), .slice B n c] w fun e w' => e = .returned (.agg (arr .u64 25 fun i => ln (mixF A ys i))) ∧ Past w w' := by
  have HS := Lib.hid hS
  clear hS
  have H0 : Hid (TwoM w (((w.alloc (.cells (arr .u64 25 fun i => ln (A i)) 56))).alloc (.cells (arr .u64 25 fun _ => 0) 56)) w.heap.size (arr .u64 25 fun _ => 0) (fun j => ln (mixN A ys 0 j))) :=
    ⟨((Below.refl _ _).alloc (Nat.le_refl _) _).alloc (by simp) _, (Row.new w 56 _).alloc _, by simpa using Row.new (w.alloc (.cells (arr .u64 25 fun i => ln (A i)) 56)) 56 (arr .u64 25 fun _ => 0)⟩
  generalize arr .u64 25 (fun i => ln (A i)) = cs at *
  go_enter Try.func32, Try.ntmps32
  go_wp2_with fail
  rw [arr_zero25]
  generalize (w.alloc (.cells cs 56)).alloc (.cells (arr .u64 25 fun _ => 0) 56) = w3 at *
  obtain ⟨g, hg⟩ : ∃ g, w.heap.size = g := ⟨_, rfl⟩
  have hge : w.heap.size ≤ g := by omega
  rw [hg] at H0 ⊢
  clear hg
  go_loopg [5] n (fun k s5 wx => ∃ i : Nat, i ≤ n ∧ k = n - i ∧ s5 = .int .i64 (i : Int) ∧ Hid (TwoM w wx g (arr .u64 25 fun _ => 0) (fun j => ln (mixN A ys i j))))
  case atStart => exact ⟨0, Nat.zero_le _, rfl, rfl, H0⟩
  case round =>
    clear H0
    obtain ⟨i, hi, hgk, rfl, HQ⟩ := hrel
    have HGK := Lib.hid hgk
    clear hgk
    by_cases hlt : i < n
    · obtain ⟨b, o, rfl, hc⟩ := (HS.out.past HQ.out.1).bytes (by omega)
      have hx := hc i hlt
      have hi0 : (0 : Int) ≤ (i : Int) := by omega
      have hin1 : (i : Int) < (n : Int) := by omega
      obtain ⟨q, hq⟩ : ∃ q, i / 8 = q := ⟨_, rfl⟩
      obtain ⟨m, hm⟩ : ∃ m, i % 8 = m := ⟨_, rfl⟩
      have hq1 : (q : Int) < 25 := by omega
      have hm3 : (m : Int) < 8 := by omega
      have hqi : (i : Int) / 8 = (q : Int) := by omega
      have hmi : (i : Int) % 8 = (m : Int) := by omega
      have hc1 := HQ.out.2.1.at q (by omega)
      have hf1 := HQ.out.2.1.fr q
      have hy := getD_rng HS.out.rng i
      obtain ⟨hy0, hy1⟩ := hy
      have HQ2 : Hid (TwoM w (wr.setCell ⟨g, q, none⟩ (.int .u64 (bits .xor .u64 (ln (mixN A ys i q)) (IntKind.u64.wrap (ys.getD i 0 * 2 ^ (8 * m)))))) g (arr .u64 25 fun _ => 0) (fun j => ln (mixN A ys (i + 1) j))) := by
        obtain ⟨h1, h2, h3⟩ := HQ.out.put hge q (by omega) (bits .xor .u64 (ln (mixN A ys i q)) (IntKind.u64.wrap (ys.getD i 0 * 2 ^ (8 * m))))
        refine ⟨h1, LM.same h2 fun j _ => ?_, h3⟩
        rw [mixN_at]
        by_cases e : j = q
        · subst e
          rw [upd_at, if_pos hq.symm, lby_ln _ hy0 hy1 m, xor_ln, lby, hm]
        · rw [upd_ne _ _ e, if_neg (by omega)]
      clear hc HQ
      generalize ys.getD i 0 = y at *
      generalize mixN A ys i q = z at *
      go_wp2_with fail
      go_region
      go_wp2_with fail
      go_roundg (n - (i + 1))
      case rel => exact ⟨i + 1, by omega, rfl, by go_num, ⟨HQ2.out.1.drewN 1, HQ2.out.2.1.drewN 1, HQ2.out.2.2.drewN 1⟩⟩
      case measure => have := HGK.out; omega
    · obtain rfl : i = n := by omega
      have hr2 := HQ.out.2.1
      have hr1 := HQ.out.2.2
      unfold LM at hr2
      have hmx : mixN A ys i = mixF A ys := by unfold mixF; rw [HS.out.len]
      rw [hmx] at hr2
      have hi2 : (Try.prog.info? 56).map (·.size) = some (arr .u64 25 fun j => ln (mixF A ys j)).size := by rw [arr_size]; kernel_rfl
      have hs2 : (arr .u64 25 fun _ => 0).size = (arr .u64 25 fun j => ln (mixF A ys j)).size := by rw [arr_size, arr_size]
      have ho2 := arr_one .u64 25 fun j => ln (mixF A ys j)
      have HP := Lib.hid (HQ.out.1)
      clear HQ hmx
      generalize hcc : arr .u64 25 (fun j => ln (mixF A ys j)) = c2 at *
      have HCC := Lib.hid hcc
      clear hcc
      generalize arr .u64 25 (fun _ => 0) = c1 at *
      go_wp2_with (first | (refine wpList_load_row rfl 56 _ rfl g rfl _ _ (0, 0) _ hr2 Try.underlying56 rfl hi2 ?_) | (refine wpList_store_row rfl 56 _ _ rfl (g + 1) _ rfl rfl _ _ hr1 hi2 hs2 ho2 ?_))
      refine bodyPost_ret (results_cell_row rfl _ _ (g + 1) _ c2 (0, 0) _ rfl (setRow_heap wr (g + 1) c1 c2 _ _ hr1) Try.underlying56 rfl hi2) rfl ?_
      exact ⟨by rw [HCC.out], below_setRow HP.out (by omega) _⟩

end Go.Proofs.Ytamgbkadiobklaa
