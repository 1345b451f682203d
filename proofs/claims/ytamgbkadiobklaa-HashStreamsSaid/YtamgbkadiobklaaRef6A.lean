/- Contracts of the reference of Keccak: lanes of numbers and back. -/
import Derived.Test.YtamgbkadiobklaaArr
import Derived.Laws.CopyOwn
namespace Go.Proofs.Ytamgbkadiobklaa
open Go.RowKit

theorem arr_zero25 : (#[Value.int IntKind.u64 0, .int .u64 0, .int .u64 0, .int .u64 0, .int .u64 0, .int .u64 0, .int .u64 0, .int .u64 0, .int .u64 0, .int .u64 0, .int .u64 0, .int .u64 0, .int .u64 0, .int .u64 0, .int .u64 0, .int .u64 0, .int .u64 0, .int .u64 0, .int .u64 0, .int .u64 0, .int .u64 0, .int .u64 0, .int .u64 0, .int .u64 0, .int .u64 0] : Array Value) = arr .u64 25 fun _ => 0 := rfl

/-- Three blocks of a call's own. -/
def Three (k : IntKind) (n : Nat) (w wx : World) (g : Nat) (t0 t1 t2 : TypeId) (cs c1 : Array Value) (f : Nat → Int) : Prop :=
  Past w wx ∧ Row wx g t0 cs ∧ Row wx (g + 1) t1 c1 ∧ LM k wx (g + 1 + 1) t2 n f
theorem Three.new (k : IntKind) (n : Nat) (w : World) (t0 t1 t2 : TypeId) (cs c1 : Array Value) (f : Nat → Int) :
    Three k n w (((w.alloc (.cells cs t0)).alloc (.cells c1 t1)).alloc (.cells (arr k n f) t2)) w.heap.size t0 t1 t2 cs c1 f := by
  refine ⟨(((Below.refl _ _).alloc (Nat.le_refl _) _).alloc (by simp) _).alloc (by simp; omega) _, ((Row.new w t0 cs).alloc _).alloc _, ?_, ?_⟩
  · have := (Row.new (w.alloc (.cells cs t0)) t1 c1).alloc (.cells (arr k n f) t2)
    simpa using this
  · have := Row.new ((w.alloc (.cells cs t0)).alloc (.cells c1 t1)) t2 (arr k n f)
    simpa using this
theorem Three.put {k : IntKind} {n : Nat} {w wx : World} {t0 t1 t2 : TypeId} {cs c1 : Array Value} {f : Nat → Int} {g : Nat} (h : Three k n w wx g t0 t1 t2 cs c1 f) (hg : w.heap.size ≤ g) (i : Nat) (hi : i < n) (v : Int) :
    Three k n w (wx.setCell ⟨g + 1 + 1, i, none⟩ (.int k v)) g t0 t1 t2 cs c1 (upd f i v) :=
  ⟨h.1.set (by show _ ≤ g + 1 + 1; omega) _, h.2.1.setOther (by omega) _ _, h.2.2.1.setOther (by omega) _ _, h.2.2.2.put i hi v⟩
theorem Three.drewN {k : IntKind} {n : Nat} {w wx : World} {t0 t1 t2 : TypeId} {cs c1 : Array Value} {f : Nat → Int} {g : Nat} (h : Three k n w wx g t0 t1 t2 cs c1 f) (m : Nat) : Three k n w (wx.drewN m) g t0 t1 t2 cs c1 f :=
  ⟨h.1.drewN m, h.2.1, h.2.2.1, h.2.2.2⟩

set_option maxHeartbeats 1000000 in
theorem of_any (l : Nat → Int) (w : World) :
    Calls Try.prog 39 #[.agg (arr .u64 25 l)] w fun e w' => e = .returned (.agg (arr .u64 25 fun i => l (i / 5 + 5 * (i % 5)))) ∧ Past w w' := by
  have hsz := arr_size .u64 25 l
  have HC := Lib.hid (fun i (hi : i < 25) => arr_get .u64 25 l i hi)
  generalize arr .u64 25 l = cs at *
  have H0 := Lib.hid (Three.new .u64 25 w 56 67 67 cs (arr .u64 25 fun _ => 0) fun _ => 0)
  go_enter Try.func39, Try.ntmps39
  go_wp2_with fail
  rw [arr_zero25]
  generalize ((w.alloc (.cells cs 56)).alloc (.cells (arr .u64 25 fun _ => 0) 67)).alloc (.cells (arr .u64 25 fun _ => 0) 67) = w3 at *
  obtain ⟨g, hg⟩ : ∃ g, w.heap.size = g := ⟨_, rfl⟩
  have hge : w.heap.size ≤ g := by omega
  rw [hg] at H0 ⊢
  clear hg
  go_loopg [4] 5 (fun k s4 wx => ∃ x : Nat, x ≤ 5 ∧ k = 5 - x ∧ s4 = .int .i64 (x : Int) ∧ Hid (∃ f, Three .u64 25 w wx g 56 67 67 cs (arr .u64 25 fun _ => 0) f ∧ ∀ i, i < x * 5 → f i = l (i / 5 + 5 * (i % 5))))
  case atStart => exact ⟨0, Nat.zero_le _, rfl, rfl, _, H0.out, fun i hi => absurd hi (by omega)⟩
  case round =>
    clear H0
    obtain ⟨x, hx, hgk, rfl, HQ⟩ := hrel
    have HGK := Lib.hid hgk
    clear hgk
    by_cases hlt : x < 5
    · go_wp2_with fail
      go_loopg [5] 5 (fun k s5 wx => ∃ y : Nat, y ≤ 5 ∧ k = 5 - y ∧ s5 = .int .i64 (y : Int) ∧ Hid (∃ f, Three .u64 25 w wx g 56 67 67 cs (arr .u64 25 fun _ => 0) f ∧ ∀ i, i < x * 5 + y → f i = l (i / 5 + 5 * (i % 5))))
      case atStart => exact ⟨0, Nat.zero_le _, rfl, rfl, HQ.out⟩
      case round =>
        clear HQ
        obtain ⟨y, hy, hgk, rfl, f, hT, hf⟩ := hrel
        have HGK2 := Lib.hid hgk
        clear hgk
        by_cases hlt2 : y < 5
        · have hc1 : wr.cell? ⟨g, x + 5 * y, none⟩ = some (.int .u64 (l (x + 5 * y))) := by rw [hT.2.1.cell]; exact HC.out _ (by omega)
          have hc2 := hT.2.2.2.at (x * 5 + y) (by omega)
          have hf2 := hT.2.2.2.fr (x * 5 + y)
          have HT2 : Hid (∃ f, Three .u64 25 w (wr.setCell ⟨g + 1 + 1, x * 5 + y, none⟩ (.int .u64 (l (x + 5 * y)))) g 56 67 67 cs (arr .u64 25 fun _ => 0) f ∧ ∀ i, i < x * 5 + (y + 1) → f i = l (i / 5 + 5 * (i % 5))) := by
            refine ⟨_, hT.put hge (x * 5 + y) (by omega) _, fun i hi => ?_⟩
            by_cases e : i = x * 5 + y
            · subst e
              rw [upd_at]
              congr 2
              · omega
              · omega
            · rw [upd_ne _ _ e]
              exact hf i (by omega)
          clear hT hf
          go_wp2_with fail
          go_region
          go_wp2_with fail
          go_roundg (5 - (y + 1))
          case rel => exact ⟨y + 1, by omega, rfl, by go_num, HT2.out.imp fun f h => ⟨h.1.drewN 1, h.2⟩⟩
          case measure => have := HGK2.out; omega
        · obtain rfl : y = 5 := by omega
          go_wp2_with fail
          go_roundg (5 - (x + 1))
          case rel => exact ⟨x + 1, by omega, rfl, by go_num, f, hT, fun i hi => hf i (by omega)⟩
          case measure => have := HGK.out; omega
    · obtain rfl : x = 5 := by omega
      obtain ⟨f, hT, hf⟩ := HQ.out
      have he : arr .u64 25 f = arr .u64 25 fun i => l (i / 5 + 5 * (i % 5)) := arr_ext fun i hi => hf i (by omega)
      have hr2 := hT.2.2.2
      have hr1 := hT.2.2.1
      unfold LM at hr2
      rw [he] at hr2
      have hi2 : (Try.prog.info? 67).map (·.size) = some (arr .u64 25 fun i => l (i / 5 + 5 * (i % 5))).size := by rw [arr_size]; kernel_rfl
      have hs2 : (arr .u64 25 fun _ => 0).size = (arr .u64 25 fun i => l (i / 5 + 5 * (i % 5))).size := by rw [arr_size, arr_size]
      have ho2 := arr_one .u64 25 fun i => l (i / 5 + 5 * (i % 5))
      have HP := Lib.hid (hT.1)
      clear hT hf he HQ HC
      generalize hcc : arr .u64 25 (fun i => l (i / 5 + 5 * (i % 5))) = c2 at *
      have HCC := Lib.hid hcc
      clear hcc
      generalize arr .u64 25 (fun _ => 0) = c1 at *
      go_wp2_with (first | (refine wpList_load_row rfl 67 _ rfl (g + 1 + 1) rfl _ _ (0, 0) _ hr2 Try.underlying67 rfl hi2 ?_) | (refine wpList_store_row rfl 67 _ _ rfl (g + 1) _ rfl rfl _ _ hr1 hi2 hs2 ho2 ?_))
      refine bodyPost_ret (results_cell_row rfl _ _ (g + 1) _ c2 (0, 0) _ rfl (setRow_heap wr (g + 1) c1 c2 _ _ hr1) Try.underlying67 rfl hi2) rfl ?_
      exact ⟨by rw [HCC.out], below_setRow HP.out (by omega) _⟩
set_option maxHeartbeats 1000000 in
theorem list_any (a : Nat → Int) (w : World) :
    Calls Try.prog 37 #[.agg (arr .u64 25 a)] w fun e w' => e = .returned (.agg (arr .u64 25 fun i => a (i % 5 * 5 + i / 5))) ∧ Past w w' := by
  have hsz := arr_size .u64 25 a
  have HC := Lib.hid (fun i (hi : i < 25) => arr_get .u64 25 a i hi)
  generalize arr .u64 25 a = cs at *
  have H0 := Lib.hid (Three.new .u64 25 w 67 56 56 cs (arr .u64 25 fun _ => 0) fun _ => 0)
  go_enter Try.func37, Try.ntmps37
  go_wp2_with fail
  rw [arr_zero25]
  generalize ((w.alloc (.cells cs 67)).alloc (.cells (arr .u64 25 fun _ => 0) 56)).alloc (.cells (arr .u64 25 fun _ => 0) 56) = w3 at *
  obtain ⟨g, hg⟩ : ∃ g, w.heap.size = g := ⟨_, rfl⟩
  have hge : w.heap.size ≤ g := by omega
  rw [hg] at H0 ⊢
  clear hg
  go_loopg [4] 25 (fun k s4 wx => ∃ x : Nat, x ≤ 25 ∧ k = 25 - x ∧ s4 = .int .i64 (x : Int) ∧ Hid (∃ f, Three .u64 25 w wx g 67 56 56 cs (arr .u64 25 fun _ => 0) f ∧ ∀ i, i < x → f i = a (i % 5 * 5 + i / 5)))
  case atStart => exact ⟨0, Nat.zero_le _, rfl, rfl, _, H0.out, fun i hi => absurd hi (by omega)⟩
  case round =>
    clear H0
    obtain ⟨x, hx, hgk, rfl, HQ⟩ := hrel
    have HGK := Lib.hid hgk
    clear hgk
    obtain ⟨f, hT, hf⟩ := HQ.out
    by_cases hlt : x < 25
    · have hc1 : wr.cell? ⟨g, x % 5 * 5 + x / 5, none⟩ = some (.int .u64 (a (x % 5 * 5 + x / 5))) := by rw [hT.2.1.cell]; exact HC.out _ (by omega)
      have hc2 := hT.2.2.2.at x hlt
      have hf2 := hT.2.2.2.fr x
      have HT2 : Hid (∃ f, Three .u64 25 w (wr.setCell ⟨g + 1 + 1, x, none⟩ (.int .u64 (a (x % 5 * 5 + x / 5)))) g 67 56 56 cs (arr .u64 25 fun _ => 0) f ∧ ∀ i, i < x + 1 → f i = a (i % 5 * 5 + i / 5)) := by
        refine ⟨_, hT.put hge x hlt _, fun i hi => ?_⟩
        by_cases e : i = x
        · subst e
          rw [upd_at]
        · rw [upd_ne _ _ e]
          exact hf i (by omega)
      clear hT hf HQ
      go_wp2_with fail
      go_roundg (25 - (x + 1))
      case rel => exact ⟨x + 1, by omega, rfl, by go_num, HT2⟩
      case measure => have := HGK.out; omega
    · obtain rfl : x = 25 := by omega
      have he : arr .u64 25 f = arr .u64 25 fun i => a (i % 5 * 5 + i / 5) := arr_ext fun i hi => hf i (by omega)
      have hr2 := hT.2.2.2
      have hr1 := hT.2.2.1
      unfold LM at hr2
      rw [he] at hr2
      have hi2 : (Try.prog.info? 56).map (·.size) = some (arr .u64 25 fun i => a (i % 5 * 5 + i / 5)).size := by rw [arr_size]; kernel_rfl
      have hs2 : (arr .u64 25 fun _ => 0).size = (arr .u64 25 fun i => a (i % 5 * 5 + i / 5)).size := by rw [arr_size, arr_size]
      have ho2 := arr_one .u64 25 fun i => a (i % 5 * 5 + i / 5)
      have HP := Lib.hid (hT.1)
      clear hT hf he HQ HC
      generalize hcc : arr .u64 25 (fun i => a (i % 5 * 5 + i / 5)) = c2 at *
      have HCC := Lib.hid hcc
      clear hcc
      generalize arr .u64 25 (fun _ => 0) = c1 at *
      go_wp2_with (first | (refine wpList_load_row rfl 56 _ rfl (g + 1 + 1) rfl _ _ (0, 0) _ hr2 Try.underlying56 rfl hi2 ?_) | (refine wpList_store_row rfl 56 _ _ rfl (g + 1) _ rfl rfl _ _ hr1 hi2 hs2 ho2 ?_))
      refine bodyPost_ret (results_cell_row rfl _ _ (g + 1) _ c2 (0, 0) _ rfl (setRow_heap wr (g + 1) c1 c2 _ _ hr1) Try.underlying56 rfl hi2) rfl ?_
      exact ⟨by rw [HCC.out], below_setRow HP.out (by omega) _⟩

end Go.Proofs.Ytamgbkadiobklaa
