/- Contracts of the reference of Keccak: the offsets of rotation. -/
import Derived.Test.YtamgbkadiobklaaRef6B
namespace Go.Proofs.Ytamgbkadiobklaa
open Go.RowKit

structure OSt where
  x : Nat
  y : Nat
  sum : Nat
  out : List Nat
def ostep (s : OSt) (t : Nat) : OSt := ⟨s.y, (2 * s.x + 3 * s.y) % 5, s.sum + (t + 1), s.out.set (s.x * 5 + s.y) ((s.sum + (t + 1)) % 64)⟩
def oS (n : Nat) : OSt := (List.range n).foldl ostep ⟨1, 0, 0, List.replicate 25 0⟩
theorem oS_succ (n : Nat) : oS (n + 1) = ostep (oS n) n := by simp [oS, List.range_succ]
theorem oS_ok : ∀ t : Fin 24, (oS t.val).x < 5 ∧ (oS t.val).y < 5 ∧ (oS t.val).sum < 1000 ∧ (oS t.val).out.length = 25 := by decide +kernel
def offs : List Nat := [0, 36, 3, 41, 18, 1, 44, 10, 45, 2, 62, 6, 43, 15, 61, 28, 55, 25, 21, 56, 27, 20, 39, 8, 14]
theorem oS_all : (oS 24).out = offs := by decide +kernel
def offF (i : Nat) : Int := (offs.getD i 0 : Nat)
theorem arr_izero25 : (#[Value.int IntKind.i64 0, .int .i64 0, .int .i64 0, .int .i64 0, .int .i64 0, .int .i64 0, .int .i64 0, .int .i64 0, .int .i64 0, .int .i64 0, .int .i64 0, .int .i64 0, .int .i64 0, .int .i64 0, .int .i64 0, .int .i64 0, .int .i64 0, .int .i64 0, .int .i64 0, .int .i64 0, .int .i64 0, .int .i64 0, .int .i64 0, .int .i64 0, .int .i64 0] : Array Value) = arr .i64 25 fun _ => 0 := rfl

def OW (w wx : World) (g : Nat) (s : List Nat) : Prop :=
  Past w wx ∧ Row wx g 77 (arr .i64 25 fun _ => 0) ∧ LM .i64 wx (g + 1) 77 25 (fun i => (s.getD i 0 : Nat))
theorem OW.new (w : World) : OW w ((w.alloc (.cells (arr .i64 25 fun _ => 0) 77)).alloc (.cells (arr .i64 25 fun _ => 0) 77)) w.heap.size (oS 0).out := by
  refine ⟨((Below.refl _ _).alloc (Nat.le_refl _) _).alloc (by simp) _, (Row.new w _ _).alloc _, ?_⟩
  have e : arr .i64 25 (fun _ => 0) = arr .i64 25 fun i => ((oS 0).out.getD i 0 : Nat) := by rfl
  have := Row.new (w.alloc (.cells (arr .i64 25 fun _ => 0) 77)) 77 (arr .i64 25 fun _ => 0)
  unfold LM
  rw [← e]
  simpa using this
theorem OW.put {w wx : World} {g : Nat} {s : List Nat} (h : OW w wx g s) (hg : w.heap.size ≤ g) (i : Nat) (hi : i < 25) (hs : s.length = 25) (v : Nat) : OW w (wx.setCell ⟨g + 1, i, none⟩ (.int .i64 (v : Int))) g (s.set i v) :=
  ⟨h.1.set (by show _ ≤ g + 1; omega) _, h.2.1.setOther (by omega) _ _, (h.2.2.put i hi v).same fun j hj => by
    by_cases e : j = i
    · subst e
      rw [upd_at, List.getD_eq_getElem?_getD, List.getElem?_set_self (by omega)]
      rfl
    · rw [upd_ne _ _ e, List.getD_eq_getElem?_getD, List.getD_eq_getElem?_getD, List.getElem?_set_ne (by omega)]⟩
theorem OW.drewN {w wx : World} {g : Nat} {s : List Nat} (h : OW w wx g s) (m : Nat) : OW w (wx.drewN m) g s := ⟨h.1.drewN m, h.2.1, h.2.2⟩

set_option maxHeartbeats 1000000 in
set_option maxRecDepth 100000 in
theorem offsets_any (w : World) : Calls Try.prog 44 #[] w fun e w' => e = .returned (.agg (arr .i64 25 offF)) ∧ Past w w' := by
  have H0 := Lib.hid (OW.new w)
  go_enter Try.func44, Try.ntmps44
  go_wp2_with fail
  rw [arr_izero25]
  generalize (w.alloc (.cells (arr .i64 25 fun _ => 0) 77)).alloc (.cells (arr .i64 25 fun _ => 0) 77) = w3 at *
  obtain ⟨g, hg⟩ : ∃ g, w.heap.size = g := ⟨_, rfl⟩
  have hge : w.heap.size ≤ g := by omega
  rw [hg] at H0 ⊢
  clear hg
  go_loopg [2, 3, 4, 5] 24 (fun k s2 s3 s4 s5 wx => ∃ t : Nat, t ≤ 24 ∧ k = 24 - t ∧ s2 = .int .i64 ((oS t).x : Int) ∧ s3 = .int .i64 ((oS t).y : Int) ∧ s4 = .int .i64 ((oS t).sum : Int) ∧ s5 = .int .i64 ((t : Int) + 1) ∧ Hid (OW w wx g (oS t).out))
  case atStart => exact ⟨0, Nat.zero_le _, rfl, rfl, rfl, rfl, rfl, H0⟩
  case round =>
    clear H0
    obtain ⟨t, ht, hgk, rfl, rfl, rfl, rfl, HQ⟩ := hrel
    have HGK := Lib.hid hgk
    clear hgk
    by_cases hlt : t < 24
    · obtain ⟨k1, k2, k3, k4⟩ := oS_ok ⟨t, hlt⟩
      have HS := Lib.hid (oS_succ t)
      generalize hsv : oS t = sv at *
      clear hsv
      obtain ⟨x, y, sum, s⟩ := sv
      simp only at k1 k2 k3 k4 HQ ⊢
      have hc1 := HQ.out.2.2.at (x * 5 + y) (by omega)
      have hf1 := HQ.out.2.2.fr (x * 5 + y)
      have HQ2 : Hid (OW w (wr.setCell ⟨g + 1, x * 5 + y, none⟩ (.int .i64 (((sum + (t + 1)) % 64 : Nat) : Int))) g (oS (t + 1)).out) := by
        rw [HS.out]
        exact HQ.out.put hge (x * 5 + y) (by omega) k4 _
      have hcast : (((sum + (t + 1)) % 64 : Nat) : Int) = ((sum : Int) + ((t : Int) + 1)) % 64 := by omega
      rw [hcast] at HQ2
      have HX : Hid ((oS (t + 1)).x = y ∧ (oS (t + 1)).y = (2 * x + 3 * y) % 5 ∧ (oS (t + 1)).sum = sum + (t + 1)) := by
        rw [HS.out]
        exact ⟨rfl, rfl, rfl⟩
      clear hcast HQ HS k4
      go_wp2_with fail
      go_roundg (24 - (t + 1))
      case rel => exact ⟨t + 1, by omega, rfl, by rw [HX.out.1], by rw [HX.out.2.1]; congr 1, by rw [HX.out.2.2]; congr 1, by first | go_num | (congr 1; omega), HQ2⟩
      case measure => have := HGK.out; omega
    · obtain rfl : t = 24 := by omega
      rw [oS_all] at HQ
      have hr2 := HQ.out.2.2
      have hr1 := HQ.out.2.1
      have HP := Lib.hid HQ.out.1
      unfold LM at hr2
      have hi2 : (Try.prog.info? 77).map (·.size) = some (arr .i64 25 offF).size := by rw [arr_size]; kernel_rfl
      have hs2 : (arr .i64 25 fun _ => 0).size = (arr .i64 25 offF).size := by rw [arr_size, arr_size]
      have ho2 := arr_one .i64 25 offF
      have he : (arr .i64 25 fun i => (offs.getD i 0 : Nat)) = arr .i64 25 offF := rfl
      rw [he] at hr2
      clear he HQ
      generalize hcc : arr .i64 25 offF = c2 at *
      have HCC := Lib.hid hcc
      clear hcc
      generalize arr .i64 25 (fun _ => 0) = c1 at *
      go_wp2_with (first | (refine wpList_load_row rfl 77 _ rfl (g + 1) rfl _ _ (0, 0) _ hr2 Try.underlying77 rfl hi2 ?_) | (refine wpList_store_row rfl 77 _ _ rfl g _ rfl rfl _ _ hr1 hi2 hs2 ho2 ?_))
      refine bodyPost_ret (results_cell_row rfl _ _ g _ c2 (0, 0) _ rfl (setRow_heap wr g c1 c2 _ _ hr1) Try.underlying77 rfl hi2) rfl ?_
      exact ⟨by rw [HCC.out], below_setRow HP.out (by omega) _⟩

end Go.Proofs.Ytamgbkadiobklaa
