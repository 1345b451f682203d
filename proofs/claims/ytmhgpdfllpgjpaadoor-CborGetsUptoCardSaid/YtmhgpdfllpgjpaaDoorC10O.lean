/- The program's reading of an item. -/
import Derived.Test.YtmhgpdfllpgjpaaDoorC10N
import Derived.Test.YtmhgpdfllpgjpaaDoorRd10K
import Derived.Test.YtmhgpdfllpgjpaaDoorRd10L
import Derived.Laws.ResultCell
namespace Go.Proofs.YtmhgpdfllpgjpaaDoor
open Go.RowKit
set_option linter.unusedVariables false

/-- What stands behind a head. -/
def restW (rc : Nat → R10) (b : List Int) (k nm nx : Nat) : R10 :=
  if k < 2 then .good (.node (k : Int) (nm : Int) [] []) nx
  else if k < 4 then bytesR b k nx nm
  else match itemsR rc (k == 5) nm nx [] with
    | .inl (c, q) => .bad c q
    | .inr (ks, e) => .good (.node (k : Int) 0 [] ks) e
theorem rdW_hd (rc : Nat → R10) (deep : Bool) (b : List Int) (p : Nat) : rdW rc deep b p = match hdW deep b p with
    | .inl (c, a) => .bad c a
    | .inr (k, nm, nx) => restW rc b k nm nx := by
  unfold rdW hdW restW bytesR
  generalize (b.getD p 0).toNat / 32 = k
  generalize (b.getD p 0).toNat % 32 = l
  by_cases h1 : b.length ≤ p
  · rw [if_pos h1, if_pos h1]
  rw [if_neg h1, if_neg h1]
  by_cases h2 : 5 < k ∨ 27 < l
  · rw [if_pos h2, if_pos h2]
  rw [if_neg h2, if_neg h2]
  by_cases h3 : deep = true
  · rw [if_pos h3, if_pos h3]
  rw [if_neg h3, if_neg h3]
  by_cases h4 : b.length < p + 1 + szOf l
  · rw [if_pos h4, if_pos h4]
  rw [if_neg h4, if_neg h4]
  by_cases h5 : hsz (numAt b p l) ≠ szOf l
  · rw [if_pos h5, if_pos h5]
  rw [if_neg h5, if_neg h5]
  show _ = (if k < 2 then _ else _)
  by_cases h6 : k < 2
  · rw [if_pos h6, if_pos h6]
  rw [if_neg h6, if_neg h6]
  by_cases h7 : k < 4
  · rw [if_pos h7, if_pos h7]
    by_cases h8 : b.length - (p + 1 + szOf l) < numAt b p l
    · rw [if_pos h8, if_pos h8]
    · rw [if_neg h8, if_neg h8]
      cases (if k = 3 then findBad ((b.drop (p + 1 + szOf l)).take (numAt b p l)) (p + 1 + szOf l) else none) <;> rfl
  · rw [if_neg h7, if_neg h7]
    cases itemsR rc (k == 5) (numAt b p l) (p + 1 + szOf l) [] with
    | inl x => cases x; rfl
    | inr x => cases x; rfl
theorem hdW_in {deep : Bool} {b : List Int} {p k nm nx : Nat} (hr : ∀ x ∈ b, 0 ≤ x ∧ x < 256) (h : hdW deep b p = .inr (k, nm, nx)) : k ≤ 5 ∧ nm < 18446744073709551616 ∧ nx ≤ b.length ∧ p < nx ∧ deep = false := by
  unfold hdW at h
  have hnb := num_bd b hr p ((b.getD p 0).toNat % 32)
  generalize (b.getD p 0).toNat / 32 = k' at h
  generalize (b.getD p 0).toNat % 32 = l at h hnb
  by_cases h1 : b.length ≤ p
  · rw [if_pos h1] at h; cases h
  rw [if_neg h1] at h
  by_cases h2 : 5 < k' ∨ 27 < l
  · rw [if_pos h2] at h; cases h
  rw [if_neg h2] at h
  by_cases h3 : deep = true
  · rw [if_pos h3] at h; cases h
  rw [if_neg h3] at h
  by_cases h4 : b.length < p + 1 + szOf l
  · rw [if_pos h4] at h; cases h
  rw [if_neg h4] at h
  by_cases h5 : hsz (numAt b p l) ≠ szOf l
  · rw [if_pos h5] at h; cases h
  rw [if_neg h5] at h
  injection h with h
  injection h with h6 h7
  injection h7 with h8 h9
  subst h6 h8 h9
  exact ⟨by omega, hnb, by omega, by omega, by simpa using h3⟩

theorem results_cr10 {fn : Func} {p u : Tmp} {ty : TypeId} (h : fn.results = #[.cell p ty, .tmp u]) (tmps : Array Value) {P : Program} (w : World) (a : Addr) (v : Value)
    (hp : tmps.getD p undef = .pointer (some a)) (hl : (loadVar ty a).run P w = .ok v w) :
    (results fn tmps).run P w = .ok (.tuple #[v, tmps.getD u undef]) w := by
  rw [results_cell_tmp h, hp]
  simp [asAddr, Result.andThen, hl]
theorem load_item (w : World) (g : Nat) (cs : Array Value) (hg : Row w g 27 cs) (h : cs.size = 4) : (loadVar 27 ⟨g, 0, none⟩).run Tryd.prog w = .ok (.agg cs) w :=
  run_loadVar_row w g 27 27 cs (0, 0) _ hg Tryd.underlying27 rfl (by rw [h]; kernel_rfl)
theorem item_sz (cs : Array Value) (h : cs.size = 4) : (Tryd.prog.info? 27).map (·.size) = some cs.size := by rw [h]; kernel_rfl

theorem grown_row10 {w wx : World} {g q : Nat} (h : w.grownBy wx (some g)) (hq : w.heap.size ≤ q) (cs : Array Value) : w.grownBy (wx.setRow q cs) (some g) :=
  ⟨h.os, h.tape, h.output, by simpa using h.size, fun i hi hne => (setRow_other _ _ _ _ (by omega)).trans (h.block i hi hne)⟩
theorem rdr_row10 {w : World} {g q : Nat} {A : Option Addr} {n c k : Nat} (h : Rdr w g A n c k) (hq : g ≠ q) (cs : Array Value) : Rdr (w.setRow q cs) g A n c k :=
  (setRow_other _ _ _ _ hq).trans h
theorem rdr_cell10 {w : World} {g q : Nat} {A : Option Addr} {n c k : Nat} (h : Rdr w g A n c k) (hq : q ≠ g) (o : Nat) (v : Value) : Rdr (w.setCell ⟨q, o, none⟩ v) g A n c k := row_setOther h hq o v
/-- The reader, the result's block and the item's block. -/
structure Rn (w wx : World) (q g h0 hx : Nat) (A : Option Addr) (n c : Nat) (A1 : Option Addr) (c1 : Nat) (xs : List Int) (cs : Array Value) : Prop where
  grown : w.grownBy wx (some g)
  r0 : Row wx h0 27 zero4
  rx : Row wx hx 27 cs
  w0 : w.heap.size = h0
  lt : h0 < hx
  gl : g < h0
section
variable {w wx wy : World} {q g h0 hx : Nat} {A : Option Addr} {n c : Nat} {A1 : Option Addr} {c1 : Nat} {xs : List Int} {cs : Array Value}
theorem Rn.move (h : Rn w wx q g h0 hx A n c A1 c1 xs cs) (hg : wx.grownBy wy (some g)) : Rn w wy q g h0 hx A n c A1 c1 xs cs :=
  ⟨only_trans h.grown hg, h.r0.grown hg (by have := h.gl; intro e; injection e with e; omega), h.rx.grown hg (by have := h.gl; have := h.lt; intro e; injection e with e; omega), h.w0, h.lt, h.gl⟩
theorem Rn.set (h : Rn w wx q g h0 hx A n c A1 c1 xs cs) (i : Nat) (u : Value) : Rn w (wx.setCell ⟨hx, i, none⟩ u) q g h0 hx A n c A1 c1 xs (cs.setIfInBounds i u) :=
  ⟨only_setCell h.grown (.inr (by show w.heap.size ≤ hx; have := h.w0; have := h.lt; omega)) u, row_setOther h.r0 (by have := h.lt; omega) i u, h.rx.set i u, h.w0, h.lt, h.gl⟩
end

set_option maxHeartbeats 4000000 in
set_option maxRecDepth 100000 in
theorem pread_step (w : World) (q g : Nat) (A : Option Addr) (n c : Nat) (A1 : Option Addr) (c1 : Nat) (xs : List Int) (p : Nat) (ab : Int) (h : Rs w q g A n c A1 c1 xs p) (rc : Nat → R10) (deep : Bool) (hd : decide (8 ≤ ab) = deep) (hab : 0 ≤ ab ∧ ab ≤ 8)
    (hk : deep = false → ∀ (wz : World) (nm nx : Nat), Rs wz q g A n c A1 c1 xs nx → nm < 18446744073709551616 → Calls Tryd.prog 48 #[ptr q, .int .u64 (nm : Int), .int .i64 (ab + 1)] wz (KidsQ (itemsR rc false nm nx []) wz g A1 n c1))
    (hp : deep = false → ∀ (wz : World) (nm nx : Nat), Rs wz q g A n c A1 c1 xs nx → nm < 18446744073709551616 → Calls Tryd.prog 49 #[ptr q, .int .u64 (nm : Int), .int .i64 (ab + 1)] wz (KidsQ (itemsR rc true nm nx []) wz g A1 n c1)) :
    Calls Tryd.prog 31 #[ptr q, .int .i64 ab] w (PReadP (rdW rc deep xs p) w g A1 n c1) := by
  have hw1 := past_alloc8 w (.cells zero4 27)
  have HH := phead_any (h.past hw1) ab
  rw [hd] at HH
  have HR1 : Hid (Rs (w.alloc (.cells zero4 27)) q g A n c A1 c1 xs p ∧ Row (w.alloc (.cells zero4 27)) w.heap.size 27 zero4 ∧ Past w (w.alloc (.cells zero4 27)) ∧ g < w.heap.size) :=
    Lib.hid ⟨h.past hw1, Row.new _ _ _, hw1, h.rd.lt⟩
  have hrd := rdW_hd rc deep xs p
  have hln := h.len
  have hn := h.hn
  have hrng := h.sl.rng
  have HKD := Lib.hid hk
  have HPR := Lib.hid hp
  clear h hw1 hd hk hp
  cases hh : hdW deep xs p with
  | inl ca =>
    obtain ⟨cd, a⟩ := ca
    rw [hh] at HH hrd
    have HQ : Hid (rdW rc deep xs p = .bad cd a) := Lib.hid hrd
    have HHH := Lib.hid HH
    clear hh hrd HH hrng
    go_enter Tryd.func31, Tryd.ntmps31
    go_wp2_with fail
    generalize w.alloc (.cells zero4 27) = w1 at *
    obtain ⟨h0, hh0⟩ : ∃ h0, w.heap.size = h0 := ⟨_, rfl⟩
    refine HHH.out.mono ?_
    rintro e w2 ⟨rfl, hg⟩
    rw [hh0] at HR1 ⊢
    have H2 : Hid (w.grownBy w2 (some g) ∧ Row w2 h0 27 zero4 ∧ w.heap.size ≤ h0) := Lib.hid ⟨only_trans (only_of_past HR1.out.2.2.1 _) hg, HR1.out.2.1.grown hg (by have := HR1.out.2.2.2; intro e; injection e with e; omega), by omega⟩
    have hrow := H2.out.2.1
    have hi2 := item_sz zero4 rfl
    have ho2 : zero4.all (·.oneCell') = true := by simp [zero4, Value.oneCell']
    clear hg hh0
    simp only [valFlt]
    go_wp2_with (refine wpList_store_row rfl 27 _ _ rfl h0 _ rfl rfl _ _ hrow hi2 rfl ho2 ?_)
    refine bodyPost_ret (results_cr10 rfl _ _ ⟨h0, 0, none⟩ _ rfl (load_item _ h0 zero4 (setRow_heap w2 h0 _ _ _ _ hrow) rfl)) rfl ?_
    rw [HQ.out]
    exact ⟨rfl, grown_row10 H2.out.1 H2.out.2.2 _⟩
  | inr knx =>
    obtain ⟨k, nm, nx⟩ := knx
    rw [hh] at HH hrd
    have hin := hdW_in hrng hh
    rw [hln] at hin
    obtain ⟨hk5, hnm, hnx, hpn, hdp⟩ := hin
    have HQ : Hid (rdW rc deep xs p = restW rc xs k nm nx) := Lib.hid hrd
    have HHH := Lib.hid HH
    have hwab : IntKind.i64.wrap (ab + 1) = ab + 1 := by rw [IntKind.wrap_i64]; omega
    clear hh hrd HH hrng
    go_enter Tryd.func31, Tryd.ntmps31
    go_wp2_with fail
    generalize w.alloc (.cells zero4 27) = w1 at *
    obtain ⟨h0, hh0⟩ : ∃ h0, w.heap.size = h0 := ⟨_, rfl⟩
    refine HHH.out.mono ?_
    rintro e w2 ⟨rfl, hrd2, hg⟩
    rw [hh0] at HR1 ⊢
    have hrs2 := HR1.out.1.move hg hrd2 (by omega)
    obtain ⟨w3, hw3⟩ : ∃ w3, w3 = w2.alloc (.cells #[.int .i64 (k : Int), .int .u64 0, .slice none 0 0, .slice none 0 0] 27) := ⟨_, rfl⟩
    have hp3 : Past w2 w3 := by rw [hw3]; exact past_alloc8 _ _
    have hr0 := HR1.out.2.1.grown hg (by have := HR1.out.2.2.2; intro e; injection e with e; omega)
    obtain ⟨hx, hhx⟩ : ∃ hx, w2.heap.size = hx := ⟨_, rfl⟩
    have H3 : Hid (Rs w3 q g A n c A1 c1 xs nx ∧ Rn w w3 q g h0 hx A n c A1 c1 xs #[.int .i64 (k : Int), .int .u64 0, .slice none 0 0, .slice none 0 0] ∧ hx < w3.heap.size) := by
      refine Lib.hid ⟨hrs2.past hp3, ⟨only_trans (only_of_past HR1.out.2.2.1 _) (only_trans hg (only_of_past hp3 _)), hr0.past hp3, ?_, hh0, by have := hr0.lt; omega, HR1.out.2.2.2⟩, ?_⟩
      · rw [hw3, ← hhx]
        exact Row.new _ _ _
      · rw [hw3, ← hhx]
        simp
    have HW3 := Lib.hid hw3
    have HHX := Lib.hid hhx
    have hi4 : ∀ a b c d : Value, (Tryd.prog.info? 27).map (·.size) = some (#[a, b, c, d] : Array Value).size := fun _ _ _ _ => item_sz _ rfl
    clear hg hrd2 hrs2 hp3 hr0 hw3 hhx hh0 HR1 HHH
    have hks : k = 0 ∨ k = 1 ∨ k = 2 ∨ k = 3 ∨ k = 4 ∨ k = 5 := by omega
    rcases hks with rfl | rfl | rfl | rfl | rfl | rfl
    · have HR : Hid (rdW rc deep xs p = .good (.node 0 (nm : Int) [] []) nx) := Lib.hid (by rw [HQ.out]; rfl)
      have HW4 : Hid (w3 = w2.alloc (.cells #[.int .i64 0, .int .u64 0, .slice none 0 0, .slice none 0 0] 27)) := HW3
      have H3r : Hid (Rn w w3 q g h0 hx A n c A1 c1 xs #[.int .i64 0, .int .u64 0, .slice none 0 0, .slice none 0 0]) := Lib.hid H3.out.2.1
      go_upto_region 8 with (fail)
      rw [← HW4.out, HHX.out]
      have x1 : w3.cell? ⟨hx, 1, none⟩ = some (.int .u64 0) := H3r.out.rx.cell 1
      have xf : w3.frozen? ⟨hx, 1, none⟩ = false := H3r.out.rx.fr 1
      have H4 := Lib.hid (H3r.out.set 1 (.int .u64 (nm : Int)))
      have hrx : Row (w3.setCell ⟨hx, 1, none⟩ (.int .u64 (nm : Int))) hx 27 #[.int .i64 0, .int .u64 (nm : Int), .slice none 0 0, .slice none 0 0] := H4.out.rx
      have hr0 := H4.out.r0
      have hrg := rdr_cell10 H3.out.1.rd (by have := H3r.out.lt; have := H3r.out.gl; omega : hx ≠ g) 1 (.int .u64 (nm : Int))
      have hi2 := hi4 (.int .i64 0) (.int .u64 (nm : Int)) (.slice none 0 0) (.slice none 0 0)
      have ho2 : (#[.int .i64 0, .int .u64 (nm : Int), .slice none 0 0, .slice none 0 0] : Array Value).all (·.oneCell') = true := by simp [Value.oneCell']
      have HF := Lib.hid (And.intro hrg H4.out)
      clear hrg H4
      go_wp2_with (first
        | (refine wpList_load_row rfl 27 _ rfl hx rfl _ _ (0, 0) _ hrx Tryd.underlying27 rfl hi2 ?_)
        | (refine wpList_store_row rfl 27 _ _ rfl h0 _ rfl rfl _ _ hr0 hi2 rfl ho2 ?_))
      refine bodyPost_ret (results_cr10 rfl _ _ ⟨h0, 0, none⟩ _ rfl (load_item _ h0 _ (setRow_heap _ h0 _ _ _ _ hr0) rfl)) rfl ?_
      rw [HR.out]
      refine ⟨.int .i64 0, .int .u64 (nm : Int), .slice none 0 0, .slice none 0 0, rfl, fun w'' _ => ?_, rdr_row10 HF.out.1 (by have := HF.out.2.gl; omega) _, grown_row10 HF.out.2.grown (by have := HF.out.2.w0; omega) _⟩
      exact .mk (fun _ => undef) (fun _ => undef) (fun _ => undef) (fun _ => undef) (by omega) (by omega) (Sl.nil _) rfl (Nat.le_refl _) (Nat.zero_le _) (fun _ => rfl) (fun h => absurd h (Nat.lt_irrefl 0)) (fun i hi => absurd hi (Nat.not_lt_zero i))
    · have HR : Hid (rdW rc deep xs p = .good (.node 1 (nm : Int) [] []) nx) := Lib.hid (by rw [HQ.out]; rfl)
      have HW4 : Hid (w3 = w2.alloc (.cells #[.int .i64 1, .int .u64 0, .slice none 0 0, .slice none 0 0] 27)) := HW3
      have H3r : Hid (Rn w w3 q g h0 hx A n c A1 c1 xs #[.int .i64 1, .int .u64 0, .slice none 0 0, .slice none 0 0]) := Lib.hid H3.out.2.1
      go_upto_region 8 with (fail)
      rw [← HW4.out, HHX.out]
      have x1 : w3.cell? ⟨hx, 1, none⟩ = some (.int .u64 0) := H3r.out.rx.cell 1
      have xf : w3.frozen? ⟨hx, 1, none⟩ = false := H3r.out.rx.fr 1
      have H4 := Lib.hid (H3r.out.set 1 (.int .u64 (nm : Int)))
      have hrx : Row (w3.setCell ⟨hx, 1, none⟩ (.int .u64 (nm : Int))) hx 27 #[.int .i64 1, .int .u64 (nm : Int), .slice none 0 0, .slice none 0 0] := H4.out.rx
      have hr0 := H4.out.r0
      have hrg := rdr_cell10 H3.out.1.rd (by have := H3r.out.lt; have := H3r.out.gl; omega : hx ≠ g) 1 (.int .u64 (nm : Int))
      have hi2 := hi4 (.int .i64 1) (.int .u64 (nm : Int)) (.slice none 0 0) (.slice none 0 0)
      have ho2 : (#[.int .i64 1, .int .u64 (nm : Int), .slice none 0 0, .slice none 0 0] : Array Value).all (·.oneCell') = true := by simp [Value.oneCell']
      have HF := Lib.hid (And.intro hrg H4.out)
      clear hrg H4
      go_wp2_with (first
        | (refine wpList_load_row rfl 27 _ rfl hx rfl _ _ (0, 0) _ hrx Tryd.underlying27 rfl hi2 ?_)
        | (refine wpList_store_row rfl 27 _ _ rfl h0 _ rfl rfl _ _ hr0 hi2 rfl ho2 ?_))
      refine bodyPost_ret (results_cr10 rfl _ _ ⟨h0, 0, none⟩ _ rfl (load_item _ h0 _ (setRow_heap _ h0 _ _ _ _ hr0) rfl)) rfl ?_
      rw [HR.out]
      refine ⟨.int .i64 1, .int .u64 (nm : Int), .slice none 0 0, .slice none 0 0, rfl, fun w'' _ => ?_, rdr_row10 HF.out.1 (by have := HF.out.2.gl; omega) _, grown_row10 HF.out.2.grown (by have := HF.out.2.w0; omega) _⟩
      exact .mk (fun _ => undef) (fun _ => undef) (fun _ => undef) (fun _ => undef) (by omega) (by omega) (Sl.nil _) rfl (Nat.le_refl _) (Nat.zero_le _) (fun _ => rfl) (fun h => absurd h (Nat.lt_irrefl 0)) (fun i hi => absurd hi (Nat.not_lt_zero i))
    · by_cases hfar : n - nx < nm
      · have HR : Hid (rdW rc deep xs p = .bad 3 n) := Lib.hid (by
          rw [HQ.out]
          show bytesR xs 2 nx nm = _
          unfold bytesR
          rw [hln, if_pos hfar])
        have HCC := Lib.hid (pbytes_far H3.out.1 nm hnm hfar)
        have HW4 : Hid (w3 = w2.alloc (.cells #[.int .i64 2, .int .u64 0, .slice none 0 0, .slice none 0 0] 27)) := HW3
        have H3r : Hid (Rn w w3 q g h0 hx A n c A1 c1 xs #[.int .i64 2, .int .u64 0, .slice none 0 0, .slice none 0 0]) := Lib.hid H3.out.2.1
        have hi2 := hi4 (.int .i64 0) (.int .u64 0) (.slice none 0 0) (.slice none 0 0)
        have ho2 : zero4.all (·.oneCell') = true := by simp [zero4, Value.oneCell']
        go_upto_region 10 with (fail)
        rw [← HW4.out, HHX.out]
        go_wp2_with fail
        refine HCC.out.mono ?_
        rintro e w4 ⟨rfl, hg4⟩
        have H4 := Lib.hid (H3r.out.move hg4)
        have x2 : w4.cell? ⟨hx, 2, none⟩ = some (.slice none 0 0) := H4.out.rx.cell 2
        have xf : w4.frozen? ⟨hx, 2, none⟩ = false := H4.out.rx.fr 2
        have H5 := Lib.hid (H4.out.set 2 (.slice none 0 0))
        have hr0 := H5.out.r0
        clear hg4 H4
        simp only [valFlt]
        go_wp2_with (refine wpList_store_row rfl 27 _ _ rfl h0 _ rfl rfl _ _ hr0 hi2 rfl ho2 ?_)
        refine bodyPost_ret (results_cr10 rfl _ _ ⟨h0, 0, none⟩ _ rfl (load_item _ h0 zero4 (setRow_heap _ h0 _ _ _ _ hr0) rfl)) rfl ?_
        rw [HR.out]
        exact ⟨rfl, grown_row10 H5.out.grown (by have := H5.out.w0; omega) _⟩

      · have HR : Hid (rdW rc deep xs p = .good (.node 2 0 ((xs.drop nx).take nm) []) (nx + nm)) := Lib.hid (by
          rw [HQ.out]
          show bytesR xs 2 nx nm = _
          unfold bytesR
          rw [hln, if_neg hfar]
          rfl)
        have HCC := Lib.hid (pbytes_ok H3.out.1 nm (by omega))
        have HW4 : Hid (w3 = w2.alloc (.cells #[.int .i64 2, .int .u64 0, .slice none 0 0, .slice none 0 0] 27)) := HW3
        have H3r : Hid (Rn w w3 q g h0 hx A n c A1 c1 xs #[.int .i64 2, .int .u64 0, .slice none 0 0, .slice none 0 0]) := Lib.hid H3.out.2.1
        have hi2 := hi4 (.int .i64 0) (.int .u64 0) (.slice none 0 0) (.slice none 0 0)
        have ho2 : zero4.all (·.oneCell') = true := by simp [zero4, Value.oneCell']
        go_upto_region 10 with (fail)
        rw [← HW4.out, HHX.out]
        go_wp2_with fail
        refine HCC.out.mono ?_
        rintro e w4 ⟨A2, c2, rfl, hrd4, hsl4, hfr4, hg4⟩
        have H4 := Lib.hid (H3r.out.move hg4)
        have x2 : w4.cell? ⟨hx, 2, none⟩ = some (.slice none 0 0) := H4.out.rx.cell 2
        have xf : w4.frozen? ⟨hx, 2, none⟩ = false := H4.out.rx.fr 2
        have H5 := Lib.hid (H4.out.set 2 (.slice A2 nm c2))
        have hr0 := H5.out.r0
        have hrx : Row (w4.setCell ⟨hx, 2, none⟩ (.slice A2 nm c2)) hx 27 #[.int .i64 2, .int .u64 0, .slice A2 nm c2, .slice none 0 0] := H5.out.rx
        have hrg := rdr_cell10 hrd4 (by have := H3r.out.lt; have := H3r.out.gl; omega : hx ≠ g) 2 (.slice A2 nm c2)
        have hj2 : (Tryd.prog.info? 27).map (·.size) = some (#[.int .i64 2, .int .u64 0, .slice A2 nm c2, .slice none 0 0] : Array Value).size := hi4 _ _ _ _
        have hjo : (#[.int .i64 2, .int .u64 0, .slice A2 nm c2, .slice none 0 0] : Array Value).all (·.oneCell') = true := by simp [Value.oneCell']
        have HF := Lib.hid hrg
        have HSZ := Lib.hid hg4.size
        have HSB := Lib.hid (And.intro hsl4 hfr4)
        clear hsl4 hfr4
        clear hg4 H4 hrd4 hrg
        go_wp2_with (first
          | (refine wpList_load_row rfl 27 _ rfl hx rfl _ _ (0, 0) _ hrx Tryd.underlying27 rfl hj2 ?_)
          | (refine wpList_store_row rfl 27 _ _ rfl h0 _ rfl rfl _ _ hr0 hj2 rfl hjo ?_))
        refine bodyPost_ret (results_cr10 rfl _ _ ⟨h0, 0, none⟩ _ rfl (load_item _ h0 _ (setRow_heap _ h0 _ _ _ _ hr0) rfl)) rfl ?_
        rw [HR.out]
        have h3l := H3.out.2.2
        have hlt := H3r.out.lt
        have hw0 := H3r.out.w0
        refine ⟨.int .i64 2, .int .u64 0, .slice A2 nm c2, .slice none 0 0, rfl, fun w'' hag => ?_, rdr_row10 HF.out (by have := H3r.out.gl; omega) _, grown_row10 H5.out.grown (by omega) _⟩
        have hblk : ∀ b, w3.heap.size ≤ b → b < w4.heap.size → w''.heap[b]? = w4.heap[b]? := fun b h1 h2 => by
          rw [hag b (by omega) (by simp [World.setRow, World.setCell]; omega), setRow_other _ _ _ _ (by omega)]
          exact Below.heap_setCell w4 ⟨hx, 2, none⟩ _ b (by show b ≠ hx; omega)
        exact .mk (fun _ => undef) (fun _ => undef) (fun _ => undef) (fun _ => undef) (by omega) (by omega) (sl_agree HSB.out.1 fun b o e => hblk b (HSB.out.2 b o e).1 (HSB.out.2 b o e).2) rfl (Nat.le_refl _) (Nat.zero_le _) (fun _ => rfl) (fun h => absurd h (Nat.lt_irrefl 0)) (fun i hi => absurd hi (Nat.not_lt_zero i))

    · by_cases hfar : n - nx < nm
      · have HR : Hid (rdW rc deep xs p = .bad 3 n) := Lib.hid (by
          rw [HQ.out]
          show bytesR xs 3 nx nm = _
          unfold bytesR
          rw [hln, if_pos hfar])
        have HCC := Lib.hid (ptext_far H3.out.1 nm hnm hfar)
        have HW4 : Hid (w3 = w2.alloc (.cells #[.int .i64 3, .int .u64 0, .slice none 0 0, .slice none 0 0] 27)) := HW3
        have H3r : Hid (Rn w w3 q g h0 hx A n c A1 c1 xs #[.int .i64 3, .int .u64 0, .slice none 0 0, .slice none 0 0]) := Lib.hid H3.out.2.1
        have hi2 := hi4 (.int .i64 0) (.int .u64 0) (.slice none 0 0) (.slice none 0 0)
        have ho2 : zero4.all (·.oneCell') = true := by simp [zero4, Value.oneCell']
        go_upto_region 12 with (fail)
        rw [← HW4.out, HHX.out]
        go_wp2_with fail
        refine HCC.out.mono ?_
        rintro e w4 ⟨rfl, hg4⟩
        have H4 := Lib.hid (H3r.out.move hg4)
        have x2 : w4.cell? ⟨hx, 2, none⟩ = some (.slice none 0 0) := H4.out.rx.cell 2
        have xf : w4.frozen? ⟨hx, 2, none⟩ = false := H4.out.rx.fr 2
        have H5 := Lib.hid (H4.out.set 2 (.slice none 0 0))
        have hr0 := H5.out.r0
        clear hg4 H4
        simp only [valFlt]
        go_wp2_with (refine wpList_store_row rfl 27 _ _ rfl h0 _ rfl rfl _ _ hr0 hi2 rfl ho2 ?_)
        refine bodyPost_ret (results_cr10 rfl _ _ ⟨h0, 0, none⟩ _ rfl (load_item _ h0 zero4 (setRow_heap _ h0 _ _ _ _ hr0) rfl)) rfl ?_
        rw [HR.out]
        exact ⟨rfl, grown_row10 H5.out.grown (by have := H5.out.w0; omega) _⟩

      · have hbr : rdW rc deep xs p = match findBad ((xs.drop nx).take nm) nx with
            | some i => .bad 5 i
            | none => .good (.node 3 0 ((xs.drop nx).take nm) []) (nx + nm) := by
          rw [HQ.out]
          show bytesR xs 3 nx nm = _
          unfold bytesR
          rw [hln, if_neg hfar, if_pos rfl]
          rfl
        have hcc := ptext_any H3.out.1 nm (by omega) _ rfl
        cases hfb : findBad ((xs.drop nx).take nm) nx with
        | some i0 =>
          rw [hfb] at hbr hcc
          have HR : Hid (rdW rc deep xs p = .bad 5 i0) := Lib.hid hbr
          have HCC := Lib.hid hcc
          clear hbr hcc hfb
          have HW4 : Hid (w3 = w2.alloc (.cells #[.int .i64 3, .int .u64 0, .slice none 0 0, .slice none 0 0] 27)) := HW3
          have H3r : Hid (Rn w w3 q g h0 hx A n c A1 c1 xs #[.int .i64 3, .int .u64 0, .slice none 0 0, .slice none 0 0]) := Lib.hid H3.out.2.1
          have hi2 := hi4 (.int .i64 0) (.int .u64 0) (.slice none 0 0) (.slice none 0 0)
          have ho2 : zero4.all (·.oneCell') = true := by simp [zero4, Value.oneCell']
          go_upto_region 12 with (fail)
          rw [← HW4.out, HHX.out]
          go_wp2_with fail
          refine HCC.out.mono ?_
          rintro e w4 ⟨rfl, hg4⟩
          have H4 := Lib.hid (H3r.out.move hg4)
          have x2 : w4.cell? ⟨hx, 2, none⟩ = some (.slice none 0 0) := H4.out.rx.cell 2
          have xf : w4.frozen? ⟨hx, 2, none⟩ = false := H4.out.rx.fr 2
          have H5 := Lib.hid (H4.out.set 2 (.slice none 0 0))
          have hr0 := H5.out.r0
          clear hg4 H4
          simp only [valFlt]
          go_wp2_with (refine wpList_store_row rfl 27 _ _ rfl h0 _ rfl rfl _ _ hr0 hi2 rfl ho2 ?_)
          refine bodyPost_ret (results_cr10 rfl _ _ ⟨h0, 0, none⟩ _ rfl (load_item _ h0 zero4 (setRow_heap _ h0 _ _ _ _ hr0) rfl)) rfl ?_
          rw [HR.out]
          exact ⟨rfl, grown_row10 H5.out.grown (by have := H5.out.w0; omega) _⟩

        | none =>
          rw [hfb] at hbr hcc
          have HR : Hid (rdW rc deep xs p = .good (.node 3 0 ((xs.drop nx).take nm) []) (nx + nm)) := Lib.hid hbr
          have HCC := Lib.hid hcc
          clear hbr hcc hfb
          have HW4 : Hid (w3 = w2.alloc (.cells #[.int .i64 3, .int .u64 0, .slice none 0 0, .slice none 0 0] 27)) := HW3
          have H3r : Hid (Rn w w3 q g h0 hx A n c A1 c1 xs #[.int .i64 3, .int .u64 0, .slice none 0 0, .slice none 0 0]) := Lib.hid H3.out.2.1
          have hi2 := hi4 (.int .i64 0) (.int .u64 0) (.slice none 0 0) (.slice none 0 0)
          have ho2 : zero4.all (·.oneCell') = true := by simp [zero4, Value.oneCell']
          go_upto_region 12 with (fail)
          rw [← HW4.out, HHX.out]
          go_wp2_with fail
          refine HCC.out.mono ?_
          rintro e w4 ⟨A2, c2, rfl, hrd4, hsl4, hfr4, hg4⟩
          have H4 := Lib.hid (H3r.out.move hg4)
          have x2 : w4.cell? ⟨hx, 2, none⟩ = some (.slice none 0 0) := H4.out.rx.cell 2
          have xf : w4.frozen? ⟨hx, 2, none⟩ = false := H4.out.rx.fr 2
          have H5 := Lib.hid (H4.out.set 2 (.slice A2 nm c2))
          have hr0 := H5.out.r0
          have hrx : Row (w4.setCell ⟨hx, 2, none⟩ (.slice A2 nm c2)) hx 27 #[.int .i64 3, .int .u64 0, .slice A2 nm c2, .slice none 0 0] := H5.out.rx
          have hrg := rdr_cell10 hrd4 (by have := H3r.out.lt; have := H3r.out.gl; omega : hx ≠ g) 2 (.slice A2 nm c2)
          have hj2 : (Tryd.prog.info? 27).map (·.size) = some (#[.int .i64 3, .int .u64 0, .slice A2 nm c2, .slice none 0 0] : Array Value).size := hi4 _ _ _ _
          have hjo : (#[.int .i64 3, .int .u64 0, .slice A2 nm c2, .slice none 0 0] : Array Value).all (·.oneCell') = true := by simp [Value.oneCell']
          have HF := Lib.hid hrg
          have HSZ := Lib.hid hg4.size
          have HSB := Lib.hid (And.intro hsl4 hfr4)
          clear hsl4 hfr4
          clear hg4 H4 hrd4 hrg
          go_wp2_with (first
            | (refine wpList_load_row rfl 27 _ rfl hx rfl _ _ (0, 0) _ hrx Tryd.underlying27 rfl hj2 ?_)
            | (refine wpList_store_row rfl 27 _ _ rfl h0 _ rfl rfl _ _ hr0 hj2 rfl hjo ?_))
          refine bodyPost_ret (results_cr10 rfl _ _ ⟨h0, 0, none⟩ _ rfl (load_item _ h0 _ (setRow_heap _ h0 _ _ _ _ hr0) rfl)) rfl ?_
          rw [HR.out]
          have h3l := H3.out.2.2
          have hlt := H3r.out.lt
          have hw0 := H3r.out.w0
          refine ⟨.int .i64 3, .int .u64 0, .slice A2 nm c2, .slice none 0 0, rfl, fun w'' hag => ?_, rdr_row10 HF.out (by have := H3r.out.gl; omega) _, grown_row10 H5.out.grown (by omega) _⟩
          have hblk : ∀ b, w3.heap.size ≤ b → b < w4.heap.size → w''.heap[b]? = w4.heap[b]? := fun b h1 h2 => by
            rw [hag b (by omega) (by simp [World.setRow, World.setCell]; omega), setRow_other _ _ _ _ (by omega)]
            exact Below.heap_setCell w4 ⟨hx, 2, none⟩ _ b (by show b ≠ hx; omega)
          exact .mk (fun _ => undef) (fun _ => undef) (fun _ => undef) (fun _ => undef) (by omega) (by omega) (sl_agree HSB.out.1 fun b o e => hblk b (HSB.out.2 b o e).1 (HSB.out.2 b o e).2) rfl (Nat.le_refl _) (Nat.zero_le _) (fun _ => rfl) (fun h => absurd h (Nat.lt_irrefl 0)) (fun i hi => absurd hi (Nat.not_lt_zero i))

    · have hcc := HKD.out hdp w3 nm nx H3.out.1 hnm
      have hbr : rdW rc deep xs p = match itemsR rc false nm nx [] with
          | .inl (c, q) => .bad c q
          | .inr (ks, e) => .good (.node 4 0 [] ks) e := by
        rw [HQ.out]
        rfl
      cases hir : itemsR rc false nm nx [] with
      | inl ca =>
        obtain ⟨cd, a⟩ := ca
        rw [hir] at hbr hcc
        have HR : Hid (rdW rc deep xs p = .bad cd a) := Lib.hid hbr
        have HCC := Lib.hid hcc
        clear hbr hcc hir
        have HW4 : Hid (w3 = w2.alloc (.cells #[.int .i64 4, .int .u64 0, .slice none 0 0, .slice none 0 0] 27)) := HW3
        have H3r : Hid (Rn w w3 q g h0 hx A n c A1 c1 xs #[.int .i64 4, .int .u64 0, .slice none 0 0, .slice none 0 0]) := Lib.hid H3.out.2.1
        have hi2 := hi4 (.int .i64 0) (.int .u64 0) (.slice none 0 0) (.slice none 0 0)
        have ho2 : zero4.all (·.oneCell') = true := by simp [zero4, Value.oneCell']
        go_upto_region 14 with (fail)
        rw [← HW4.out, HHX.out]
        go_wp2_with fail
        refine HCC.out.mono ?_
        rintro e w4 ⟨rfl, hg4⟩
        have H4 := Lib.hid (H3r.out.move hg4)
        have x2 : w4.cell? ⟨hx, 3, none⟩ = some (.slice none 0 0) := H4.out.rx.cell 3
        have xf : w4.frozen? ⟨hx, 3, none⟩ = false := H4.out.rx.fr 3
        have H5 := Lib.hid (H4.out.set 3 (.slice none 0 0))
        have hr0 := H5.out.r0
        clear hg4 H4
        simp only [valFlt]
        go_wp2_with (refine wpList_store_row rfl 27 _ _ rfl h0 _ rfl rfl _ _ hr0 hi2 rfl ho2 ?_)
        refine bodyPost_ret (results_cr10 rfl _ _ ⟨h0, 0, none⟩ _ rfl (load_item _ h0 zero4 (setRow_heap _ h0 _ _ _ _ hr0) rfl)) rfl ?_
        rw [HR.out]
        exact ⟨rfl, grown_row10 H5.out.grown (by have := H5.out.w0; omega) _⟩

      | inr ke =>
        obtain ⟨ks, e1⟩ := ke
        rw [hir] at hbr hcc
        have HR : Hid (rdW rc deep xs p = .good (.node 4 0 [] ks) e1) := Lib.hid hbr
        have HCC := Lib.hid hcc
        clear hbr hcc hir
        have HW4 : Hid (w3 = w2.alloc (.cells #[.int .i64 4, .int .u64 0, .slice none 0 0, .slice none 0 0] 27)) := HW3
        have H3r : Hid (Rn w w3 q g h0 hx A n c A1 c1 xs #[.int .i64 4, .int .u64 0, .slice none 0 0, .slice none 0 0]) := Lib.hid H3.out.2.1
        have hi2 := hi4 (.int .i64 0) (.int .u64 0) (.slice none 0 0) (.slice none 0 0)
        have ho2 : zero4.all (·.oneCell') = true := by simp [zero4, Value.oneCell']
        go_upto_region 14 with (fail)
        rw [← HW4.out, HHX.out]
        go_wp2_with fail
        refine HCC.out.mono ?_
        rintro e w4 ⟨K2, m2, d2, rfl, hlv4, hrd4, hg4⟩
        have H4 := Lib.hid (H3r.out.move hg4)
        have x2 : w4.cell? ⟨hx, 3, none⟩ = some (.slice none 0 0) := H4.out.rx.cell 3
        have xf : w4.frozen? ⟨hx, 3, none⟩ = false := H4.out.rx.fr 3
        have H5 := Lib.hid (H4.out.set 3 (.slice K2 m2 d2))
        have hr0 := H5.out.r0
        have hrx : Row (w4.setCell ⟨hx, 3, none⟩ (.slice K2 m2 d2)) hx 27 #[.int .i64 4, .int .u64 0, .slice none 0 0, .slice K2 m2 d2] := H5.out.rx
        have hrg := rdr_cell10 hrd4 (by have := H3r.out.lt; have := H3r.out.gl; omega : hx ≠ g) 3 (.slice K2 m2 d2)
        have hj2 : (Tryd.prog.info? 27).map (·.size) = some (#[.int .i64 4, .int .u64 0, .slice none 0 0, .slice K2 m2 d2] : Array Value).size := hi4 _ _ _ _
        have hjo : (#[.int .i64 4, .int .u64 0, .slice none 0 0, .slice K2 m2 d2] : Array Value).all (·.oneCell') = true := by simp [Value.oneCell']
        have HF := Lib.hid hrg
        have HSZ := Lib.hid hg4.size
        have HLV := Lib.hid (hlv4 4 (by omega))
        clear hlv4
        clear hg4 H4 hrd4 hrg
        go_wp2_with (first
          | (refine wpList_load_row rfl 27 _ rfl hx rfl _ _ (0, 0) _ hrx Tryd.underlying27 rfl hj2 ?_)
          | (refine wpList_store_row rfl 27 _ _ rfl h0 _ rfl rfl _ _ hr0 hj2 rfl hjo ?_))
        refine bodyPost_ret (results_cr10 rfl _ _ ⟨h0, 0, none⟩ _ rfl (load_item _ h0 _ (setRow_heap _ h0 _ _ _ _ hr0) rfl)) rfl ?_
        rw [HR.out]
        have h3l := H3.out.2.2
        have hlt := H3r.out.lt
        have hw0 := H3r.out.w0
        refine ⟨.int .i64 4, .int .u64 0, .slice none 0 0, .slice K2 m2 d2, rfl, fun w'' hag => ?_, rdr_row10 HF.out (by have := H3r.out.gl; omega) _, grown_row10 H5.out.grown (by omega) _⟩
        have hblk : ∀ b, w3.heap.size ≤ b → b < w4.heap.size → w''.heap[b]? = w4.heap[b]? := fun b h1 h2 => by
          rw [hag b (by omega) (by simp [World.setRow, World.setCell]; omega), setRow_other _ _ _ _ (by omega)]
          exact Below.heap_setCell w4 ⟨hx, 3, none⟩ _ b (by show b ≠ hx; omega)
        exact HLV.out w'' fun b h1 h2 => hblk b h1 h2

    · have hcc := HPR.out hdp w3 nm nx H3.out.1 hnm
      have hbr : rdW rc deep xs p = match itemsR rc true nm nx [] with
          | .inl (c, q) => .bad c q
          | .inr (ks, e) => .good (.node 5 0 [] ks) e := by
        rw [HQ.out]
        rfl
      cases hir : itemsR rc true nm nx [] with
      | inl ca =>
        obtain ⟨cd, a⟩ := ca
        rw [hir] at hbr hcc
        have HR : Hid (rdW rc deep xs p = .bad cd a) := Lib.hid hbr
        have HCC := Lib.hid hcc
        clear hbr hcc hir
        have HW4 : Hid (w3 = w2.alloc (.cells #[.int .i64 5, .int .u64 0, .slice none 0 0, .slice none 0 0] 27)) := HW3
        have H3r : Hid (Rn w w3 q g h0 hx A n c A1 c1 xs #[.int .i64 5, .int .u64 0, .slice none 0 0, .slice none 0 0]) := Lib.hid H3.out.2.1
        have hi2 := hi4 (.int .i64 0) (.int .u64 0) (.slice none 0 0) (.slice none 0 0)
        have ho2 : zero4.all (·.oneCell') = true := by simp [zero4, Value.oneCell']
        go_upto_region 16 with (fail)
        rw [← HW4.out, HHX.out]
        go_wp2_with fail
        refine HCC.out.mono ?_
        rintro e w4 ⟨rfl, hg4⟩
        have H4 := Lib.hid (H3r.out.move hg4)
        have x2 : w4.cell? ⟨hx, 3, none⟩ = some (.slice none 0 0) := H4.out.rx.cell 3
        have xf : w4.frozen? ⟨hx, 3, none⟩ = false := H4.out.rx.fr 3
        have H5 := Lib.hid (H4.out.set 3 (.slice none 0 0))
        have hr0 := H5.out.r0
        clear hg4 H4
        simp only [valFlt]
        go_wp2_with (refine wpList_store_row rfl 27 _ _ rfl h0 _ rfl rfl _ _ hr0 hi2 rfl ho2 ?_)
        refine bodyPost_ret (results_cr10 rfl _ _ ⟨h0, 0, none⟩ _ rfl (load_item _ h0 zero4 (setRow_heap _ h0 _ _ _ _ hr0) rfl)) rfl ?_
        rw [HR.out]
        exact ⟨rfl, grown_row10 H5.out.grown (by have := H5.out.w0; omega) _⟩

      | inr ke =>
        obtain ⟨ks, e1⟩ := ke
        rw [hir] at hbr hcc
        have HR : Hid (rdW rc deep xs p = .good (.node 5 0 [] ks) e1) := Lib.hid hbr
        have HCC := Lib.hid hcc
        clear hbr hcc hir
        have HW4 : Hid (w3 = w2.alloc (.cells #[.int .i64 5, .int .u64 0, .slice none 0 0, .slice none 0 0] 27)) := HW3
        have H3r : Hid (Rn w w3 q g h0 hx A n c A1 c1 xs #[.int .i64 5, .int .u64 0, .slice none 0 0, .slice none 0 0]) := Lib.hid H3.out.2.1
        have hi2 := hi4 (.int .i64 0) (.int .u64 0) (.slice none 0 0) (.slice none 0 0)
        have ho2 : zero4.all (·.oneCell') = true := by simp [zero4, Value.oneCell']
        go_upto_region 16 with (fail)
        rw [← HW4.out, HHX.out]
        go_wp2_with fail
        refine HCC.out.mono ?_
        rintro e w4 ⟨K2, m2, d2, rfl, hlv4, hrd4, hg4⟩
        have H4 := Lib.hid (H3r.out.move hg4)
        have x2 : w4.cell? ⟨hx, 3, none⟩ = some (.slice none 0 0) := H4.out.rx.cell 3
        have xf : w4.frozen? ⟨hx, 3, none⟩ = false := H4.out.rx.fr 3
        have H5 := Lib.hid (H4.out.set 3 (.slice K2 m2 d2))
        have hr0 := H5.out.r0
        have hrx : Row (w4.setCell ⟨hx, 3, none⟩ (.slice K2 m2 d2)) hx 27 #[.int .i64 5, .int .u64 0, .slice none 0 0, .slice K2 m2 d2] := H5.out.rx
        have hrg := rdr_cell10 hrd4 (by have := H3r.out.lt; have := H3r.out.gl; omega : hx ≠ g) 3 (.slice K2 m2 d2)
        have hj2 : (Tryd.prog.info? 27).map (·.size) = some (#[.int .i64 5, .int .u64 0, .slice none 0 0, .slice K2 m2 d2] : Array Value).size := hi4 _ _ _ _
        have hjo : (#[.int .i64 5, .int .u64 0, .slice none 0 0, .slice K2 m2 d2] : Array Value).all (·.oneCell') = true := by simp [Value.oneCell']
        have HF := Lib.hid hrg
        have HSZ := Lib.hid hg4.size
        have HLV := Lib.hid (hlv4 5 (by omega))
        clear hlv4
        clear hg4 H4 hrd4 hrg
        go_wp2_with (first
          | (refine wpList_load_row rfl 27 _ rfl hx rfl _ _ (0, 0) _ hrx Tryd.underlying27 rfl hj2 ?_)
          | (refine wpList_store_row rfl 27 _ _ rfl h0 _ rfl rfl _ _ hr0 hj2 rfl hjo ?_))
        refine bodyPost_ret (results_cr10 rfl _ _ ⟨h0, 0, none⟩ _ rfl (load_item _ h0 _ (setRow_heap _ h0 _ _ _ _ hr0) rfl)) rfl ?_
        rw [HR.out]
        have h3l := H3.out.2.2
        have hlt := H3r.out.lt
        have hw0 := H3r.out.w0
        refine ⟨.int .i64 5, .int .u64 0, .slice none 0 0, .slice K2 m2 d2, rfl, fun w'' hag => ?_, rdr_row10 HF.out (by have := H3r.out.gl; omega) _, grown_row10 H5.out.grown (by omega) _⟩
        have hblk : ∀ b, w3.heap.size ≤ b → b < w4.heap.size → w''.heap[b]? = w4.heap[b]? := fun b h1 h2 => by
          rw [hag b (by omega) (by simp [World.setRow, World.setCell]; omega), setRow_other _ _ _ _ (by omega)]
          exact Below.heap_setCell w4 ⟨hx, 3, none⟩ _ b (by show b ≠ hx; omega)
        exact HLV.out w'' fun b h1 h2 => hblk b h1 h2


end Go.Proofs.YtmhgpdfllpgjpaaDoor
