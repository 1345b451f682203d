/- The program's reading of a node, over the contract of reading its kids. The program's reading of a node: one without kids, and one with kids. -/
import Derived.Test.YtdpnfojpeafdhaaDoorD8J
import Derived.Test.YtdpnfojpeafdhaaDoorKidG8
import Derived.Test.YtdpnfojpeafdhaaDoorWire3
namespace Go.Proofs.YtdpnfojpeafdhaaDoor
open Go.RowKit
set_option linter.unusedVariables false

theorem results_cr {fn : Func} {p u : Tmp} {ty : TypeId} (h : fn.results = #[.cell p ty, .tmp u]) (tmps : Array Value) {P : Program} (w : World) (a : Addr) (v : Value)
    (hp : tmps.getD p undef = .pointer (some a)) (hl : (loadVar ty a).run P w = .ok v w) :
    (results fn tmps).run P w = .ok (.tuple #[v, tmps.getD u undef]) w := by
  rw [results_cell_tmp h, hp]
  simp [asAddr, Result.andThen, hl]
/-- A node in a row of its own, loaded. -/
theorem load_node (w : World) (g : Nat) (cs : Array Value) (hg : Row w g 26 cs) (h : cs.size = 3) : (loadVar 26 ⟨g, 0, none⟩).run Tryd.prog w = .ok (.agg cs) w :=
  run_loadVar_row w g 26 26 cs (0, 0) _ hg Tryd.underlying26 rfl (by rw [h]; kernel_rfl)

/-- A node's result. -/
def NodeP (r : Res) (w : World) (g : Nat) (A : Option Addr) (n c : Nat) (e : Ending) (w' : World) : Prop :=
  match r with
  | .err cd a => e = .returned (.tuple #[.agg #[.int .u8 0, .slice none 0 0, .slice none 0 0], (Ch.flt (cd : Int) (a : Int)).val]) ∧ w.grownBy w' (some g)
  | .ok t nx => ∃ x y z, e = .returned (.tuple #[.agg #[x, y, z], .nilIface]) ∧ Lives w w' (.agg #[x, y, z]) t ∧ Rdr w' g A n c nx ∧ w.grownBy w' (some g)
/-- What reading the kids hands back. -/
def KidsP (r : Res) (tag : Int) (w : World) (g : Nat) (A : Option Addr) (n c : Nat) (e : Ending) (w' : World) : Prop :=
  match r with
  | .err cd a => e = .returned (.tuple #[.slice none 0 0, (Ch.flt (cd : Int) (a : Int)).val]) ∧ w.grownBy w' (some g)
  | .ok t nx => ∃ K m d, e = .returned (.tuple #[.slice K m d, .nilIface]) ∧ Lives w w' (.agg #[.int .u8 tag, .slice none 0 0, .slice K m d]) t ∧ Rdr w' g A n c nx ∧ w.grownBy w' (some g)
abbrev zero3 : Array Value := #[.int .u8 0, .slice none 0 0, .slice none 0 0]
/-- A node's own blocks and the reader. -/
structure Nd (w wx : World) (g q : Nat) (A : Option Addr) (n c : Nat) (xs : List Int) (k : Nat) : Prop where
  rw : Rw wx g A n c xs k
  grown : w.grownBy wx (some g)
  rb : Row wx q 60 #[.pointer (some ⟨g, 0, none⟩)]
  rz : Row wx (q + 1) 26 zero3
  gq : g < q
  wq : w.heap.size ≤ q
section
variable {w wx wy : World} {g q : Nat} {A : Option Addr} {n c : Nat} {xs : List Int} {k : Nat}
theorem Nd.past (h : Nd w wx g q A n c xs k) (hp : Past wx wy) : Nd w wy g q A n c xs k :=
  ⟨h.rw.past hp, only_trans h.grown (only_of_past hp _), h.rb.past hp, h.rz.past hp, h.gq, h.wq⟩
theorem Nd.move (h : Nd w wx g q A n c xs k) (hg : wx.grownBy wy (some g)) {j : Nat} (hr : Rdr wy g A n c j) (hj : j ≤ n) : Nd w wy g q A n c xs j :=
  ⟨h.rw.move hg hr hj, only_trans h.grown hg, h.rb.grown hg (by have := h.gq; intro e; injection e with e; omega), h.rz.grown hg (by have := h.gq; intro e; injection e with e; omega), h.gq, h.wq⟩
/-- After an error of the reader. -/
theorem Nd.lost (h : Nd w wx g q A n c xs k) (hg : wx.grownBy wy (some g)) : w.grownBy wy (some g) ∧ Row wy (q + 1) 26 zero3 :=
  ⟨only_trans h.grown hg, h.rz.grown hg (by have := h.gq; intro e; injection e with e; omega)⟩
theorem Nd.start (h : Rw w g A n c xs k) : Nd w ((w.alloc (.cells #[.pointer (some ⟨g, 0, none⟩)] 60)).alloc (.cells zero3 26)) g w.heap.size A n c xs k := by
  have hp := (past_alloc8 w (.cells #[.pointer (some ⟨g, 0, none⟩)] 60)).trans' (past_alloc8 _ (.cells zero3 26))
  refine ⟨h.past hp, only_of_past hp _, (Row.new w _ _).alloc _, ?_, h.rd.lt, Nat.le_refl _⟩
  have := Row.new (w.alloc (.cells #[.pointer (some ⟨g, 0, none⟩)] 60)) 26 zero3
  simpa using this
end
theorem grown_row {w wx : World} {g q : Nat} (h : w.grownBy wx (some g)) (hq : w.heap.size ≤ q) (cs : Array Value) : w.grownBy (wx.setRow q cs) (some g) :=
  ⟨h.os, h.tape, h.output, by simpa using h.size, fun i hi hne => (setRow_other _ _ _ _ (by omega)).trans (h.block i hi hne)⟩
theorem rdr_row {w : World} {g q : Nat} {A : Option Addr} {n c k : Nat} (h : Rdr w g A n c k) (hq : g ≠ q) (cs : Array Value) : Rdr (w.setRow q cs) g A n c k :=
  (setRow_other _ _ _ _ hq).trans h
theorem node3 (cs : Array Value) (h : cs.size = 3) : (Tryd.prog.info? 26).map (·.size) = some cs.size := by rw [h]; kernel_rfl

set_option maxHeartbeats 4000000 in
set_option maxRecDepth 100000 in
theorem node_early (w : World) (g : Nat) (A : Option Addr) (n c : Nat) (xs : List Int) (at0 fin : Nat) (above : Int) (h : Rw w g A n c xs at0) (hf : fin ≤ n) (r : Res)
    (hr : (fin ≤ at0 ∧ r = .err 3 fin) ∨ (at0 < fin ∧ tagB (xs.getD at0 0) = false ∧ r = .err 5 at0) ∨ (at0 < fin ∧ tagB (xs.getD at0 0) = true ∧ above = 8 ∧ r = .err 2 at0)) :
    Calls Tryd.prog 25 #[rdV g, .int .i64 (fin : Int), .int .i64 above] w (NodeP r w g A n c) := by
  have hS := Nd.start h
  have HXR := Lib.hid (getD_rng h.sl)
  clear h
  have f0 : ((w.alloc (.cells #[.pointer (some ⟨g, 0, none⟩)] 60)).alloc (.cells zero3 26)).cell? ⟨w.heap.size, 0, none⟩ = some (.pointer (some ⟨g, 0, none⟩)) := hS.rb.cell 0
  have HS := Lib.hid hS
  clear hS
  go_enter Tryd.func25, Tryd.ntmps25
  go_wp2_with fail
  generalize (w.alloc (.cells #[.pointer (some ⟨g, 0, none⟩)] 60)).alloc (.cells zero3 26) = w1 at *
  generalize w.heap.size = q at *
  refine (wat_any _ g A n c at0 HS.out.rw.rd).mono ?_
  rintro e w2 ⟨rfl, rfl⟩
  go_wp2_with fail
  have hi2 := node3 zero3 rfl
  have ho2 : zero3.all (·.oneCell') = true := by simp [zero3, Value.oneCell']
  rcases hr with ⟨h1, rfl⟩ | ⟨h1, ht, rfl⟩ | ⟨h1, ht, rfl, rfl⟩
  · refine (next_end _ g A n c xs at0 fin HS.out.rw h1).mono ?_
    rintro e w2 ⟨rfl, hp⟩
    have H2 := Lib.hid (HS.out.past hp)
    have hrow := H2.out.rz
    clear hp HS f0
    simp only [valFlt]
    go_wp2_with (refine wpList_store_row rfl 26 _ _ rfl (q + 1) _ rfl rfl _ _ hrow hi2 rfl ho2 ?_)
    refine bodyPost_ret (results_cr rfl _ _ ⟨q + 1, 0, none⟩ _ rfl (load_node _ (q + 1) zero3 (setRow_heap w2 (q + 1) _ _ _ _ hrow) rfl)) rfl ?_
    exact ⟨rfl, grown_row H2.out.grown (by have := H2.out.wq; omega) _⟩
  · refine (next_got _ g A n c xs at0 fin HS.out.rw h1 hf).mono ?_
    rintro e w2 ⟨rfl, hrd, hgr⟩
    have H2 := Lib.hid (HS.out.move hgr hrd (by omega))
    have hx := HXR.out at0
    have HT := Lib.hid (fun w => isTag_any (xs.getD at0 0) w hx.1 hx.2)
    rw [ht] at HT
    have HN := Lib.hid (fun w => new_any 5 (at0 : Int) w)
    simp only [valFlt] at HN
    clear hrd hgr HS f0 ht
    generalize xs.getD at0 0 = T0 at *
    go_wp2_with fail
    refine (HT.out _).mono ?_
    rintro e w3 ⟨rfl, rfl⟩
    go_wp2_with fail
    refine (HN.out _).mono ?_
    rintro e w3 ⟨rfl, hp⟩
    have H3 := Lib.hid (H2.out.past hp)
    have hrow := H3.out.rz
    clear hp H2
    go_wp2_with (refine wpList_store_row rfl 26 _ _ rfl (q + 1) _ rfl rfl _ _ hrow hi2 rfl ho2 ?_)
    refine bodyPost_ret (results_cr rfl _ _ ⟨q + 1, 0, none⟩ _ rfl (load_node _ (q + 1) zero3 (setRow_heap w3 (q + 1) _ _ _ _ hrow) rfl)) rfl ?_
    exact ⟨rfl, grown_row H3.out.grown (by have := H3.out.wq; omega) _⟩
  · refine (next_got _ g A n c xs at0 fin HS.out.rw h1 hf).mono ?_
    rintro e w2 ⟨rfl, hrd, hgr⟩
    have H2 := Lib.hid (HS.out.move hgr hrd (by omega))
    have hx := HXR.out at0
    have HT := Lib.hid (fun w => isTag_any (xs.getD at0 0) w hx.1 hx.2)
    rw [ht] at HT
    have HN := Lib.hid (fun w => new_any 2 (at0 : Int) w)
    simp only [valFlt] at HN
    clear hrd hgr HS f0 ht
    generalize xs.getD at0 0 = T0 at *
    go_wp2_with fail
    refine (HT.out _).mono ?_
    rintro e w3 ⟨rfl, rfl⟩
    go_wp2_with fail
    refine (HN.out _).mono ?_
    rintro e w3 ⟨rfl, hp⟩
    have H3 := Lib.hid (H2.out.past hp)
    have hrow := H3.out.rz
    clear hp H2
    go_wp2_with (refine wpList_store_row rfl 26 _ _ rfl (q + 1) _ rfl rfl _ _ hrow hi2 rfl ho2 ?_)
    refine bodyPost_ret (results_cr rfl _ _ ⟨q + 1, 0, none⟩ _ rfl (load_node _ (q + 1) zero3 (setRow_heap w3 (q + 1) _ _ _ _ hrow) rfl)) rfl ?_
    exact ⟨rfl, grown_row H3.out.grown (by have := H3.out.wq; omega) _⟩


set_option maxHeartbeats 4000000 in
set_option maxRecDepth 100000 in
theorem node_head (w : World) (g : Nat) (A : Option Addr) (n c : Nat) (xs : List Int) (at0 fin cd a0 : Nat) (above : Int) (h : Rw w g A n c xs at0) (hf : fin ≤ n) (h1 : at0 < fin) (ht : tagB (xs.getD at0 0) = true) (hab : above < 8)
    (hr : hdr xs at0 fin = .err cd a0 ∨ ∃ nx l, hdr xs at0 fin = .ok nx l ∧ fin < nx + l ∧ nx ≤ fin ∧ l < 16777216 ∧ cd = 3 ∧ a0 = fin) :
    Calls Tryd.prog 25 #[rdV g, .int .i64 (fin : Int), .int .i64 above] w (NodeP (.err cd a0) w g A n c) := by
  have hS := Nd.start h
  have HXR := Lib.hid (getD_rng h.sl)
  have hnn := h.hn
  clear h
  have f0 : ((w.alloc (.cells #[.pointer (some ⟨g, 0, none⟩)] 60)).alloc (.cells zero3 26)).cell? ⟨w.heap.size, 0, none⟩ = some (.pointer (some ⟨g, 0, none⟩)) := hS.rb.cell 0
  have HS := Lib.hid hS
  clear hS
  go_enter Tryd.func25, Tryd.ntmps25
  go_wp2_with fail
  generalize (w.alloc (.cells #[.pointer (some ⟨g, 0, none⟩)] 60)).alloc (.cells zero3 26) = w1 at *
  generalize w.heap.size = q at *
  refine (wat_any _ g A n c at0 HS.out.rw.rd).mono ?_
  rintro e w2 ⟨rfl, rfl⟩
  go_wp2_with fail
  have hi2 := node3 zero3 rfl
  have ho2 : zero3.all (·.oneCell') = true := by simp [zero3, Value.oneCell']
  refine (next_got _ g A n c xs at0 fin HS.out.rw h1 hf).mono ?_
  rintro e w2 ⟨rfl, hrd, hgr⟩
  have H2 := Lib.hid (HS.out.move hgr hrd (by omega))
  have hx := HXR.out at0
  have HT := Lib.hid (fun w => isTag_any (xs.getD at0 0) w hx.1 hx.2)
  rw [ht] at HT
  have f2 : w2.cell? ⟨q, 0, none⟩ = some (.pointer (some ⟨g, 0, none⟩)) := H2.out.rb.cell 0
  have hab2 : ¬ (8 : Int) ≤ above := by omega
  clear hrd hgr HS f0 ht
  generalize hT : xs.getD at0 0 = T0 at *
  have HT0 := Lib.hid hT
  clear hT
  go_wp2_with fail
  refine (HT.out _).mono ?_
  rintro e w3 ⟨rfl, rfl⟩
  go_wp2_with fail
  have HLE := length_any w2 g A n c xs at0 fin H2.out.rw hf
  rcases hr with hh | ⟨nx, l, hh, hl, hnf, hl24, rfl, rfl⟩
  · rw [hh] at HLE
    refine HLE.mono ?_
    rintro e w3 ⟨rfl, hg⟩
    have H3 := Lib.hid (H2.out.lost hg)
    have HWQ := Lib.hid H2.out.wq
    have hrow := H3.out.2
    simp only [valFlt]
    clear hg H2 f2 HLE hh
    go_wp2_with (refine wpList_store_row rfl 26 _ _ rfl (q + 1) _ rfl rfl _ _ hrow hi2 rfl ho2 ?_)
    refine bodyPost_ret (results_cr rfl _ _ ⟨q + 1, 0, none⟩ _ rfl (load_node _ (q + 1) zero3 (setRow_heap w3 (q + 1) _ _ _ _ hrow) rfl)) rfl ?_
    exact ⟨rfl, grown_row H3.out.1 (by have := HWQ.out; omega) _⟩
  · rw [hh] at HLE
    refine HLE.mono ?_
    rintro e w3 ⟨rfl, hrd, hg⟩
    have H3 := Lib.hid (H2.out.move hg hrd (by omega))
    have f3 : w3.cell? ⟨q, 0, none⟩ = some (.pointer (some ⟨g, 0, none⟩)) := H3.out.rb.cell 0
    have HN := Lib.hid (fun w => new_any 3 (a0 : Int) w)
    simp only [valFlt] at HN
    have hli : (a0 : Int) - (nx : Int) < (l : Int) := by omega
    clear hg hrd H2 f2 HLE hh
    go_wp2_with fail
    refine (wat_any _ g A n c nx H3.out.rw.rd).mono ?_
    rintro e w4 ⟨rfl, rfl⟩
    go_wp2_with fail
    refine (HN.out _).mono ?_
    rintro e w4 ⟨rfl, hp⟩
    have H4 := Lib.hid (H3.out.past hp)
    have hrow := H4.out.rz
    clear hp H3
    go_wp2_with (refine wpList_store_row rfl 26 _ _ rfl (q + 1) _ rfl rfl _ _ hrow hi2 rfl ho2 ?_)
    refine bodyPost_ret (results_cr rfl _ _ ⟨q + 1, 0, none⟩ _ rfl (load_node _ (q + 1) zero3 (setRow_heap w4 (q + 1) _ _ _ _ hrow) rfl)) rfl ?_
    exact ⟨rfl, grown_row H4.out.grown (by have := H4.out.wq; omega) _⟩

end Go.Proofs.YtdpnfojpeafdhaaDoor

namespace Go.Proofs.YtdpnfojpeafdhaaDoor
open Go.RowKit
set_option linter.unusedVariables false

set_option maxHeartbeats 4000000 in
set_option maxRecDepth 100000 in
theorem node_leaf (w : World) (g : Nat) (A : Option Addr) (n c : Nat) (xs : List Int) (at0 fin nx l : Nat) (above : Int) (h : Rw w g A n c xs at0) (hf : fin ≤ n) (h1 : at0 < fin) (ht : tagB (xs.getD at0 0) = true) (hab : above < 8)
    (hh : hdr xs at0 fin = .ok nx l) (hl : nx + l ≤ fin) (hl24 : l < 16777216) (hsim : simB (xs.getD at0 0) = true) :
    Calls Tryd.prog 25 #[rdV g, .int .i64 (fin : Int), .int .i64 above] w (NodeP (.ok (.node (xs.getD at0 0) ((xs.drop nx).take l) []) (nx + l)) w g A n c) := by
  have hS := Nd.start h
  have HXR := Lib.hid (getD_rng h.sl)
  have hnn := h.hn
  clear h
  have f0 : ((w.alloc (.cells #[.pointer (some ⟨g, 0, none⟩)] 60)).alloc (.cells zero3 26)).cell? ⟨w.heap.size, 0, none⟩ = some (.pointer (some ⟨g, 0, none⟩)) := hS.rb.cell 0
  have HS := Lib.hid hS
  clear hS
  go_enter Tryd.func25, Tryd.ntmps25
  go_wp2_with fail
  generalize (w.alloc (.cells #[.pointer (some ⟨g, 0, none⟩)] 60)).alloc (.cells zero3 26) = w1 at *
  generalize w.heap.size = q at *
  refine (wat_any _ g A n c at0 HS.out.rw.rd).mono ?_
  rintro e w2 ⟨rfl, rfl⟩
  go_wp2_with fail
  refine (next_got _ g A n c xs at0 fin HS.out.rw h1 hf).mono ?_
  rintro e w2 ⟨rfl, hrd, hgr⟩
  have H2 := Lib.hid (HS.out.move hgr hrd (by omega))
  have hx := HXR.out at0
  have HT := Lib.hid (fun w => isTag_any (xs.getD at0 0) w hx.1 hx.2)
  rw [ht] at HT
  have f2 : w2.cell? ⟨q, 0, none⟩ = some (.pointer (some ⟨g, 0, none⟩)) := H2.out.rb.cell 0
  have hab2 : ¬ (8 : Int) ≤ above := by omega
  clear hrd hgr HS f0 ht
  generalize hT : xs.getD at0 0 = T0 at *
  have HT0 := Lib.hid hT
  clear hT
  go_wp2_with fail
  refine (HT.out _).mono ?_
  rintro e w3 ⟨rfl, rfl⟩
  go_wp2_with fail
  have HLE := length_any w2 g A n c xs at0 fin H2.out.rw hf
  rw [hh] at HLE
  refine HLE.mono ?_
  rintro e w3 ⟨rfl, hrd, hg⟩
  have H3 := Lib.hid (H2.out.move hg hrd (by omega))
  have f3 : w3.cell? ⟨q, 0, none⟩ = some (.pointer (some ⟨g, 0, none⟩)) := H3.out.rb.cell 0
  have HC := Lib.hid (fun w => isComposed_any T0 w hx.1 hx.2)
  rw [hsim] at HC
  have hli : ¬ (fin : Int) - (nx : Int) < (l : Int) := by omega
  clear hg hrd H2 f2 HLE hh
  go_wp2_with fail
  refine (wat_any _ g A n c nx H3.out.rw.rd).mono ?_
  rintro e w4 ⟨rfl, rfl⟩
  go_wp2_with fail
  refine (HC.out _).mono ?_
  rintro e w4 ⟨rfl, rfl⟩
  have hlen : ((xs.drop nx).take l).length = l := by have := H3.out.rw.sl.len; rw [List.length_take, List.length_drop]; omega
  have HTK := Lib.hid (take_ok l w3 g A n c nx xs H3.out.rw.rd H3.out.rw.sl H3.out.rw.hk (by omega) (by omega))
  generalize (xs.drop nx).take l = ys at *
  subst hlen
  go_wp2_with fail
  refine HTK.out.mono ?_
  rintro e w5 ⟨A5, c5, rfl, hrd, hsl, hown, hgr⟩
  have H5 := Lib.hid (H3.out.move hgr hrd (by omega))
  have hfar : ∀ b o, A5 = some ⟨b, o, none⟩ → q + 1 < b ∧ b < w5.heap.size := by
    intro b o e
    subst e
    have h1 := own_block_ge hown b rfl
    have h2 := (hown.lt b rfl).2
    have h3 := H3.out.rz.lt
    omega
  have HFR := Lib.hid (And.intro hsl hfar)
  have HYS := Lib.hid hx
  have hrow := H5.out.rz
  have hi2 := node3 #[.int .u8 T0, .slice A5 ys.length c5, .slice none 0 0] rfl
  have ho2 : (#[Value.int .u8 T0, .slice A5 ys.length c5, .slice none 0 0] : Array Value).all (·.oneCell') = true := by simp [Value.oneCell']
  clear hgr hrd hsl hown hfar H3 f3 HTK
  generalize hyl : ys.length = L at *
  have HYL := Lib.hid hyl
  clear hyl
  go_wp2_with (refine wpList_store_row rfl 26 _ _ rfl (q + 1) _ rfl rfl _ _ hrow hi2 rfl ho2 ?_)
  refine bodyPost_ret (results_cr rfl _ _ ⟨q + 1, 0, none⟩ _ rfl (load_node _ (q + 1) _ (setRow_heap w5 (q + 1) _ _ _ _ hrow) rfl)) rfl ?_
  have hwq := H5.out.wq
  refine ⟨.int .u8 T0, .slice A5 L c5, .slice none 0 0, rfl, fun w'' hag => ?_, rdr_row H5.out.rw.rd (by have := H5.out.gq; omega) _, grown_row H5.out.grown (by omega) _⟩
  refine .mk (fun _ => undef) (fun _ => undef) (fun _ => undef) HYS.out (sl_agree HFR.out.1 fun b o e => ?_) rfl (Nat.zero_le _) (Nat.zero_le _) (fun _ => rfl) (fun h => absurd h (Nat.lt_irrefl 0)) (fun i hi => absurd hi (by omega))
  have hb := HFR.out.2 b o e
  rw [hag b (by omega) (by simpa [World.setRow] using hb.2), setRow_other _ _ _ _ (by omega)]

set_option maxHeartbeats 4000000 in
set_option maxRecDepth 100000 in
theorem node_comp (w : World) (g : Nat) (A : Option Addr) (n c : Nat) (xs : List Int) (at0 fin nx l : Nat) (above : Int) (h : Rw w g A n c xs at0) (hf : fin ≤ n) (h1 : at0 < fin) (ht : tagB (xs.getD at0 0) = true) (hab : above < 8) (hab0 : 0 ≤ above)
    (hh : hdr xs at0 fin = .ok nx l) (hl : nx + l ≤ fin) (hl24 : l < 16777216) (hsim : simB (xs.getD at0 0) = false)
    (r : Res) (ihk : ∀ wz, Rw wz g A n c xs nx → Calls Tryd.prog 43 #[rdV g, .int .i64 ((nx : Int) + (l : Int)), .int .i64 (above + 1)] wz (KidsP r (xs.getD at0 0) wz g A n c)) (hrn : ∀ t n1, r = .ok t n1 → n1 ≤ n) :
    Calls Tryd.prog 25 #[rdV g, .int .i64 (fin : Int), .int .i64 above] w (NodeP (r) w g A n c) := by
  have hS := Nd.start h
  have HXR := Lib.hid (getD_rng h.sl)
  have hnn := h.hn
  clear h
  have f0 : ((w.alloc (.cells #[.pointer (some ⟨g, 0, none⟩)] 60)).alloc (.cells zero3 26)).cell? ⟨w.heap.size, 0, none⟩ = some (.pointer (some ⟨g, 0, none⟩)) := hS.rb.cell 0
  have HS := Lib.hid hS
  clear hS
  go_enter Tryd.func25, Tryd.ntmps25
  go_wp2_with fail
  generalize (w.alloc (.cells #[.pointer (some ⟨g, 0, none⟩)] 60)).alloc (.cells zero3 26) = w1 at *
  generalize w.heap.size = q at *
  refine (wat_any _ g A n c at0 HS.out.rw.rd).mono ?_
  rintro e w2 ⟨rfl, rfl⟩
  go_wp2_with fail
  refine (next_got _ g A n c xs at0 fin HS.out.rw h1 hf).mono ?_
  rintro e w2 ⟨rfl, hrd, hgr⟩
  have H2 := Lib.hid (HS.out.move hgr hrd (by omega))
  have hx := HXR.out at0
  have HT := Lib.hid (fun w => isTag_any (xs.getD at0 0) w hx.1 hx.2)
  rw [ht] at HT
  have f2 : w2.cell? ⟨q, 0, none⟩ = some (.pointer (some ⟨g, 0, none⟩)) := H2.out.rb.cell 0
  have hab2 : ¬ (8 : Int) ≤ above := by omega
  clear hrd hgr HS f0 ht
  generalize hT : xs.getD at0 0 = T0 at *
  have HT0 := Lib.hid hT
  clear hT
  go_wp2_with fail
  refine (HT.out _).mono ?_
  rintro e w3 ⟨rfl, rfl⟩
  go_wp2_with fail
  have HLE := length_any w2 g A n c xs at0 fin H2.out.rw hf
  rw [hh] at HLE
  refine HLE.mono ?_
  rintro e w3 ⟨rfl, hrd, hg⟩
  have H3 := Lib.hid (H2.out.move hg hrd (by omega))
  have f3 : w3.cell? ⟨q, 0, none⟩ = some (.pointer (some ⟨g, 0, none⟩)) := H3.out.rb.cell 0
  have HC := Lib.hid (fun w => isComposed_any T0 w hx.1 hx.2)
  rw [hsim] at HC
  have hli : ¬ (fin : Int) - (nx : Int) < (l : Int) := by omega
  clear hg hrd H2 f2 HLE hh
  go_wp2_with fail
  refine (wat_any _ g A n c nx H3.out.rw.rd).mono ?_
  rintro e w4 ⟨rfl, rfl⟩
  go_wp2_with fail
  refine (HC.out _).mono ?_
  rintro e w4 ⟨rfl, rfl⟩
  have HIH := Lib.hid ihk
  have HRN := Lib.hid hrn
  have f3d : w3.drew.cell? ⟨q, 0, none⟩ = some (.pointer (some ⟨g, 0, none⟩)) := f3
  have HAT := Lib.hid (wat_any w3.drew g A n c nx H3.out.rw.rd)
  have HKD := Lib.hid (HIH.out w3.drew (H3.out.rw.past (Past.drewN (Below.refl _ w3) 1)))
  have H3d := Lib.hid (H3.out.past (Past.drewN (Below.refl _ w3) 1))
  have hw1 : IntKind.i64.wrap ((nx : Int) + (l : Int)) = (nx : Int) + (l : Int) := by rw [IntKind.wrap_i64]; omega
  have hw2 : IntKind.i64.wrap (above + 1) = above + 1 := by rw [IntKind.wrap_i64]; omega
  have HT3 := Lib.hid hx
  clear ihk hrn HIH
  cases r with
  | err cd a0 =>
    go_wp2_with fail
    go_region_law (first
      | (go_simp; go_at_call 27; (with_reducible refine HAT.out.mono ?_); rintro e4 w4 ⟨rfl, hw4⟩; subst hw4)
      | (go_simp; go_at_call 43; (with_reducible refine HKD.out.mono ?_); rintro e5 w5 ⟨rfl, hg5⟩; have H5 := Lib.hid (H3d.out.lost hg5); clear hg5))
    all_goals
      have HWQ := Lib.hid H3.out.wq
      have hrow := H5.out.2
      have hi2 := node3 zero3 rfl
      have ho2 : zero3.all (·.oneCell') = true := by simp [zero3, Value.oneCell']
      simp only [valFlt]
      go_wp2_with (refine wpList_store_row rfl 26 _ _ rfl (q + 1) _ rfl rfl _ _ hrow hi2 rfl ho2 ?_)
      refine bodyPost_ret (results_cr rfl _ _ ⟨q + 1, 0, none⟩ _ rfl (load_node _ (q + 1) zero3 (setRow_heap w5 (q + 1) _ _ _ _ hrow) rfl)) rfl ?_
      exact ⟨rfl, grown_row H5.out.1 (by have := HWQ.out; omega) _⟩
  | ok t n1 =>
    go_wp2_with fail
    go_region_law (first
      | (go_simp; go_at_call 27; (with_reducible refine HAT.out.mono ?_); rintro e4 w4 ⟨rfl, hw4⟩; subst hw4)
      | (go_simp; go_at_call 43; (with_reducible refine HKD.out.mono ?_); rintro e5 w5 ⟨K, m, d, rfl, hlv, hrd, hg5⟩; have H5 := Lib.hid (H3d.out.move hg5 hrd (HRN.out t n1 rfl)); have HLV := Lib.hid hlv; clear hg5 hrd hlv))
    all_goals
      have hrow := H5.out.rz
      have hi2 := node3 #[.int .u8 T0, .slice none 0 0, .slice K m d] rfl
      have ho2 : (#[Value.int .u8 T0, .slice none 0 0, .slice K m d] : Array Value).all (·.oneCell') = true := by simp [Value.oneCell']
      go_wp2_with (refine wpList_store_row rfl 26 _ _ rfl (q + 1) _ rfl rfl _ _ hrow hi2 rfl ho2 ?_)
      refine bodyPost_ret (results_cr rfl _ _ ⟨q + 1, 0, none⟩ _ rfl (load_node _ (q + 1) _ (setRow_heap w5 (q + 1) _ _ _ _ hrow) rfl)) rfl ?_
      have hwq := H5.out.wq
      have hrz := H3.out.rz.lt
      refine ⟨.int .u8 T0, .slice none 0 0, .slice K m d, rfl, fun w'' hag => HLV.out w'' fun k h1 h2 => ?_, rdr_row H5.out.rw.rd (by have := H5.out.gq; omega) _, grown_row H5.out.grown (by omega) _⟩
      have h1' : w3.heap.size ≤ k := h1
      rw [hag k (by omega) (by simpa [World.setRow] using h2), setRow_other _ _ _ _ (by omega)]

end Go.Proofs.YtdpnfojpeafdhaaDoor
