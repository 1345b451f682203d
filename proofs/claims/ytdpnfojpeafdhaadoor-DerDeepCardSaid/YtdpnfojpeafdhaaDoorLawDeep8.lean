/- For every number the law DerDeep of package pyxlaw08 returns true, where the variable errors.errorType holds what the program's text lays. -/
import Derived.Test.YtdpnfojpeafdhaaDoorFrame8
import Derived.Test.YtdpnfojpeafdhaaDoorD8O
import Derived.Test.YtdpnfojpeafdhaaDoorTxt8
namespace Go.Proofs.YtdpnfojpeafdhaaDoor.derDeep
open Go.RowKit Go.ChangeShapes Go.WideShapes Go.ChangeAt
set_option linter.unusedVariables false

def nest : Nat → T
  | 0 => .node 4 [] []
  | k + 1 => .node 48 [] [nest k]
theorem nest_parse : ∀ k, k < 20 → parseL (txt (nest k)) (txt (nest k)).length = if 8 ≤ k then .err 2 16 else .ok (nest k) (2 * (k + 1))
  | 0, _ => by kernel_rfl
  | 1, _ => by kernel_rfl
  | 2, _ => by kernel_rfl
  | 3, _ => by kernel_rfl
  | 4, _ => by kernel_rfl
  | 5, _ => by kernel_rfl
  | 6, _ => by kernel_rfl
  | 7, _ => by kernel_rfl
  | 8, _ => by kernel_rfl
  | 9, _ => by kernel_rfl
  | 10, _ => by kernel_rfl
  | 11, _ => by kernel_rfl
  | 12, _ => by kernel_rfl
  | 13, _ => by kernel_rfl
  | 14, _ => by kernel_rfl
  | 15, _ => by kernel_rfl
  | 16, _ => by kernel_rfl
  | 17, _ => by kernel_rfl
  | 18, _ => by kernel_rfl
  | 19, _ => by kernel_rfl
  | k + 20, h => by omega
theorem nest_nums : ∀ k : Fin 20, (txt (nest k.val)).length = 2 * k.val + 2 ∧ cnt (nest k.val) = k.val + 1 ∧ dep (nest k.val) = k.val + 1 := by decide +kernel

/-- The tree lies in blocks above g. -/
def NX (wx : World) (g : Nat) (v : Value) (t : T) : Prop := ∀ w'', (∀ k, g < k → k < wx.heap.size → w''.heap[k]? = wx.heap[k]?) → InM w'' v t
/-- What the loop keeps. -/
structure DW (w wx : World) (g : Nat) (tg : Int) (K : Option Addr) (m d : Nat) (t : T) : Prop where
  past : Past w wx
  row : Row wx g 33 #[.int .u8 tg, .slice none 0 0, .slice K m d]
  tree : NX wx g (.agg #[.int .u8 tg, .slice none 0 0, .slice K m d]) t
theorem DW.step {w wx : World} {g : Nat} {tg : Int} {K : Option Addr} {m d : Nat} {t : T} (h : DW w wx g tg K m d t) (hg : w.heap.size ≤ g) :
    DW w ((wx.alloc (.cells #[.int .u8 tg, .slice none 0 0, .slice K m d] 33)).setRow g #[.int .u8 48, .slice none 0 0, .slice (some ⟨wx.heap.size, 0, none⟩) 1 1]) g 48 (some ⟨wx.heap.size, 0, none⟩) 1 1 (.node 48 [] [t]) := by
  have hlt := h.row.lt
  have hn := Row.new wx 33 #[.int .u8 tg, .slice none 0 0, .slice K m d]
  refine ⟨?_, setRow_heap _ g _ _ _ _ (h.row.alloc _), fun w'' hw => ?_⟩
  · exact below_setRow (h.past.trans' (past_alloc8 _ _)) hg _
  · have hsz : ((wx.alloc (.cells #[.int .u8 tg, .slice none 0 0, .slice K m d] 33)).setRow g #[.int .u8 48, .slice none 0 0, .slice (some ⟨wx.heap.size, 0, none⟩) 1 1]).heap.size = wx.heap.size + 1 := by simp [World.setRow]
    rw [hsz] at hw
    have hr : Row w'' wx.heap.size 33 #[.int .u8 tg, .slice none 0 0, .slice K m d] := by
      show w''.heap[wx.heap.size]? = _
      rw [hw wx.heap.size hlt (by omega), setRow_other _ g _ _ (by omega)]
      exact hn
    refine one_in 48 (by omega) hr (h.tree w'' fun k h1 h2 => ?_)
    rw [hw k h1 (by omega), setRow_other _ g _ _ (by omega)]
    exact Below.heap_alloc wx _ k h2

set_option maxHeartbeats 4000000 in
set_option maxRecDepth 100000 in
theorem walk' (H : Prog8) (N : Int) (w : World) (h0 : 0 ≤ N) (h1 : N < 256) (hG : Glob w) :
    Calls Tryd.prog 6 #[.int .u8 N] w fun e w' => e = .returned (.bool true) ∧ Past w w' := by
  have HA := Lib.hid (fun w hG => awake8 H w hG)
  have HG := Lib.hid hG
  have HPa := Lib.hid H.parse
  have HDe := Lib.hid H.depth
  have HTo := Lib.hid (fun w hG => ltold_flt 2 16 w hG (by omega))
  simp only [valFlt] at HTo
  obtain ⟨k, hk⟩ : ∃ k : Nat, N % 20 = (k : Int) := ⟨(N % 20).toNat, by omega⟩
  have hk20 : k < 20 := by omega
  have HKP := Lib.hid (nest_parse k hk20)
  have HKN := Lib.hid (nest_nums ⟨k, hk20⟩)
  clear hG H
  go_enter Tryd.func6, Tryd.ntmps6
  go_wp2_with fail
  refine (HA.out _ HG.out).mono ?_
  rintro e w1 ⟨rfl, hp⟩
  have HP := Lib.hid hp
  clear hp HA
  have hki : (k : Int) < 20 := by omega
  go_wp2_with fail
  rw [hk]
  have H1 : Hid (DW w (w1.alloc (.cells #[.int .u8 4, .slice none 0 0, .slice none 0 0] 33)) w1.heap.size 4 none 0 0 (nest 0)) :=
    Lib.hid ⟨HP.out.trans' (past_alloc8 _ _), Row.new _ _ _, fun w'' _ => leaf_in 4 (by omega) (Sl.nil w'')⟩
  have hgs := HP.out.size
  clear HP hk
  generalize w1.alloc (.cells #[.int .u8 4, .slice none 0 0, .slice none 0 0] 33) = w2 at *
  generalize w1.heap.size = g at *
  go_loopg [5] k (fun q s5 wx => ∃ i : Nat, i ≤ k ∧ q = k - i ∧ s5 = .int .i64 (i : Int) ∧ Hid (∃ tg K m d, DW w wx g tg K m d (nest i)))
  case atStart => exact ⟨0, Nat.zero_le _, rfl, rfl, Lib.hid ⟨_, _, _, _, H1.out⟩⟩
  case round =>
    clear H1
    obtain ⟨i, hi, hgk, rfl, HQ0⟩ := hrel
    obtain ⟨tg, K, m, d, hq⟩ := HQ0.out
    have HQ := Lib.hid hq
    have HGK := Lib.hid hgk
    clear hgk HQ0 hq
    have f0 : wr.cell? ⟨g, 0, none⟩ = some (.int .u8 tg) := HQ.out.row.cell 0
    have f1 : wr.cell? ⟨g, 1, none⟩ = some (.slice none 0 0) := HQ.out.row.cell 1
    have f2 : wr.cell? ⟨g, 2, none⟩ = some (.slice K m d) := HQ.out.row.cell 2
    by_cases hlt : i < k
    · have hii : (i : Int) < (k : Int) := by omega
      have HN := Lib.hid (HQ.out.step hgs)
      have hra : Row (wr.alloc (.cells #[.int .u8 tg, .slice none 0 0, .slice K m d] 33)) g 33 #[.int .u8 tg, .slice none 0 0, .slice K m d] := HQ.out.row.alloc _
      have hi2 : (Tryd.prog.info? 33).map (·.size) = some (#[.int .u8 48, .slice none 0 0, .slice (some ⟨wr.heap.size, 0, none⟩) 1 1] : Array Value).size := by kernel_rfl
      have ho2 : (#[.int .u8 48, .slice none 0 0, .slice (some ⟨wr.heap.size, 0, none⟩) 1 1] : Array Value).all (·.oneCell') = true := by simp [Value.oneCell']
      clear HQ
      go_wp2_with (refine wpList_store_row rfl 33 _ _ rfl g _ rfl rfl _ _ hra hi2 rfl ho2 ?_)
      go_roundg (k - (i + 1))
      case rel => exact ⟨i + 1, by omega, rfl, by go_num, Lib.hid ⟨_, _, _, _, HN.out⟩⟩
      case measure => have := HGK.out; omega
    · obtain rfl : i = k := by omega
      obtain ⟨hlen, hcnt, hdep⟩ := HKN.out
      have hin : InM wr (.agg #[.int .u8 tg, .slice none 0 0, .slice K m d]) (nest i) := HQ.out.tree wr fun _ _ _ => rfl
      have HT := Lib.hid (rtext_any hin wr (Below.refl _ _) (by omega) (by omega))
      have HPW := Lib.hid HQ.out.past
      have hfit : fits (nest i) := ⟨by omega, by omega, by omega⟩
      have HF := Lib.hid hfit
      have HD := Lib.hid hdep
      have hl1 : (txt (nest i)).length ≤ 1048577 := by omega
      clear HQ hin hlen hcnt hdep hfit HKN
      go_wp2_with fail
      refine HT.out.mono ?_
      rintro e w3 ⟨A, c, rfl, hS, hp⟩
      have H3 := Lib.hid (HPW.out.trans' hp)
      have HX := HPa.out A _ c _ w3 hS hl1
      rw [HKP.out] at HX
      have HXX := Lib.hid HX
      clear hS hp HX HT HPW f0 f1 f2 HKP hl1
      generalize (txt (nest i)).length = L at *
      by_cases h8 : 8 ≤ i
      · rw [if_pos h8] at HXX
        have h8i : (8 : Int) ≤ (i : Int) := by omega
        go_wp2_with fail
        refine HXX.out.mono ?_
        rintro e w4 ⟨x, y, z, rfl, hin, hp⟩
        obtain ⟨tg3, A3, n3, c3, K3, m3, d3, rfl, rfl, rfl⟩ := hin.forms
        have H4 := Lib.hid ((H3.out.trans' hp).trans' (past_alloc8 w4 (.cells #[.int .u8 tg3, .slice A3 n3 c3, .slice K3 m3 d3] 26)))
        clear hin hp H3 HXX
        simp only [valFlt]
        go_wp2_with fail
        generalize w4.alloc (.cells #[.int .u8 tg3, .slice A3 n3 c3, .slice K3 m3 d3] 26) = w5 at *
        refine (HTo.out _ (HG.out.past H4.out)).mono ?_
        rintro e w6 ⟨rfl, hp⟩
        have H6 := Lib.hid (H4.out.trans' hp)
        clear hp H4
        go_wp2_with fail
        go_ret
        exact ⟨rfl, H6.out⟩
      · rw [if_neg h8] at HXX
        have h8i : ¬ (8 : Int) ≤ (i : Int) := by omega
        go_wp2_with fail
        refine HXX.out.mono ?_
        rintro e w4 ⟨x, y, z, rfl, hin, hp⟩
        obtain ⟨tg3, A3, n3, c3, K3, m3, d3, rfl, rfl, rfl⟩ := hin.forms
        have hpn := past_alloc8 w4 (.cells #[.int .u8 tg3, .slice A3 n3 c3, .slice K3 m3 d3] 26)
        have H4 : Hid (Past w (w4.alloc (.cells #[.int .u8 tg3, .slice A3 n3 c3, .slice K3 m3 d3] 26)) ∧ InM (w4.alloc (.cells #[.int .u8 tg3, .slice A3 n3 c3, .slice K3 m3 d3] 26)) (.agg #[.int .u8 tg3, .slice A3 n3 c3, .slice K3 m3 d3]) (nest i)) := Lib.hid ⟨(H3.out.trans' hp).trans' hpn, hin.past hpn⟩
        clear hin hp hpn H3 HXX
        go_wp2_with fail
        generalize w4.alloc (.cells #[.int .u8 tg3, .slice A3 n3 c3, .slice K3 m3 d3] 26) = w5 at *
        refine (HDe.out _ _ _ H4.out.2 HF.out).mono ?_
        rintro e w6 ⟨rfl, hp⟩
        rw [HD.out]
        have H6 := Lib.hid (H4.out.1.trans' hp)
        have hcast : ((i + 1 : Nat) : Int) = (i : Int) + 1 := by omega
        rw [hcast]
        clear hp H4 hcast
        go_wp2_with fail
        go_ret
        exact ⟨rfl, H6.out⟩

theorem walk (H : Prog8) (N : Int) (w : World) (h : (Lit.int .u8 N).wf = true) (hG : Glob w) :
    Calls Tryd.prog 6 #[.int .u8 N] w fun e w' => e = .returned (.bool true) ∧ Past w w' := by
  have hb := bounds_u8 h
  exact walk' H N w (by omega) (by omega) hG

def args0 : Array Value := #[.int .u8 0]
theorem laid_met (os : Os) : laidMetH Tryd.prog Rows.derDeepRow.laid ((laidWorld os).forCall (fun _ _ => 0) ⟨#[], args0, []⟩).memory :=
  laidMetH_of_parts (LaidIn.of_run [] 8 (by kernel_rfl) (by kernel_rfl) (by kernel_rfl) (by kernel_rfl)).met (by kernel_rfl)
theorem witness_row (os : Os) {H : Type} (enc : TypeId × Value → H) :
    (OpenSpec.ofChange Rows.derDeepSpec).preRow enc Tryd.prog Tryd.f6 Rows.derDeepRow.domain false Rows.derDeepRow.laid ((laidWorld os).forCall (fun _ _ => 0) ⟨#[], args0, []⟩).memory args0 := by
  have hw : (DataW.whole enc Tryd.prog ((laidWorld os).forCall (fun _ _ => 0) ⟨#[], args0, []⟩).memory Tryd.f6.params.toList (OpenSpec.ofChange Rows.derDeepSpec).vars false args0.toList 8).map (fun x => (x.1, x.2.1)) =
      some ([.lit (.int .u8 0)], []) := by kernel_rfl
  obtain ⟨⟨x1, x2, x3⟩, hx, hx1⟩ := Option.map_eq_some_iff.1 hw
  simp only [Prod.mk.injEq] at hx1
  obtain ⟨rfl, rfl⟩ := hx1
  exact OpenSpec.preRow_of_cond 8 hx (by kernel_rfl) (fun k hk => by cases hk) (by kernel_rfl) (laid_met os)

set_option maxRecDepth 100000 in
set_option maxHeartbeats 2000000 in
theorem lifted (H8 : Prog8) (os : Os) (started : os.Started) (H : Type) (enc : TypeId × Value → H) (F : Stop.Interp) :
    ReturnsInHanded {} Tryd.checked os 6 .any ((OpenSpec.ofChange Rows.derDeepSpec).preRow enc Tryd.prog Tryd.f6 Rows.derDeepRow.domain false Rows.derDeepRow.laid) (((OpenSpec.ofChange Rows.derDeepSpec).at F).post enc Tryd.prog Tryd.f6 false true false false) := by
  refine returnsInHanded_of_row (C := Tryd.checked) (s := OpenSpec.ofChange Rows.derDeepSpec) own started (by kernel_rfl) Tryd.func6
    (witness_row_atRef (enc := enc) (C := Tryd.checked) false (laidWorld os) args0 rfl (by kernel_rfl) (by kernel_rfl) (by kernel_rfl) (witness_row os enc)) ?_
  intro W base args ds gs before hval0 hW _ _ _ hL hsh _
  have hval : ∀ (j : Nat) t v, Tryd.f6.params[j]? = some t → args[j]? = some v → Value.okWide Tryd.prog W .any base t v := hval0
  have hW' := hW
  obtain ⟨p, q, hA0, hV, rfl, hfz, hnd⟩ := hW
  have hA : DataW.TrodAll enc Tryd.prog W 0 (fun _ => true) true Tryd.f6.params.toList args.toList ds p := hA0
  rw [Tryd.params6] at hA hval
  obtain ⟨v0, vs0, d0, ds0, p0, q0, hargs, rfl, rfl, h0, r0⟩ := trodAll_cons hA
  obtain ⟨rfl, rfl, rfl⟩ := trodAll_nil r0
  obtain rfl : args = #[v0] := by cases args; simp_all
  obtain ⟨rfl, rfl⟩ := trodVars_none hV
  obtain ⟨a0, rfl, rfl, rfl, w0⟩ := open_int Tryd.underlying5 (hval 0 5 v0 rfl rfl) h0
  have hG := glob_of_row hL
  clear hA0 hval0
  refine (walk H8 a0 W w0 hG).mono fun e W' ⟨he, bel⟩ => ?_
  subst he
  exact ⟨_, rfl, _, _, _, [], _, [], hW', trodAll_mk1 (shut_bool Tryd.underlying4 _), (trodAll_cons_mk (shut_int Tryd.underlying5 w0) trodAll_mk0), rfl, bel.frame _, fun h => by cases h⟩

theorem row_holds (H8 : Prog8) : Rows.DerDeepSaid :=
  OpenClaim.holds_of_cond 6 Tryd.f6 rfl rfl rfl rfl rfl rfl rfl ⟨rfl, rfl, rfl, rfl, rfl⟩ rfl rfl rfl rfl rfl (by kernel_rfl) Tryd.func6 (by kernel_rfl)
    (of_decide_eq_true (by kernel_rfl)) (by unfold Func.isWrapper; first | (rw [if_pos (by decide +kernel)]; kernel_rfl) | (rw [if_neg (by decide +kernel)]; exact ⟨rfl, rfl⟩))
    (fun os started H enc _ F0 => by rw [OpenClaim.pre_eq_preRow]; exact lifted H8 os started H enc F0)

theorem card (H8 : Prog8) : Rows.DerDeepCardSaid :=
  Claim7.holds_tied_plain_at .later [] [.handle] true Rows.derDeepCard.stood.harness true
    (row_holds H8) (fun _ h => by cases h) (by kernel_rfl) (fun _ h => by cases h) derDeep_row_tie rfl ⟨rfl, rfl⟩ (by kernel_rfl) rfl
    (fun f fn hf hfn => by
      obtain rfl : f = 6 := Option.some.inj ((show Tryd.prog.funcNamed "pyx/pyxlaw08.DerDeep" = some 6 by kernel_rfl).symm.trans hf) |>.symm
      obtain rfl : fn = Tryd.f6 := (Option.some.inj (Tryd.func6.symm.trans hfn)).symm
      exact ⟨by kernel_rfl, fun j t ht => by
        rw [Tryd.params6] at ht
        obtain rfl : t = 5 := by
          rcases j with _ | j
          · simpa using ht.symm
          · simp at ht
        exact (show Tryd.prog.wantsStandIn 5 = false by kernel_rfl)⟩)
    (by kernel_rfl)

theorem proved : Rows.DerDeepCardSaid := card prog8

end Go.Proofs.YtdpnfojpeafdhaaDoor.derDeep
