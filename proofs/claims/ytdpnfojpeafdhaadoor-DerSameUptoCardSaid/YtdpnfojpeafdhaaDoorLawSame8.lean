/- For every two trees of bulk at most the bound of the second form the law DerSame of package pyxlaw08 returns true and leaves its arguments alone, where the variable errors.errorType holds what the program's text lays. -/
import Derived.Test.YtdpnfojpeafdhaaDoorFrame8T
import Derived.Test.YtdpnfojpeafdhaaDoorD8O
import Derived.Test.YtdpnfojpeafdhaaDoorGiv8
import Derived.Deep.RegionHeld3
import Derived.Deep.MidRow
namespace Go.Proofs.YtdpnfojpeafdhaaDoor.derSame
open Go.RowKit Go.ChangeShapes Go.WideShapes Go.ChangeAt
set_option linter.unusedVariables false

/-- A step of a region that draws its order, with the slot that it writes told: so that the frame stays written out. -/
theorem held_take {P : Program} {md : Region.Mode} {ops : Array Oper} {Q : Exit → Act → World → Prop} {S : World → Prop} {oi : Oper} {v : Value} {fuel : Nat} {listed : Array Bool} {a : Act} {w : World} (i d : Nat) (hi : ops[i]? = some oi) (hd : oi.dst = some d)
    (hs : Region.noSelect ops = true) (hf : Region.free md ops listed i = true) (hr : (Region.ready md ops listed).contains i = true)
    (hQ : ∀ c a w, Q (.panic c) (a.put oi.dst v) w → Q (.panic c) a w) (hy : YieldsIf P ops S oi v a) (hS : S w)
    (h : wpAnyH P md ops Q S fuel (listed.setIfInBounds i true) { a with tmps := a.tmps.setIfInBounds d v } w) : wpAnyH P md ops Q S (fuel + 1) listed a w :=
  wpAnyH_take hi hs hf hr hQ hy hS (by rw [hd]; exact h)
theorem Row.range8 {w : World} {g : Nat} {t : TypeId} {l : List Value} (h : Row w g t ⟨l⟩) : w.rangeAt g 0 l := fun j v hj => by
  rw [Nat.zero_add, h.cell]
  simpa using hj
theorem range_past8 {w w' : World} {g : Nat} {l : List Value} (h : w.rangeAt g 0 l) (hp : Past w w') : w'.rangeAt g 0 l := fun j v hj => by
  have hc := h j v hj
  rw [Below.cell hp (cell_lt hc)]
  exact hc
theorem few_fits {t : T} (h : fewB t = true) : fits t := by
  have h1 := of_decide_eq_true h
  have h2 := few_txt h
  exact ⟨by omega, by omega, by omega⟩

set_option maxHeartbeats 4000000 in
set_option maxRecDepth 100000 in
theorem walk' (H : Prog8) (x y z x2 y2 z2 : Value) (t t2 : T) (w : World) (hin : InM w (.agg #[x, y, z]) t) (hin2 : InM w (.agg #[x2, y2, z2]) t2) (hb : cnt t + wgt t ≤ 1048576) (hb2 : cnt t2 + wgt t2 ≤ 1048576) (hG : Glob w) :
    Calls Tryd.prog 4 #[.agg #[x, y, z], .agg #[x2, y2, z2]] w fun e w' => e = .returned (.bool true) ∧ Past w w' := by
  have HA := Lib.hid (fun w hG => awake8 H w hG)
  have HG := Lib.hid hG
  have HF1 := Lib.hid (fun w1 (hp : Past w w1) => rfew_any hin w1 hp (by omega) (by omega))
  have HF2 := Lib.hid (fun w1 (hp : Past w w1) => rfew_any hin2 w1 hp (by omega) (by omega))
  have HI := Lib.hid (And.intro hin hin2)
  obtain ⟨tg, A, n, c, K, m, d, rfl, rfl, rfl⟩ := hin.forms
  obtain ⟨tg2, A2, n2, c2, K2, m2, d2, rfl, rfl, rfl⟩ := hin2.forms
  have H0 : Hid (Past w ((w.alloc (.cells #[.int .u8 tg, .slice A n c, .slice K m d] 33)).alloc (.cells #[.int .u8 tg2, .slice A2 n2 c2, .slice K2 m2 d2] 33)) ∧ Row ((w.alloc (.cells #[.int .u8 tg, .slice A n c, .slice K m d] 33)).alloc (.cells #[.int .u8 tg2, .slice A2 n2 c2, .slice K2 m2 d2] 33)) w.heap.size 33 #[.int .u8 tg, .slice A n c, .slice K m d] ∧
      Row ((w.alloc (.cells #[.int .u8 tg, .slice A n c, .slice K m d] 33)).alloc (.cells #[.int .u8 tg2, .slice A2 n2 c2, .slice K2 m2 d2] 33)) (w.heap.size + 1) 33 #[.int .u8 tg2, .slice A2 n2 c2, .slice K2 m2 d2]) := by
    refine Lib.hid ⟨(past_alloc8 _ _).trans' (past_alloc8 _ _), (Row.new w _ _).alloc _, ?_⟩
    have := Row.new (w.alloc (.cells #[.int .u8 tg, .slice A n c, .slice K m d] 33)) 33 #[.int .u8 tg2, .slice A2 n2 c2, .slice K2 m2 d2]
    simpa using this
  have HGi := Lib.hid (fun w1 (hp : Past w w1) => given_any hin w1 hp (by omega))
  have HGi2 := Lib.hid (fun w1 (hp : Past w w1) => given_any hin2 w1 hp (by omega))
  have HRS := Lib.hid (fun w1 (hp : Past w w1) => rsame8_any hin _ _ hin2 w1 hp (by omega))
  have HSa := Lib.hid H.same
  clear hG hin hin2 H hb hb2
  go_enter Tryd.func4, Tryd.ntmps4
  go_wp2_with fail
  generalize (w.alloc (.cells #[.int .u8 tg, .slice A n c, .slice K m d] 33)).alloc (.cells #[.int .u8 tg2, .slice A2 n2 c2, .slice K2 m2 d2] 33) = w0 at *
  obtain ⟨g, hg⟩ : ∃ g, w.heap.size = g := ⟨_, rfl⟩
  rw [hg] at H0 ⊢
  clear hg
  refine (HA.out _ (HG.out.past H0.out.1)).mono ?_
  rintro e w1 ⟨rfl, hp⟩
  have H1 : Hid (Past w w1 ∧ Row w1 g 33 #[.int .u8 tg, .slice A n c, .slice K m d] ∧ Row w1 (g + 1) 33 #[.int .u8 tg2, .slice A2 n2 c2, .slice K2 m2 d2]) := Lib.hid ⟨H0.out.1.trans' hp, H0.out.2.1.past hp, H0.out.2.2.past hp⟩
  clear hp H0
  have a0 : w1.cell? ⟨g, 0, none⟩ = some (.int .u8 tg) := H1.out.2.1.cell 0
  have a1 : w1.cell? ⟨g, 1, none⟩ = some (.slice A n c) := H1.out.2.1.cell 1
  have a2 : w1.cell? ⟨g, 2, none⟩ = some (.slice K m d) := H1.out.2.1.cell 2
  go_wp2_with fail
  refine (HF1.out _ H1.out.1).mono ?_
  rintro e w2 ⟨rfl, hp⟩
  have H2 : Hid (Past w w2 ∧ Row w2 g 33 #[.int .u8 tg, .slice A n c, .slice K m d] ∧ Row w2 (g + 1) 33 #[.int .u8 tg2, .slice A2 n2 c2, .slice K2 m2 d2]) := Lib.hid ⟨H1.out.1.trans' hp, H1.out.2.1.past hp, H1.out.2.2.past hp⟩
  clear hp H1 a0 a1 a2 HF1
  cases hf : fewB t with
  | false =>
    clear hf
    go_wp2_with fail
    refine (HA.out _ (HG.out.past H2.out.1)).mono ?_
    rintro e w3 ⟨rfl, hp⟩
    have H3 := Lib.hid (H2.out.1.trans' hp)
    clear hp H2
    go_wp2_with fail
    go_ret
    exact ⟨rfl, H3.out⟩
  | true =>
  have HT1 := Lib.hid (few_fits hf)
  clear hf
  have a0 : w2.cell? ⟨g + 1, 0, none⟩ = some (.int .u8 tg2) := H2.out.2.2.cell 0
  have a1 : w2.cell? ⟨g + 1, 1, none⟩ = some (.slice A2 n2 c2) := H2.out.2.2.cell 1
  have a2 : w2.cell? ⟨g + 1, 2, none⟩ = some (.slice K2 m2 d2) := H2.out.2.2.cell 2
  go_wp2_with fail
  refine (HF2.out _ H2.out.1).mono ?_
  rintro e w3 ⟨rfl, hp⟩
  have H3 : Hid (Past w w3 ∧ Row w3 g 33 #[.int .u8 tg, .slice A n c, .slice K m d] ∧ Row w3 (g + 1) 33 #[.int .u8 tg2, .slice A2 n2 c2, .slice K2 m2 d2]) := Lib.hid ⟨H2.out.1.trans' hp, H2.out.2.1.past hp, H2.out.2.2.past hp⟩
  clear hp H2 a0 a1 a2 HF2
  cases hf : fewB t2 with
  | false =>
    clear hf
    go_wp2_with fail
    refine (HA.out _ (HG.out.past H3.out.1)).mono ?_
    rintro e w4 ⟨rfl, hp⟩
    have H4 := Lib.hid (H3.out.1.trans' hp)
    clear hp H3
    go_wp2_with fail
    go_ret
    exact ⟨rfl, H4.out⟩
  | true =>
    have HT2 := Lib.hid (few_fits hf)
    clear hf HA HG
    go_wp2_with fail
    obtain ⟨lA, hlA⟩ : ∃ l : List Value, [.int .u8 tg, .slice A n c, .slice K m d] = l := ⟨_, rfl⟩
    obtain ⟨lB, hlB⟩ : ∃ l : List Value, [.int .u8 tg2, .slice A2 n2 c2, .slice K2 m2 d2] = l := ⟨_, rfl⟩
    have hiA : (Tryd.prog.info? 33).map (·.size) = some lA.length := by rw [← hlA]; kernel_rfl
    have hiB : (Tryd.prog.info? 33).map (·.size) = some lB.length := by rw [← hlB]; kernel_rfl
    have hvA : (.agg #[.int .u8 tg, .slice A n c, .slice K m d] : Value) = .agg lA.toArray := by rw [← hlA]
    have hvB : (.agg #[.int .u8 tg2, .slice A2 n2 c2, .slice K2 m2 d2] : Value) = .agg lB.toArray := by rw [← hlB]
    have HRB : Hid (w3.drew.rangeAt g 0 lA ∧ w3.drew.rangeAt (g + 1) 0 lB) := by
      rw [← hlA, ← hlB]
      exact Lib.hid ⟨Row.range8 (t := 33) H3.out.2.1, Row.range8 (t := 33) H3.out.2.2⟩
    have HP3 := Lib.hid (H3.out.1.drewN 1)
    rw [hvA] at HGi HRS HI
    rw [hvB] at HGi2 HRS HI
    have huN := Tryd.underlying33
    clear hlA hlB hvA hvB H3
    refine wp_region_held_drew (S := fun w' => w'.rangeAt g 0 lA ∧ w'.rangeAt (g + 1) 0 lB) (by kernel_rfl) HRB.out (fun hH => ?_)
    refine held_take 0 18 rfl rfl (by kernel_rfl) (by kernel_rfl) (by kernel_rfl) (fun _ _ _ h => h) (yieldsIf_load_mid rfl 33 (.tmp 2) rfl g 0 rfl lA _ (fun _ h => h.1) huN rfl hiA) hH ?_
    simp only [List.setIfInBounds_toArray, List.set_cons_zero, List.set_cons_succ]
    refine held_take 2 20 rfl rfl (by kernel_rfl) (by kernel_rfl) (by kernel_rfl) (fun _ _ _ h => h) (yieldsIf_load_mid rfl 33 (.tmp 3) rfl (g + 1) 0 rfl lB _ (fun _ h => h.2) huN rfl hiB) hH ?_
    simp only [List.setIfInBounds_toArray, List.set_cons_zero, List.set_cons_succ]
    refine held_take 5 23 rfl rfl (by kernel_rfl) (by kernel_rfl) (by kernel_rfl) (fun _ _ _ h => h) (yieldsIf_load_mid rfl 33 (.tmp 2) rfl g 0 rfl lA _ (fun _ h => h.1) huN rfl hiA) hH ?_
    simp only [List.setIfInBounds_toArray, List.set_cons_zero, List.set_cons_succ]
    refine held_take 6 24 rfl rfl (by kernel_rfl) (by kernel_rfl) (by kernel_rfl) (fun _ _ _ h => h) (yieldsIf_load_mid rfl 33 (.tmp 3) rfl (g + 1) 0 rfl lB _ (fun _ h => h.2) huN rfl hiB) hH ?_
    simp only [List.setIfInBounds_toArray, List.set_cons_zero, List.set_cons_succ]
    have HR1 := HRB
    have HPz : Hid (Past w w3.drew) := HP3
    clear HRB HP3
    generalize w3.drew = w4 at *
    refine wpAnyH_ready (rs := [1]) (by kernel_rfl) (by simp) ?_
    refine AllReadyH.cons rfl (fun K hK => ?_) AllReadyH.nil
    go_simp
    refine (HGi.out w4 HPz.out).mono ?_
    rintro e w5 ⟨xa, ya, za, rfl, hp, hl⟩
    have HP5 := Lib.hid (HPz.out.trans' hp)
    have HV5 : Hid (InM w5 (.agg #[xa, ya, za]) t) := Lib.hid (hl w5 fun _ _ => rfl)
    refine hK.out _ _ ⟨range_past8 HR1.out.1 hp, range_past8 HR1.out.2 hp⟩ (fun hH => ?_)
    have HR1001 : Hid (w5.rangeAt g 0 lA ∧ w5.rangeAt (g + 1) 0 lB) := Lib.hid hH
    clear hK K hp hl HR1 HPz
    have HR3 := HR1001
    refine wpAnyH_ready (rs := [3]) (by kernel_rfl) (by simp) ?_
    refine AllReadyH.cons rfl (fun K hK => ?_) AllReadyH.nil
    go_simp
    refine (HGi2.out w5 HP5.out).mono ?_
    rintro e w6 ⟨xb, yb, zb, rfl, hp, hl⟩
    have HP6 := Lib.hid (HP5.out.trans' hp)
    have HV6 : Hid (InM w6 (.agg #[xa, ya, za]) t ∧ InM w6 (.agg #[xb, yb, zb]) t2) := Lib.hid ⟨HV5.out.past hp, hl w6 fun _ _ => rfl⟩
    refine hK.out _ _ ⟨range_past8 HR3.out.1 hp, range_past8 HR3.out.2 hp⟩ (fun hH => ?_)
    have HR1003 : Hid (w6.rangeAt g 0 lA ∧ w6.rangeAt (g + 1) 0 lB) := Lib.hid hH
    clear hK K hp hl HR1001 HR3 HP5 HV5
    have HR4 := HR1003
    refine wpAnyH_ready (rs := [4]) (by kernel_rfl) (by simp) ?_
    refine AllReadyH.cons rfl (fun K hK => ?_) AllReadyH.nil
    go_simp
    refine (HSa.out _ t _ t2 w6 HV6.out.1 HV6.out.2 HT1.out HT2.out).mono ?_
    rintro e w7 ⟨r1, rfl, hr1, hp⟩
    have HP7 := Lib.hid (HP6.out.trans' hp)
    refine hK.out _ _ ⟨range_past8 HR4.out.1 hp, range_past8 HR4.out.2 hp⟩ (fun hH => ?_)
    have HR1004 : Hid (w7.rangeAt g 0 lA ∧ w7.rangeAt (g + 1) 0 lB) := Lib.hid hH
    clear hK K hp HR1003 HR4 HP6 HV6
    have HR7 := HR1004
    refine wpAnyH_ready (rs := [7]) (by kernel_rfl) (by simp) ?_
    refine AllReadyH.cons rfl (fun K hK => ?_) AllReadyH.nil
    go_simp
    refine (HRS.out w7 HP7.out).mono ?_
    rintro e w8 ⟨r2, rfl, hr2, hp⟩
    have HP8 := Lib.hid (HP7.out.trans' hp)
    obtain rfl : r1 = r2 := by
      cases r1 <;> cases r2 <;> simp_all
    refine hK.out _ _ ⟨range_past8 HR7.out.1 hp, range_past8 HR7.out.2 hp⟩ (fun hH => ?_)
    have HR1007 : Hid (w8.rangeAt g 0 lA ∧ w8.rangeAt (g + 1) 0 lB) := Lib.hid hH
    clear hK K hp HR1004 HR7 HP7 hr1 hr2
    have HR11 := HR1007
    have hrr : (r1 == r1) = true := by cases r1 <;> rfl
    refine held_take 8 26 (v := .bool true) rfl rfl (by kernel_rfl) (by kernel_rfl) (by kernel_rfl) (fun _ _ _ h => h) (Or.inl ⟨by rfl, fun w _ => by go_simp⟩) hH ?_
    simp only [List.setIfInBounds_toArray, List.set_cons_zero, List.set_cons_succ]
    refine held_take 9 27 (v := .bool true) rfl rfl (by kernel_rfl) (by kernel_rfl) (by kernel_rfl) (fun _ _ _ h => h) (Or.inl ⟨by rfl, fun w _ => by go_simp⟩) hH ?_
    simp only [List.setIfInBounds_toArray, List.set_cons_zero, List.set_cons_succ]
    refine held_take 10 28 rfl rfl (by kernel_rfl) (by kernel_rfl) (by kernel_rfl) (fun _ _ _ h => h) (yieldsIf_load_mid rfl 33 (.tmp 2) rfl g 0 rfl lA _ (fun _ h => h.1) huN rfl hiA) hH ?_
    simp only [List.setIfInBounds_toArray, List.set_cons_zero, List.set_cons_succ]
    refine held_take 12 30 rfl rfl (by kernel_rfl) (by kernel_rfl) (by kernel_rfl) (fun _ _ _ h => h) (yieldsIf_load_mid rfl 33 (.tmp 2) rfl g 0 rfl lA _ (fun _ h => h.1) huN rfl hiA) hH ?_
    simp only [List.setIfInBounds_toArray, List.set_cons_zero, List.set_cons_succ]
    refine wpAnyH_ready (rs := [11]) (by kernel_rfl) (by simp) ?_
    refine AllReadyH.cons rfl (fun K hK => ?_) AllReadyH.nil
    go_simp
    refine (HGi.out w8 HP8.out).mono ?_
    rintro e w9 ⟨xc, yc, zc, rfl, hp, hl⟩
    have HP9 := Lib.hid (HP8.out.trans' hp)
    have HV9 : Hid (InM w9 (.agg #[xc, yc, zc]) t) := Lib.hid (hl w9 fun _ _ => rfl)
    refine hK.out _ _ ⟨range_past8 HR11.out.1 hp, range_past8 HR11.out.2 hp⟩ (fun hH => ?_)
    have HR1011 : Hid (w9.rangeAt g 0 lA ∧ w9.rangeAt (g + 1) 0 lB) := Lib.hid hH
    clear hK K hp hl HR1007 HR11 HP8
    have HR13 := HR1011
    refine wpAnyH_ready (rs := [13]) (by kernel_rfl) (by simp) ?_
    refine AllReadyH.cons rfl (fun K hK => ?_) AllReadyH.nil
    go_simp
    refine (HGi.out w9 HP9.out).mono ?_
    rintro e w10 ⟨xd, yd, zd, rfl, hp, hl⟩
    have HP10 := Lib.hid (HP9.out.trans' hp)
    have HV10 : Hid (InM w10 (.agg #[xc, yc, zc]) t ∧ InM w10 (.agg #[xd, yd, zd]) t) := Lib.hid ⟨HV9.out.past hp, hl w10 fun _ _ => rfl⟩
    refine hK.out _ _ ⟨range_past8 HR13.out.1 hp, range_past8 HR13.out.2 hp⟩ (fun hH => ?_)
    have HR1013 : Hid (w10.rangeAt g 0 lA ∧ w10.rangeAt (g + 1) 0 lB) := Lib.hid hH
    clear hK K hp hl HR1011 HR13 HP9 HV9
    have HR14 := HR1013
    refine wpAnyH_ready (rs := [14]) (by kernel_rfl) (by simp) ?_
    refine AllReadyH.cons rfl (fun K hK => ?_) AllReadyH.nil
    go_simp
    refine (HSa.out _ t _ t w10 HV10.out.1 HV10.out.2 HT1.out HT1.out).mono ?_
    rintro e w11 ⟨r3, rfl, hr3, hp⟩
    have HP11 := Lib.hid (HP10.out.trans' hp)
    obtain rfl : r3 = true := hr3.2 (by trivial)
    refine hK.out _ _ ⟨range_past8 HR14.out.1 hp, range_past8 HR14.out.2 hp⟩ (fun hH => ?_)
    have HR1014 : Hid (w11.rangeAt g 0 lA ∧ w11.rangeAt (g + 1) 0 lB) := Lib.hid hH
    clear hK K hp HR1013 HR14 HP10 HV10
    refine held_take 15 33 (v := .bool true) rfl rfl (by kernel_rfl) (by kernel_rfl) (by kernel_rfl) (fun _ _ _ h => h) (Or.inl ⟨by rfl, fun w _ => by go_simp⟩) hH ?_
    simp only [List.setIfInBounds_toArray, List.set_cons_zero, List.set_cons_succ]
    refine held_take 16 4 (v := .bool true) rfl rfl (by kernel_rfl) (by kernel_rfl) (by kernel_rfl) (fun _ _ _ h => h) (Or.inl ⟨by rfl, fun w _ => by go_simp⟩) hH ?_
    simp only [List.setIfInBounds_toArray, List.set_cons_zero, List.set_cons_succ]
    refine wpAnyH_done (by kernel_rfl) ?_ _
    go_wp2_with fail
    go_ret
    exact ⟨rfl, HP11.out⟩

theorem walk (H : Prog8) (x y z : Value) (t : T) (x2 y2 z2 : Value) (t2 : T) (w : World) (hin : InM w (.agg #[x, y, z]) t) (hb : cnt t + wgt t ≤ 1048576) (hin2 : InM w (.agg #[x2, y2, z2]) t2) (hb2 : cnt t2 + wgt t2 ≤ 1048576) (hG : Glob w) :
    Calls Tryd.prog 4 #[.agg #[x, y, z], .agg #[x2, y2, z2]] w fun e w' => e = .returned (.bool true) ∧ Past w w' := walk' H x y z x2 y2 z2 t t2 w hin hin2 hb hb2 hG

def args0 : Array Value := #[.agg #[.int .u8 0, .slice none 0 0, .slice none 0 0], .agg #[.int .u8 0, .slice none 0 0, .slice none 0 0]]
theorem laid_met (os : Os) : laidMetH Tryd.prog Rows.derSameUptoRow.laid ((laidWorld os).forCall (fun _ _ => 0) ⟨#[], args0, []⟩).memory :=
  laidMetH_of_parts (LaidIn.of_run [] 8 (by kernel_rfl) (by kernel_rfl) (by kernel_rfl) (by kernel_rfl)).met (by kernel_rfl)
theorem witness_row (os : Os) {H : Type} (enc : TypeId × Value → H) :
    (Rows.OpenSpec.upto Rows.derSameSpec).preRow enc Tryd.prog Tryd.f4 Rows.derSameUptoRow.domain false Rows.derSameUptoRow.laid ((laidWorld os).forCall (fun _ _ => 0) ⟨#[], args0, []⟩).memory args0 := by
  have hw : (DataW.whole enc Tryd.prog ((laidWorld os).forCall (fun _ _ => 0) ⟨#[], args0, []⟩).memory Tryd.f4.params.toList (Rows.OpenSpec.upto Rows.derSameSpec).vars false args0.toList 8).map (fun x => (x.1, x.2.1)) =
      some ([.agg [.lit (.int .u8 0), .nil, .nil], .agg [.lit (.int .u8 0), .nil, .nil]], []) := by kernel_rfl
  obtain ⟨⟨x1, x2, x3⟩, hx, hx1⟩ := Option.map_eq_some_iff.1 hw
  simp only [Prod.mk.injEq] at hx1
  obtain ⟨rfl, rfl⟩ := hx1
  exact OpenSpec.preRow_of_cond 8 hx (by kernel_rfl) (fun k hk => by cases hk; rfl) (by kernel_rfl) (laid_met os)

set_option maxRecDepth 100000 in
set_option maxHeartbeats 2000000 in
theorem lifted (H8 : Prog8) (os : Os) (started : os.Started) (H : Type) (enc : TypeId × Value → H) (F : Stop.Interp) :
    ReturnsInHanded {} Tryd.checked os 4 .any ((Rows.OpenSpec.upto Rows.derSameSpec).preRow enc Tryd.prog Tryd.f4 Rows.derSameUptoRow.domain false Rows.derSameUptoRow.laid) (((Rows.OpenSpec.upto Rows.derSameSpec).at F).post enc Tryd.prog Tryd.f4 false true false false) := by
  refine returnsInHanded_of_row (C := Tryd.checked) (s := Rows.OpenSpec.upto Rows.derSameSpec) own started (by kernel_rfl) Tryd.func4
    (witness_row_atRef (enc := enc) (C := Tryd.checked) false (laidWorld os) args0 rfl (by kernel_rfl) (by kernel_rfl) (by kernel_rfl) (witness_row os enc)) ?_
  intro W base args ds gs before hval0 hW _ hcnd _ hL hsh _
  have hval : ∀ (j : Nat) t v, Tryd.f4.params[j]? = some t → args[j]? = some v → Value.okWide Tryd.prog W .any base t v := hval0
  have hW' := hW
  obtain ⟨p, q, hA0, hV, rfl, hfz, hnd⟩ := hW
  have hA : DataW.TrodAll enc Tryd.prog W 0 (fun _ => true) true Tryd.f4.params.toList args.toList ds p := hA0
  rw [Tryd.params4] at hA hval
  obtain ⟨v0, vs0, d0, ds0, p0, q0, hargs, rfl, rfl, h0, r0⟩ := trodAll_cons hA
  obtain ⟨v1, vs1, d1, ds1, p1, q1, rfl, rfl, rfl, h1, r1⟩ := trodAll_cons r0
  obtain ⟨rfl, rfl, rfl⟩ := trodAll_nil r1
  obtain rfl : args = #[v0, v1] := by cases args; simp_all
  obtain ⟨rfl, rfl⟩ := trodVars_none hV
  have hbulk := bulk_small (hcnd _ rfl)
  simp only [List.append_nil, Rows.uptoBulkAll] at hbulk
  have k0 := h0
  have lt0 : ∀ x ∈ p0, x.block < W.heap.size := by obtain ⟨m, hm⟩ := k0; exact DataW.trod_lt m _ _ _ hm
  obtain ⟨x0, y0, z0, t0, rfl, w0, b0⟩ := tree_of (hval 0 33 v0 rfl rfl) h0
  have k1 := h1
  have lt1 : ∀ x ∈ p1, x.block < W.heap.size := by obtain ⟨m, hm⟩ := k1; exact DataW.trod_lt m _ _ _ hm
  obtain ⟨x1, y1, z1, t1, rfl, w1, b1⟩ := tree_of (hval 1 33 v1 rfl rfl) h1
  have hG := glob_of_row hL
  clear hA0 hval0
  refine (walk H8 x0 y0 z0 t0 x1 y1 z1 t1 W w0 (by omega) w1 (by omega) hG).mono fun e W' ⟨he, bel⟩ => ?_
  subst he
  exact ⟨_, rfl, _, _, _, [], _, [], hW', trodAll_mk1 (shut_bool Tryd.underlying4 _), (trodAll_cons_mk (Below.trod laidOut (by kernel_rfl) (of_decide_eq_true (by kernel_rfl)) k0 bel lt0) (trodAll_cons_mk (Below.trod laidOut (by kernel_rfl) (of_decide_eq_true (by kernel_rfl)) k1 bel lt1) trodAll_mk0)), rfl, bel.frame _, fun h => by cases h⟩

theorem row_holds (H8 : Prog8) : Rows.DerSameUptoSaid :=
  OpenClaim.holds_of_cond 4 Tryd.f4 rfl rfl rfl rfl rfl rfl rfl ⟨rfl, rfl, rfl, rfl, rfl⟩ rfl rfl rfl rfl rfl (by kernel_rfl) Tryd.func4 (by kernel_rfl)
    (of_decide_eq_true (by kernel_rfl)) (by unfold Func.isWrapper; first | (rw [if_pos (by decide +kernel)]; kernel_rfl) | (rw [if_neg (by decide +kernel)]; exact ⟨rfl, rfl⟩))
    (fun os started H enc _ F0 => by rw [OpenClaim.pre_eq_preRow]; exact lifted H8 os started H enc F0)

theorem card (H8 : Prog8) : Rows.DerSameUptoCardSaid :=
  Claim7.holds_tied_plain_at .later [] [.handle] true Rows.derSameUptoCard.stood.harness true
    (row_holds H8) (fun _ h => by cases h) (by kernel_rfl) (fun _ h => by cases h) derSameUpto_row_tie rfl ⟨rfl, rfl⟩ (by kernel_rfl) rfl
    (fun f fn hf hfn => by
      obtain rfl : f = 4 := Option.some.inj ((show Tryd.prog.funcNamed "pyx/pyxlaw08.DerSame" = some 4 by kernel_rfl).symm.trans hf) |>.symm
      obtain rfl : fn = Tryd.f4 := (Option.some.inj (Tryd.func4.symm.trans hfn)).symm
      exact ⟨by kernel_rfl, fun j t ht => by
        rw [Tryd.params4] at ht
        obtain rfl : t = 33 := by
          rcases j with _ | _ | j
          · simpa using ht.symm
          · simpa using ht.symm
          · simp at ht
        exact (show Tryd.prog.wantsStandIn 33 = false by kernel_rfl)⟩)
    (by kernel_rfl)

theorem proved : Rows.DerSameUptoCardSaid := card prog8

end Go.Proofs.YtdpnfojpeafdhaaDoor.derSame
