/- For every byte and every number that picks a rate the law HashLimits of package pyxlaw07 returns true; there is no further condition. -/
import Derived.Test.YtamgbkadiobklaaLawMatch7
import Derived.Test.YtamgbkadiobklaaImp7
namespace Go.Proofs.Ytamgbkadiobklaa.hashLimits
open Go.ChangeShapes Go.WideShapes Go.ChangeAt Go.RowKit
open hashMatchesReference (slice32 slice64 Sl.ofHsh)
set_option linter.unusedVariables false

def rateAt (r : Nat) : Nat := [136, 72, 168].getD r 0
theorem rate_cell (r : Nat) (h : r < 3) : (#[Value.int .i64 136, .int .i64 72, .int .i64 168] : Array Value)[r]? = some (.int .i64 (rateAt r : Int)) := by
  have : r = 0 ∨ r = 1 ∨ r = 2 := by omega
  rcases this with rfl | rfl | rfl <;> rfl
theorem rate_rng (r : Nat) (h : r < 3) : 72 ≤ rateAt r ∧ rateAt r ≤ 168 := by
  have : r = 0 ∨ r = 1 ∨ r = 2 := by omega
  rcases this with rfl | rfl | rfl <;> decide

/-- What stands behind the inner loop: N bytes of the call's own. -/
def Bs (w wx : World) (v : Value) (i : Nat) (c : Int) : Prop := wx.ownsRow w.heap.size 5 1 v i ((List.replicate i c).map (Value.int .u8)) ∧ Past w wx

set_option maxHeartbeats 4000000 in
theorem walk (H : Prog7) (c : Int) (q : Int) (w : World) (hc : (Lit.int .u8 c).wf = true) (hq : (Lit.int .u8 q).wf = true) :
    Calls Try.prog 6 #[.int .u8 c, .int .u8 q] w fun e w' => e = .returned (.bool true) ∧ Past w w' := by
  have HA := Lib.hid (awake_any H)
  have hcb := bounds_u8 hc
  have hqb := bounds_u8 hq
  obtain ⟨qn, rfl⟩ : ∃ qn : Nat, q = (qn : Int) := ⟨q.toNat, by omega⟩
  obtain ⟨r, hr⟩ : ∃ r, qn % 3 = r := ⟨_, rfl⟩
  have hri : (qn : Int) % 3 = (r : Int) := by omega
  have hr3 : (r : Int) < 3 := by omega
  obtain ⟨hR1, hR2⟩ := rate_rng r (by omega)
  have hcell := rate_cell r (by omega)
  have HCB := Lib.hid hcb
  obtain ⟨i8, hi8, hz80, hz81, hz82⟩ := info_parts info8
  generalize rateAt r = R at *
  obtain ⟨M, rfl⟩ : ∃ M, R = M + 2 := ⟨R - 2, by omega⟩
  clear hc hq hr hcb
  go_enter Try.func6, Try.ntmps6
  go_wp2_with fail
  refine (HA.out _).mono ?_
  rintro e w1 ⟨rfl, hp⟩
  have hk := (Row.new w1 3 #[.int .i64 136, .int .i64 72, .int .i64 168]).cell r
  rw [hcell] at hk
  have H1 := Lib.hid (hp.trans' (past_alloc6 w1 (.cells #[.int .i64 136, .int .i64 72, .int .i64 168] 3)))
  clear hp hcell
  go_wp2_with fail
  generalize w1.alloc (Obj.cells #[Value.int .i64 136, .int .i64 72, .int .i64 168] 3) = w2 at *
  clear hk hri hr3 hqb
  go_loopg [6] (M + 4 - M) (fun k s6 wx => ∃ N : Nat, M ≤ N ∧ N ≤ M + 4 ∧ k = M + 4 - N ∧ s6 = .int .i64 (N : Int) ∧ Hid (Past w wx))
  case atStart => exact ⟨M, by omega, by omega, rfl, rfl, H1⟩
  case round =>
    clear H1
    obtain ⟨N, hN1, hN2, hgk, rfl, HQ⟩ := hrel
    have HGK := Lib.hid hgk
    clear hgk
    by_cases hlt : N < M + 4
    · have hlb : decide ((N : Int) ≤ (M : Int) + 2 + 1) = true := by simp; omega
      have hlb2 : decide ((N : Int) ≤ (M : Int) + 3) = true := by simp; omega
      go_wp2_with fail
      go_loopg [7, 8] N (fun k s7 s8 wx => ∃ i : Nat, i ≤ N ∧ k = N - i ∧ s8 = .int .i64 (i : Int) ∧ Hid (Bs w wx s7 i c))
      case atStart => exact ⟨0, Nat.zero_le _, rfl, rfl, Lib.hid ⟨⟨rfl, .inl ⟨rfl, rfl⟩⟩, HQ.out⟩⟩
      case round =>
        clear HQ
        obtain ⟨i, hi, hgk, rfl, HO⟩ := hrel
        have HGK2 := Lib.hid hgk
        clear hgk
        obtain ⟨BA, bc, rfl⟩ := own_slice HO.out.1
        by_cases hlt2 : i < N
        · go_wp2_with (at_builtin; refine wpList_append_own _ rfl _ _ 23 rfl w.heap.size 5 i8 (.int .u8 0) 1 1 Try.underlying23 hi8 hz80 hz81 hz82 rfl (by decide) _ i _ rfl (HO.out.1.alloc _) ⟨wr.heap.size, 0, none⟩ 1 1 [.int .u8 c] rfl rfl ?d1 ?d2 ?d3 ?d4 ?d5 ?_)
          case d1 => exact one_cell wr _ _
          case d2 => simp [Value.oneCell']
          case d3 => unfold maxLen; omega
          case d4 => omega
          case d5 => exact Nat.le_trans HO.out.2.size (by simp)
          intro v' w3 hown hgrow _
          have HO2 : Hid (Bs w w3 v' (i + 1) c) := by
            refine Lib.hid ⟨?_, (HO.out.2.trans' ((Below.refl _ _).alloc (Nat.le_refl _) _)).grown hgrow (Nat.le_trans HO.out.2.size (by simp)) (own_block_ge HO.out.1)⟩
            rw [List.replicate_succ', List.map_append, List.map_replicate]
            exact hown
          clear hown hgrow HO
          go_wp2_with fail
          go_roundg (N - (i + 1))
          case rel => exact ⟨i + 1, by omega, rfl, by go_num, HO2⟩
          case measure => have := HGK2.out; omega
        · obtain rfl : i = N := by omega
          have hxl : (List.replicate i c).length = i := List.length_replicate
          have hxr : ∀ x ∈ List.replicate i c, 0 ≤ x ∧ x < 256 := fun x hx => by have := HCB.out; rw [List.eq_of_mem_replicate hx]; omega
          have hsl := Sl.of_own HO.out.1 hxr
          have HB : Hid (Past w wr ∧ Sl wr BA i bc (List.replicate i c)) := Lib.hid ⟨HO.out.2, hsl⟩
          have hcl : (cat (fun _ => List.replicate i c) 1).length ≤ 1000 := by rw [cat_one, hxl]; omega
          have ha := fun wx (hp : Past wr wx) => H.sha256 _ 1 1 _ _ _ _ (Sls.one wx 23 (HB.out.2.past hp)) (by omega) hcl
          have hb := fun wx (hp : Past wr wx) => H.sha512 _ 1 1 _ _ _ _ (Sls.one wx 23 (HB.out.2.past hp)) (by omega) hcl
          have hc1 := fun wx (hp : Past wr wx) => H.shake128 9 _ 1 1 _ _ _ _ (Sls.one wx 23 (HB.out.2.past hp)) (by omega) hcl (by omega)
          have hd1 := fun wx (hp : Past wr wx) => H.shake256 9 _ 1 1 _ _ _ _ (Sls.one wx 23 (HB.out.2.past hp)) (by omega) hcl (by omega)
          have e9 : (9 : Int).toNat = 9 := rfl
          simp only [cat_one, e9] at ha hb hc1 hd1
          have hxe := fun wx (hp : Past wr wx) => rshake128_any 9 BA i bc (List.replicate i c) wx (HB.out.2.past hp) (by omega) (by omega)
          have hxf := fun wx (hp : Past wr wx) => rshake256_any 9 BA i bc (List.replicate i c) wx (HB.out.2.past hp) (by omega) (by omega)
          have hxg := fun wx (hp : Past wr wx) => rsha256_any BA i bc (List.replicate i c) wx (HB.out.2.past hp) (by omega)
          have hxh := fun wx (hp : Past wr wx) => rsha512_any BA i bc (List.replicate i c) wx (HB.out.2.past hp) (by omega)
          simp only [e9] at hxe hxf
          generalize List.replicate i c = xs at *
          have hi1 : (Try.prog.info? 27).map (·.size) = some (hsh xs 136 6 32).size := by unfold hsh; rw [arr_size]; kernel_rfl
          have hs1 : (arr .u8 32 fun _ => 0).size = (hsh xs 136 6 32).size := by unfold hsh; rw [arr_size, arr_size]
          have ho1 : (hsh xs 136 6 32).all (·.oneCell') = true := arr_one .u8 32 _
          have hi2 : (Try.prog.info? 29).map (·.size) = some (hsh xs 72 6 64).size := by unfold hsh; rw [arr_size]; kernel_rfl
          have hs2 : (arr .u8 64 fun _ => 0).size = (hsh xs 72 6 64).size := by unfold hsh; rw [arr_size, arr_size]
          have ho2 : (hsh xs 72 6 64).all (·.oneCell') = true := arr_one .u8 64 _
          have HR1 : Hid (∀ w g, Row w g 27 (hsh xs 136 6 32) → Sl w (some ⟨g, 0, none⟩) 32 32 (bl (rout (rstate xs 136 6) 136) 32)) := Lib.hid fun w g h => Sl.ofHsh h (by omega)
          have HR2 : Hid (∀ w g, Row w g 29 (hsh xs 72 6 64) → Sl w (some ⟨g, 0, none⟩) 64 64 (bl (rout (rstate xs 72 6) 72) 64)) := Lib.hid fun w g h => Sl.ofHsh h (by omega)
          have HA1 := Lib.hid ha
          have HB1 := Lib.hid hb
          have HC1 := Lib.hid hc1
          have HD1 := Lib.hid hd1
          have HE1 := Lib.hid hxe
          have HF1 := Lib.hid hxf
          have HG1 := Lib.hid hxg
          have HH1 := Lib.hid hxh
          clear ha hb hc1 hd1 hxe hxf hxg hxh e9 hcl hxl hxr hsl HO HGK2
          generalize hsh xs 136 6 32 = ca at *
          generalize hsh xs 72 6 64 = cb at *
          generalize bl (rout (rstate xs 136 6) 136) 32 = y1 at *
          generalize bl (rout (rstate xs 72 6) 72) 64 = y2 at *
          generalize bl (rout (rstate xs 168 31) 168) 9 = y3 at *
          generalize bl (rout (rstate xs 136 31) 136) 9 = y4 at *
          go_wp2_with fail
          refine (HA1.out wr (Below.refl _ _)).mono ?_
          rintro e w3 ⟨rfl, hp⟩
          have H3 := Lib.hid ((past_alloc6 wr (.cells #[.slice BA i bc] 23)).trans' hp)
          clear hp HA1
          have hz := zero32
          have hn1 := heap_alloc_new w3 (.cells (arr .u8 32 fun _ => 0) 27)
          obtain ⟨w4, hw4⟩ : ∃ w4, w4 = w3.alloc (.cells ca 27) := ⟨_, rfl⟩
          have H4 : Hid (Past wr w4 ∧ Row w4 w3.heap.size 27 ca) := by
            rw [hw4]
            exact ⟨H3.out.trans' (past_alloc6 _ _), Row.new _ _ _⟩
          have HW4 := Lib.hid hw4
          clear hw4 H3
          go_wp2_with (refine wpList_store_row rfl 27 _ _ rfl w3.heap.size _ rfl rfl _ _ hn1 hi1 hs1 ho1 ?_; rw [World.setRow_alloc_new, ← HW4.out])
          clear HW4 hn1 hz hi1 hs1 ho1
          generalize w3.heap.size = p at *
          refine (HB1.out w4 H4.out.1).mono ?_
          rintro e w5 ⟨rfl, hp⟩
          have H5 : Hid (Past wr w5 ∧ Row w5 p 27 ca) := Lib.hid ⟨(H4.out.1.trans' (past_alloc6 w4 (.cells #[.slice BA i bc] 23))).trans' hp, H4.out.2.past ((past_alloc6 w4 (.cells #[.slice BA i bc] 23)).trans' hp)⟩
          clear hp HB1 H4
          have hz := zero64
          have hn1 := heap_alloc_new w5 (.cells (arr .u8 64 fun _ => 0) 29)
          obtain ⟨w6, hw6⟩ : ∃ w6, w6 = w5.alloc (.cells cb 29) := ⟨_, rfl⟩
          have H6 : Hid (Past wr w6 ∧ Row w6 p 27 ca ∧ Row w6 w5.heap.size 29 cb) := by
            rw [hw6]
            exact ⟨H5.out.1.trans' (past_alloc6 _ _), H5.out.2.alloc _, Row.new _ _ _⟩
          have HW6 := Lib.hid hw6
          clear hw6 H5
          have hsl := slice32 p
          have hsl2 := slice64 w5.heap.size
          go_wp2_with (refine wpList_store_row rfl 29 _ _ rfl w5.heap.size _ rfl rfl _ _ hn1 hi2 hs2 ho2 ?_; rw [World.setRow_alloc_new, ← HW6.out])
          have hp6 := H6.out.1
          have hr6 := HR1.out w6 p H6.out.2.1
          have hq6 := HR2.out w6 w5.heap.size H6.out.2.2
          have hpd : Past w6 w6.drew := Past.ofDrewN w6 1
          have HT : Hid (∀ wx, Past w6 wx → Past w wx ∧ True ∧ Sl wx (some ⟨p, 0, none⟩) 32 32 y1 ∧ Sl wx (some ⟨w5.heap.size, 0, none⟩) 64 64 y2) :=
            Lib.hid fun wx hp => ⟨(HB.out.1.trans' hp6).trans' hp, trivial, hr6.past hp, hq6.past hp⟩
          have HX1 : Hid (∀ wx, Past w6 wx → Calls Try.prog 13 #[.slice BA i bc] wx (Outs y1 32 wx)) := Lib.hid fun wx hp => HG1.out wx (hp6.trans' hp)
          have HX2 : Hid (∀ wx, Past w6 wx → Calls Try.prog 14 #[.slice BA i bc] wx (Outs y2 64 wx)) := Lib.hid fun wx hp => HH1.out wx (hp6.trans' hp)
          have HX3 : Hid (∀ wx, Past w6 wx → Calls Try.prog 16 #[.int .i64 9, .slice BA i bc] wx (Outs y3 9 wx)) := Lib.hid fun wx hp => HE1.out wx (hp6.trans' hp)
          have HX4 : Hid (∀ wx, Past w6 wx → Calls Try.prog 18 #[.int .i64 9, .slice BA i bc] wx (Outs y4 9 wx)) := Lib.hid fun wx hp => HF1.out wx (hp6.trans' hp)
          have HY1 : Hid (∀ wx, Past w6 wx → Calls Try.prog 15 #[.int .i64 9, .slice (some ⟨wx.heap.size, 0, none⟩) 1 1] (wx.alloc (.cells #[.slice BA i bc] 23)) (Outs y3 9 (wx.alloc (.cells #[.slice BA i bc] 23)))) := Lib.hid fun wx hp => HC1.out wx (hp6.trans' hp)
          have HY2 : Hid (∀ wx, Past w6 wx → Calls Try.prog 17 #[.int .i64 9, .slice (some ⟨wx.heap.size, 0, none⟩) 1 1] (wx.alloc (.cells #[.slice BA i bc] 23)) (Outs y4 9 (wx.alloc (.cells #[.slice BA i bc] 23)))) := Lib.hid fun wx hp => HD1.out wx (hp6.trans' hp)
          clear H6 HW6 hn1 hz hi2 hs2 ho2 hp6 hr6 hq6 HR1 HR2 HB HC1 HD1 HE1 HF1 HG1 HH1 HA
          generalize w5.heap.size = q at *
          go_region_law (first
            | (go_simp; go_at_call 13; (with_reducible refine (HX1.out w6.drew hpd).mono ?_); rintro e7 w7 ⟨B1, d1, rfl, hs7, hp7⟩; have HP7 := Lib.hid (hpd.trans' hp7); have HS7 := Lib.hid hs7; clear hs7 hp7)
            | (go_simp; go_at_call 12; (with_reducible refine (rsame_self _ _ _ _ _ _ _ (HT.out _ HP7.out).2.2.1 HS7.out).mono ?_); rintro e8 w8 ⟨rfl, m8, hw8⟩; have HP8 : Hid (Past w6 w8) := (by rw [hw8]; exact Lib.hid (HP7.out.drewN m8)); clear hw8)
            | (go_simp; go_at_call 14; (with_reducible refine (HX2.out _ HP8.out).mono ?_); rintro e9 w9 ⟨B2, d2, rfl, hs9, hp9⟩; have HS9 := Lib.hid hs9; have HP9 := Lib.hid (HP8.out.trans' hp9); clear hs9 hp9)
            | (go_simp; go_at_call 12; (with_reducible refine (rsame_self _ _ _ _ _ _ _ (HT.out _ HP9.out).2.2.2 HS9.out).mono ?_); rintro e10 w10 ⟨rfl, m10, hw10⟩; have HP10 : Hid (Past w6 w10) := (by rw [hw10]; exact Lib.hid (HP9.out.drewN m10)); clear hw10)
            | (go_simp; go_at_call 15; (with_reducible refine (HY1.out _ HP10.out).mono ?_); rintro e11 w11 ⟨B3, d3, rfl, hs11, hp11⟩; have HS11 := Lib.hid hs11; have HP11 := Lib.hid ((HP10.out.trans' (past_alloc6 _ _)).trans' hp11); clear hs11 hp11)
            | (go_simp; go_at_call 16; (with_reducible refine (HX3.out _ HP11.out).mono ?_); rintro e12 w12 ⟨B4, d4, rfl, hs12, hp12⟩; have HS12 := Lib.hid hs12; have HT12 := Lib.hid (HS11.out.past hp12); have HP12 := Lib.hid (HP11.out.trans' hp12); clear hs12 hp12)
            | (go_simp; go_at_call 12; (with_reducible refine (rsame_self _ _ _ _ _ _ _ HT12.out HS12.out).mono ?_); rintro e13 w13 ⟨rfl, m13, hw13⟩; have HP13 : Hid (Past w6 w13) := (by rw [hw13]; exact Lib.hid (HP12.out.drewN m13)); clear hw13)
            | (go_simp; go_at_call 17; (with_reducible refine (HY2.out _ HP13.out).mono ?_); rintro e14 w14 ⟨B5, d5, rfl, hs14, hp14⟩; have HS14 := Lib.hid hs14; have HP14 := Lib.hid ((HP13.out.trans' (past_alloc6 _ _)).trans' hp14); clear hs14 hp14)
            | (go_simp; go_at_call 18; (with_reducible refine (HX4.out _ HP14.out).mono ?_); rintro e15 w15 ⟨B6, d6, rfl, hs15, hp15⟩; have HS15 := Lib.hid hs15; have HT15 := Lib.hid (HS14.out.past hp15); have HP15 := Lib.hid (HP14.out.trans' hp15); clear hs15 hp15)
            | (go_simp; go_at_call 12; (with_reducible refine (rsame_self _ _ _ _ _ _ _ HT15.out HS15.out).mono ?_); rintro e16 w16 ⟨rfl, m16, hw16⟩; have HP16 : Hid (Past w6 w16) := (by rw [hw16]; exact Lib.hid (HP15.out.drewN m16)); clear hw16))
          all_goals
            go_wp2_with fail
            go_roundg (M + 4 - (i + 1))
            case rel => exact ⟨i + 1, by omega, by omega, rfl, by go_num, Lib.hid (HT.out _ HP16.out).1⟩
            case measure => have := HGK.out; omega
    · obtain rfl : N = M + 4 := by omega
      have hlb : decide (((M + 4 : Nat) : Int) ≤ (M : Int) + 2 + 1) = false := decide_eq_false (by omega)
      have hlb2 : decide ((M : Int) + 4 ≤ (M : Int) + 3) = false := decide_eq_false (by omega)
      go_wp2_with fail
      go_ret
      exact ⟨rfl, HQ.out⟩

set_option maxRecDepth 100000 in
theorem lifted (H7 : Prog7) (os : Os) (started : os.Started) (H : Type) (enc : TypeId × Value → H) :
    ReturnsInHanded {} Try.checked os 6 .any (Rows.hashLimitsSpec.pre6 enc Try.prog Try.f6 Rows.hashLimitsRow.domain false) (Rows.hashLimitsSpec.post enc Try.prog Try.f6 false true false false) := by
  refine returnsInHanded_of_change (C := Try.checked) own started (by kernel_rfl) Try.func6
    (ChangeSpec.witness6 (enc := enc) (C := Try.checked) false ⟨#[], #[.int .u8 0, .int .u8 0], []⟩ 8 (by kernel_rfl) (by kernel_rfl) (by kernel_rfl) (by kernel_rfl)) ?_
  intro W base args ds gs before hval0 hW hcnd _
  have hval : ∀ (j : Nat) t v, Try.f6.params[j]? = some t → args[j]? = some v → Value.okWide Try.prog W .any base t v := hval0
  have hW' := hW
  obtain ⟨p, q, hA0, hV, rfl, hfz, hnd⟩ := hW
  have hA : DataW.TrodAll enc Try.prog W 0 (fun _ => true) true Try.f6.params.toList args.toList ds p := hA0
  rw [Try.params6] at hA hval
  obtain ⟨v0, vs0, d0, ds0, p0, q0, hargs, rfl, rfl, h0, r0⟩ := trodAll_cons hA
  obtain ⟨v1, vs1, d1, ds1, p1, q1, rfl, rfl, rfl, h1, r1⟩ := trodAll_cons r0
  obtain ⟨rfl, rfl, rfl⟩ := trodAll_nil r1
  obtain rfl : args = #[v0, v1] := by cases args; simp_all
  obtain ⟨rfl, rfl⟩ := trodVars_none hV
  obtain ⟨a0, rfl, rfl, rfl, w0⟩ := open_int Try.underlying5 (hval 0 5 v0 rfl rfl) h0
  obtain ⟨a1, rfl, rfl, rfl, w1⟩ := open_int Try.underlying5 (hval 1 5 v1 rfl rfl) h1
  clear hA0 hval0
  refine (walk H7 a0 a1 W w0 w1).mono fun e W' ⟨he, bel⟩ => ?_
  subst he
  exact ⟨_, rfl, _, _, _, [], _, [], hW', trodAll_mk1 (shut_bool Try.underlying4 _), (trodAll_cons_mk (shut_int Try.underlying5 w0) (trodAll_cons_mk (shut_int Try.underlying5 w1) trodAll_mk0)), rfl, bel.frame _, fun h => by cases h⟩

theorem over (H7 : Prog7) : Rows.hashLimitsRow.holds Try.pinned (OpenSpec.ofChange Rows.hashLimitsSpec) :=
  OpenClaim.holds_of_wide 6 Try.f6 rfl rfl rfl rfl rfl rfl rfl ⟨rfl, rfl, rfl, rfl, rfl⟩ rfl rfl rfl rfl rfl (by kernel_rfl) Try.func6 (by kernel_rfl)
    (of_decide_eq_true (by kernel_rfl)) (by unfold Func.isWrapper; first | (rw [if_pos (by decide +kernel)]; kernel_rfl) | (rw [if_neg (by decide +kernel)]; exact ⟨rfl, rfl⟩))
    (fun os started H enc _ => lifted H7 os started H enc)

theorem proved : Rows.HashLimitsSaid := over prog7

end Go.Proofs.Ytamgbkadiobklaa.hashLimits
