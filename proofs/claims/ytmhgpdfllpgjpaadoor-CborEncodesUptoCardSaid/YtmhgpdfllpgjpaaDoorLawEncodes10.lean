/- For every tree of bulk at most the bound of the second form the law CborEncodes of package pyxlaw10 returns true and leaves its argument alone, where the library's variables hold what the program's text lays. -/
import Derived.Test.YtmhgpdfllpgjpaaDoorEncM
namespace Go.Proofs.YtmhgpdfllpgjpaaDoor.cborEncodes
open Go.RowKit Go.ChangeShapes Go.WideShapes Go.ChangeAt
set_option linter.unusedVariables false

set_option maxHeartbeats 16000000 in
set_option maxRecDepth 100000 in
theorem walk (x y z u : Value) (t : T) (w : World) (hin : InM w (.agg #[x, y, z, u]) t) (hb : cnt t ≤ 1048576) (hG : Glob10 w) :
    Calls Tryd.prog 4 #[.agg #[x, y, z, u]] w fun e w' => e = .returned (.bool true) ∧ Past w w' := by
  have HA := Lib.hid (fun w hG => awake10 w hG)
  have HG := Lib.hid hG
  have HF := Lib.hid (fun w1 (hp : Past w w1) => rfew_any hin w1 hp (by omega))
  have HOT := Lib.hid hin.okT
  obtain ⟨kd, nm, A, n, c, K, m, d, rfl, rfl, rfl, rfl⟩ := hin.shape
  obtain ⟨w0, hw0⟩ : ∃ w0, w0 = w.alloc (.cells #[.int .i64 kd, .int .u64 nm, .slice A n c, .slice K m d] 34) := ⟨_, rfl⟩
  have hp0 : Past w w0 := by rw [hw0]; exact past_alloc8 _ _
  obtain ⟨g, hg⟩ : ∃ g, w.heap.size = g := ⟨_, rfl⟩
  have H0 : Hid (Past w w0 ∧ Bi w0 g kd nm A n c K m d t) := by
    refine Lib.hid ⟨hp0, ?_, hin.past hp0⟩
    rw [hw0, ← hg]
    exact Row.new _ _ _
  have HW0 := Lib.hid hw0
  have HGG := Lib.hid hg
  clear hw0 hp0 hg hG hin
  go_enter Tryd.func4, Tryd.ntmps4
  go_upto_region 1 with (fail)
  rw [← HW0.out]
  try rw [HGG.out]
  clear HW0 HGG
  go_wp2_with fail
  refine (HA.out _ (HG.out.past H0.out.1)).mono ?_
  rintro e w1 ⟨rfl, hp⟩
  have H1 : Hid (Past w w1 ∧ Bi w1 g kd nm A n c K m d t) := Lib.hid ⟨H0.out.1.trans' hp, H0.out.2.later hp⟩
  clear hp H0
  have x0 : w1.cell? ⟨g, 0, none⟩ = some (.int .i64 kd) := H1.out.2.row.cell 0
  have x1 : w1.cell? ⟨g, 1, none⟩ = some (.int .u64 nm) := H1.out.2.row.cell 1
  have x2 : w1.cell? ⟨g, 2, none⟩ = some (.slice A n c) := H1.out.2.row.cell 2
  have x3 : w1.cell? ⟨g, 3, none⟩ = some (.slice K m d) := H1.out.2.row.cell 3
  go_wp2_with fail
  refine (HF.out _ H1.out.1).mono ?_
  rintro e w2 ⟨rfl, hp⟩
  have H2 : Hid (Past w w2 ∧ Bi w2 g kd nm A n c K m d t) := Lib.hid ⟨H1.out.1.trans' hp, H1.out.2.later hp⟩
  clear hp H1 x0 x1 x2 x3
  cases hf : fewB t with
  | false =>
    clear hf HF
    go_wp2_with fail
    refine (HA.out _ (HG.out.past H2.out.1)).mono ?_
    rintro e w3 ⟨rfl, hp⟩
    have H3 := Lib.hid (H2.out.1.trans' hp)
    clear hp H2
    go_wp2_with fail
    go_ret
    exact ⟨rfl, H3.out⟩
  | true =>
    have hcn : cnt t ≤ 3000 := (of_decide_eq_true hf).2
    have HC := Lib.hid hcn
    clear hf hcn HF hb HA
    have x0 : w2.cell? ⟨g, 0, none⟩ = some (.int .i64 kd) := H2.out.2.row.cell 0
    have x1 : w2.cell? ⟨g, 1, none⟩ = some (.int .u64 nm) := H2.out.2.row.cell 1
    have x2 : w2.cell? ⟨g, 2, none⟩ = some (.slice A n c) := H2.out.2.row.cell 2
    have x3 : w2.cell? ⟨g, 3, none⟩ = some (.slice K m d) := H2.out.2.row.cell 3
    go_wp2_with fail
    refine (given_any H2.out.2.inm _ (Below.refl _ _) (by have := HC.out; omega)).mono ?_
    rintro e w3 ⟨xa, ya, za, ua, rfl, hp, hl⟩
    have hin3 : InM w3 (.agg #[xa, ya, za, ua]) t := hl w3 (fun _ _ => rfl)
    have H3 : Hid (Past w w3 ∧ Bi w3 g kd nm A n c K m d t) := Lib.hid ⟨H2.out.1.trans' hp, H2.out.2.later hp⟩
    have HE := Lib.hid (encode_any (HG.out.bru.past H3.out.1) hin3 (by have := HC.out; omega))
    clear hp hl hin3 H2 x0 x1 x2 x3
    go_wp2_with fail
    refine HE.out.mono ?_
    cases hv : vldT t with
    | false =>
      rintro e w4 ⟨_, he⟩
      obtain ⟨A4, c4, rfl, hp⟩ := he hv
      have H4 : Hid (Past w w4 ∧ Bi w4 g kd nm A n c K m d t) := Lib.hid ⟨H3.out.1.trans' hp, H3.out.2.later hp⟩
      have HV := Lib.hid hv
      clear hp he HE H3 hv
      simp only [valCode]
      have HSK : Hid (∀ w', Past w4 w' → (w'.cell? ⟨g, 0, none⟩ = some (.int .i64 kd) ∧ w'.cell? ⟨g, 1, none⟩ = some (.int .u64 nm) ∧ w'.cell? ⟨g, 2, none⟩ = some (.slice A n c) ∧ w'.cell? ⟨g, 3, none⟩ = some (.slice K m d))) := by
        refine Lib.hid fun w' hp => ?_
        have q := H4.out.2.row.past hp
        exact ⟨q.cell 0, q.cell 1, q.cell 2, q.cell 3⟩
      have HPD : Hid (Past w4 w4.drew) := Lib.hid (Past.drewN (Below.refl _ w4) 1)
      have HGV := Lib.hid (fun w1 (hp : Past w4 w1) => given_any (H4.out.2.inm.past hp) w1 (Below.refl _ _) (by have := HC.out; omega))
      go_upto_region 4 with (fail)
      first | (go_region_held3 (fun w' => w'.cell? ⟨g, 0, none⟩ = some (.int .i64 kd) ∧ w'.cell? ⟨g, 1, none⟩ = some (.int .u64 nm) ∧ w'.cell? ⟨g, 2, none⟩ = some (.slice A n c) ∧ w'.cell? ⟨g, 3, none⟩ = some (.slice K m d))
        (first
        | exact HSK.out _ HP7.out
        | exact HSK.out _ HP6.out
        | exact HSK.out _ HP5.out
        | exact HSK.out _ HPD.out)
        (first
        | (go_at_call 17; (with_reducible refine (HGV.out _ HPD.out).mono ?_); rintro e5 w5 ⟨xb, yb, zb, ub, rfl, hp5, hl5⟩; have HP5 : Hid (Past w4 w5) := Lib.hid (HPD.out.trans' hp5); have HN5 : Hid (InM w5 (.agg #[xb, yb, zb, ub]) t) := Lib.hid (hl5 w5 (fun _ _ => rfl)); clear hp5 hl5)
        | (go_at_call 18; (with_reducible refine (valid_any (HG.out.bru.past (H4.out.1.trans' HP5.out)) HN5.out (by have := HC.out; omega)).mono ?_); rintro e6 w6 ⟨rfl, hp6⟩; rw [HV.out]; have HP6 : Hid (Past w4 w6) := Lib.hid (HP5.out.trans' hp6); clear hp6)
        | (go_at_call 19; (with_reducible refine (rvalid10_any (H4.out.2.inm.past HP6.out) _ (Below.refl _ _) (by have := HC.out; omega)).mono ?_); rintro e7 w7 ⟨rfl, hp7⟩; rw [HV.out]; have HP7 : Hid (Past w4 w7) := Lib.hid (HP6.out.trans' hp7); clear hp7))) | fail
      all_goals
        have H7 : Hid (Past w w7 ∧ Bi w7 g kd nm A n c K m d t) := Lib.hid ⟨H4.out.1.trans' HP7.out, H4.out.2.later HP7.out⟩
        have x0 : w7.cell? ⟨g, 0, none⟩ = some (.int .i64 kd) := H7.out.2.row.cell 0
        have x1 : w7.cell? ⟨g, 1, none⟩ = some (.int .u64 nm) := H7.out.2.row.cell 1
        have x2 : w7.cell? ⟨g, 2, none⟩ = some (.slice A n c) := H7.out.2.row.cell 2
        have x3 : w7.cell? ⟨g, 3, none⟩ = some (.slice K m d) := H7.out.2.row.cell 3
        clear HSK HGV H4
        go_wp2_with fail
        refine (rvalid10_any H7.out.2.inm _ (Below.refl _ _) (by have := HC.out; omega)).mono ?_
        rintro e w8 ⟨rfl, hp⟩
        have H8 := Lib.hid (H7.out.1.trans' hp)
        rw [HV.out]
        clear hp H7 x0 x1 x2 x3
        go_wp2_with fail
        have HCd := Lib.hid (lcode_code 12 _ (HG.out.err.past H8.out))
        simp only [valCode] at HCd
        refine HCd.out.mono ?_
        rintro e w9 ⟨rfl, hp⟩
        have H9 := Lib.hid (H8.out.trans' hp)
        clear hp H8 HCd
        go_wp2_with fail
        go_ret
        exact ⟨rfl, H9.out⟩
    | true =>
      rintro e w4 ⟨he, _⟩
      obtain ⟨A4, c4, rfl, hS4, hp⟩ := he hv
      have hvs := vld_parts hv
      obtain ⟨L, hL⟩ : ∃ L, (txt t).length = L := ⟨_, rfl⟩
      rw [hL] at hS4 ⊢
      have H4 : Hid (Past w w4 ∧ Bi w4 g kd nm A n c K m d t ∧ Sl w4 A4 L c4 (txt t)) := Lib.hid ⟨H3.out.1.trans' hp, H3.out.2.later hp, hS4⟩
      have HV := Lib.hid hv
      have HSH := Lib.hid hvs
      have HLL := Lib.hid hL
      clear hp he HE H3 hv hS4 hvs hL
      have HSK : Hid (∀ w', Past w4 w' → (w'.cell? ⟨g, 0, none⟩ = some (.int .i64 kd) ∧ w'.cell? ⟨g, 1, none⟩ = some (.int .u64 nm) ∧ w'.cell? ⟨g, 2, none⟩ = some (.slice A n c) ∧ w'.cell? ⟨g, 3, none⟩ = some (.slice K m d))) := by
        refine Lib.hid fun w' hp => ?_
        have q := H4.out.2.1.row.past hp
        exact ⟨q.cell 0, q.cell 1, q.cell 2, q.cell 3⟩
      have HPD : Hid (Past w4 w4.drew) := Lib.hid (Past.drewN (Below.refl _ w4) 1)
      have HGV := Lib.hid (fun w1 (hp : Past w4 w1) => given_any (H4.out.2.1.inm.past hp) w1 (Below.refl _ _) (by have := HC.out; omega))
      go_upto_region 4 with (fail)
      first | (go_region_held3 (fun w' => w'.cell? ⟨g, 0, none⟩ = some (.int .i64 kd) ∧ w'.cell? ⟨g, 1, none⟩ = some (.int .u64 nm) ∧ w'.cell? ⟨g, 2, none⟩ = some (.slice A n c) ∧ w'.cell? ⟨g, 3, none⟩ = some (.slice K m d))
        (first
        | exact HSK.out _ HP7.out
        | exact HSK.out _ HP6.out
        | exact HSK.out _ HP5.out
        | exact HSK.out _ HPD.out)
        (first
        | (go_at_call 17; (with_reducible refine (HGV.out _ HPD.out).mono ?_); rintro e5 w5 ⟨xb, yb, zb, ub, rfl, hp5, hl5⟩; have HP5 : Hid (Past w4 w5) := Lib.hid (HPD.out.trans' hp5); have HN5 : Hid (InM w5 (.agg #[xb, yb, zb, ub]) t) := Lib.hid (hl5 w5 (fun _ _ => rfl)); clear hp5 hl5)
        | (go_at_call 18; (with_reducible refine (valid_any (HG.out.bru.past (H4.out.1.trans' HP5.out)) HN5.out (by have := HC.out; omega)).mono ?_); rintro e6 w6 ⟨rfl, hp6⟩; rw [HV.out]; have HP6 : Hid (Past w4 w6) := Lib.hid (HP5.out.trans' hp6); clear hp6)
        | (go_at_call 19; (with_reducible refine (rvalid10_any (H4.out.2.1.inm.past HP6.out) _ (Below.refl _ _) (by have := HC.out; omega)).mono ?_); rintro e7 w7 ⟨rfl, hp7⟩; rw [HV.out]; have HP7 : Hid (Past w4 w7) := Lib.hid (HP6.out.trans' hp7); clear hp7))) | fail
      all_goals
        have H7 : Hid (Past w w7 ∧ Bi w7 g kd nm A n c K m d t ∧ Sl w7 A4 L c4 (txt t)) := Lib.hid ⟨H4.out.1.trans' HP7.out, H4.out.2.1.later HP7.out, H4.out.2.2.past HP7.out⟩
        have x0 : w7.cell? ⟨g, 0, none⟩ = some (.int .i64 kd) := H7.out.2.1.row.cell 0
        have x1 : w7.cell? ⟨g, 1, none⟩ = some (.int .u64 nm) := H7.out.2.1.row.cell 1
        have x2 : w7.cell? ⟨g, 2, none⟩ = some (.slice A n c) := H7.out.2.1.row.cell 2
        have x3 : w7.cell? ⟨g, 3, none⟩ = some (.slice K m d) := H7.out.2.1.row.cell 3
        clear HSK HGV H4
        go_wp2_with fail
        refine (rvalid10_any H7.out.2.1.inm _ (Below.refl _ _) (by have := HC.out; omega)).mono ?_
        rintro e w8 ⟨rfl, hp⟩
        have H8 : Hid (Past w w8 ∧ Bi w8 g kd nm A n c K m d t ∧ Sl w8 A4 L c4 (txt t)) := Lib.hid ⟨H7.out.1.trans' hp, H7.out.2.1.later hp, H7.out.2.2.past hp⟩
        rw [HV.out]
        clear hp H7 x0 x1 x2 x3
        have HX := parse_any A4 L c4 _ w8 H8.out.2.2
        rw [vld_parse HSH.out HOT.out HLL.out] at HX
        have HXX := Lib.hid HX
        clear HX
        go_wp2_with fail
        refine HXX.out.mono ?_
        rintro e w9 ⟨x, y, z, u, rfl, hin9, hp⟩
        obtain ⟨kd2, nm2, A2, n2, c2, K2, m2, d2, rfl, rfl, rfl, rfl⟩ := hin9.shape
        obtain ⟨wa, hwa⟩ : ∃ wa, wa = w9.alloc (.cells #[.int .i64 kd2, .int .u64 nm2, .slice A2 n2 c2, .slice K2 m2 d2] 27) := ⟨_, rfl⟩
        have hpa : Past w9 wa := by rw [hwa]; exact past_alloc8 _ _
        have hby := bx_new hin9 hwa
        obtain ⟨b, hb⟩ : ∃ b, w9.heap.size = b := ⟨_, rfl⟩
        rw [hb] at hby
        have Ha : Hid (Past w wa ∧ Bi wa g kd nm A n c K m d t ∧ Sl wa A4 L c4 (txt t) ∧ Bx wa b kd2 nm2 A2 n2 c2 K2 m2 d2 t) := Lib.hid ⟨H8.out.1.trans' (Past.trans' hp hpa), H8.out.2.1.later (Past.trans' hp hpa), H8.out.2.2.past (Past.trans' hp hpa), hby⟩
        have HWA := Lib.hid hwa
        have HB := Lib.hid hb
        clear hp hpa hby hwa hb hin9 HXX H8
        go_upto_region 9 with (fail)
        rw [← HWA.out]
        try rw [HB.out]
        clear HWA HB
        have HSK : Hid (∀ w', Past wa w' → (w'.cell? ⟨g, 0, none⟩ = some (.int .i64 kd) ∧ w'.cell? ⟨g, 1, none⟩ = some (.int .u64 nm) ∧ w'.cell? ⟨g, 2, none⟩ = some (.slice A n c) ∧ w'.cell? ⟨g, 3, none⟩ = some (.slice K m d) ∧ w'.cell? ⟨b, 0, none⟩ = some (.int .i64 kd2) ∧ w'.cell? ⟨b, 1, none⟩ = some (.int .u64 nm2) ∧ w'.cell? ⟨b, 2, none⟩ = some (.slice A2 n2 c2) ∧ w'.cell? ⟨b, 3, none⟩ = some (.slice K2 m2 d2))) := by
          refine Lib.hid fun w' hp => ?_
          have q := Ha.out.2.1.row.past hp
          have q2 := Ha.out.2.2.2.row.past hp
          exact ⟨q.cell 0, q.cell 1, q.cell 2, q.cell 3, q2.cell 0, q2.cell 1, q2.cell 2, q2.cell 3⟩
        have HPD : Hid (Past wa wa.drew) := Lib.hid (Past.drewN (Below.refl _ wa) 1)
        have HRC := Lib.hid (fun w1 (hp : Past wa w1) => rcode_any (Ha.out.2.1.inm.past hp) w1 (Below.refl _ _) (by have := HC.out; omega) (by have := HSH.out.2.2; omega) (shp_kok t HSH.out.2.1))
        have HBK := Lib.hid (fun w1 (hp : Past wa w1) => back_any (Ha.out.2.2.2.inm.past hp) w1 (Below.refl _ _) (by have := HC.out; omega))
        first | (go_region_held3 (fun w' => w'.cell? ⟨g, 0, none⟩ = some (.int .i64 kd) ∧ w'.cell? ⟨g, 1, none⟩ = some (.int .u64 nm) ∧ w'.cell? ⟨g, 2, none⟩ = some (.slice A n c) ∧ w'.cell? ⟨g, 3, none⟩ = some (.slice K m d) ∧ w'.cell? ⟨b, 0, none⟩ = some (.int .i64 kd2) ∧ w'.cell? ⟨b, 1, none⟩ = some (.int .u64 nm2) ∧ w'.cell? ⟨b, 2, none⟩ = some (.slice A2 n2 c2) ∧ w'.cell? ⟨b, 3, none⟩ = some (.slice K2 m2 d2))
          (first
          | exact HSK.out _ HPe.out
          | exact HSK.out _ HPd.out
          | exact HSK.out _ HPc.out
          | exact HSK.out _ HPb.out
          | exact HSK.out _ HPD.out)
          (first
          | (go_at_call 21; (with_reducible refine (HRC.out _ HPD.out).mono ?_); rintro eb wb ⟨Ab, cb, rfl, hsb, hpb⟩; have HPb : Hid (Past wa wb) := Lib.hid (HPD.out.trans' hpb); have HSb := Lib.hid hsb; clear hpb hsb)
          | (go_at_call 15; (with_reducible refine (rsame_any _ _ _ _ _ _ _ _ _ (Ha.out.2.2.1.past HPb.out) HSb.out).mono ?_); rintro ec wc ⟨rfl, qc, rfl⟩; rw [sameB_refl]; have HPc : Hid (Past wa (wb.drewN qc)) := Lib.hid (HPb.out.drewN qc))
          | (go_at_call 13; (with_reducible refine (HBK.out _ HPc.out).mono ?_); rintro ed wd ⟨xa, ya, za, ua, rfl, hpd, hld⟩; have HPd : Hid (Past wa wd) := Lib.hid (HPc.out.trans' hpd); have HNd : Hid (InM wd (.agg #[xa, ya, za, ua]) t) := Lib.hid (hld wd (fun _ _ => rfl)); clear hpd hld)
          | (go_at_call 12; (with_reducible refine (rsame10_any HNd.out _ _ (Ha.out.2.1.inm.past HPd.out) _ (Below.refl _ _) (by have := HC.out; omega)).mono ?_); rintro ee we ⟨r, rfl, hr, hpe⟩; obtain rfl : r = true := hr.2 rfl; have HPe : Hid (Past wa we) := Lib.hid (HPd.out.trans' hpe); clear hr hpe))) | fail
        all_goals
          go_wp2_with fail
          go_ret
          exact ⟨rfl, Ha.out.1.trans' HPe.out⟩

def args0 : Array Value := #[.agg #[.int .i64 0, .int .u64 0, .slice none 0 0, .slice none 0 0]]
theorem laid_met (os : Os) : laidMetH Tryd.prog Rows.cborEncodesUptoRow.laid ((laidWorld os).forCall (fun _ _ => 0) ⟨#[], args0, []⟩).memory :=
  laid_world os args0
theorem witness_row (os : Os) {H : Type} (enc : TypeId × Value → H) :
    (Rows.OpenSpec.upto Rows.cborEncodesSpec).preRow enc Tryd.prog Tryd.f4 Rows.cborEncodesUptoRow.domain false Rows.cborEncodesUptoRow.laid ((laidWorld os).forCall (fun _ _ => 0) ⟨#[], args0, []⟩).memory args0 := by
  have hw : (DataW.whole enc Tryd.prog ((laidWorld os).forCall (fun _ _ => 0) ⟨#[], args0, []⟩).memory Tryd.f4.params.toList (Rows.OpenSpec.upto Rows.cborEncodesSpec).vars false args0.toList 8).map (fun x => (x.1, x.2.1)) =
      some ([.agg [.lit (.int .i64 0), .lit (.int .u64 0), .nil, .nil]], []) := by kernel_rfl
  obtain ⟨⟨x1, x2, x3⟩, hx, hx1⟩ := Option.map_eq_some_iff.1 hw
  simp only [Prod.mk.injEq] at hx1
  obtain ⟨rfl, rfl⟩ := hx1
  exact OpenSpec.preRow_of_cond 8 hx (by kernel_rfl) (fun k hk => by cases hk; rfl) (by kernel_rfl) (laid_met os)

set_option maxRecDepth 100000 in
set_option maxHeartbeats 2000000 in
theorem lifted (os : Os) (started : os.Started) (H : Type) (enc : TypeId × Value → H) (F : Stop.Interp) :
    ReturnsInHanded {} Tryd.checked os 4 .any ((Rows.OpenSpec.upto Rows.cborEncodesSpec).preRow enc Tryd.prog Tryd.f4 Rows.cborEncodesUptoRow.domain false Rows.cborEncodesUptoRow.laid) (((Rows.OpenSpec.upto Rows.cborEncodesSpec).at F).post enc Tryd.prog Tryd.f4 false true false false) := by
  refine returnsInHanded_of_row (C := Tryd.checked) (s := Rows.OpenSpec.upto Rows.cborEncodesSpec) own started (by kernel_rfl) Tryd.func4
    (witness_row_atRef (enc := enc) (C := Tryd.checked) false (laidWorld os) args0 rfl (by kernel_rfl) (by kernel_rfl) (by kernel_rfl) (witness_row os enc)) ?_
  intro W base args ds gs before hval0 hW _ hcnd _ hL hsh _
  have hval : ∀ (j : Nat) t v, Tryd.f4.params[j]? = some t → args[j]? = some v → Value.okWide Tryd.prog W .any base t v := hval0
  have hW' := hW
  obtain ⟨p, q, hA0, hV, rfl, hfz, hnd⟩ := hW
  have hA : DataW.TrodAll enc Tryd.prog W 0 (fun _ => true) true Tryd.f4.params.toList args.toList ds p := hA0
  rw [Tryd.params4] at hA hval
  obtain ⟨v0, vs0, d0, ds0, p0, q0, hargs, rfl, rfl, h0, r0⟩ := trodAll_cons hA
  obtain ⟨rfl, rfl, rfl⟩ := trodAll_nil r0
  obtain rfl : args = #[v0] := by cases args; simp_all
  obtain ⟨rfl, rfl⟩ := trodVars_none hV
  have hbulk := bulk_small (hcnd _ rfl)
  simp only [List.append_nil, Rows.uptoBulkAll] at hbulk
  have k0 := h0
  have lt0 : ∀ x ∈ p0, x.block < W.heap.size := by obtain ⟨m, hm⟩ := k0; exact DataW.trod_lt m _ _ _ hm
  obtain ⟨x0, y0, z0, u0, t0, rfl, w0, b0⟩ := tree_of (hval 0 34 v0 rfl rfl) h0
  have hG := glob_of_row hL
  clear hA0 hval0
  refine (walk x0 y0 z0 u0 t0 W w0 (by omega) hG).mono fun e W' ⟨he, bel⟩ => ?_
  subst he
  exact ⟨_, rfl, _, _, _, [], _, [], hW', trodAll_mk1 (shut_bool Tryd.underlying4 _), (trodAll_cons_mk (Below.trod laidOut (by kernel_rfl) (of_decide_eq_true (by kernel_rfl)) k0 bel lt0) trodAll_mk0), rfl, bel.frame _, fun h => by cases h⟩

theorem row_holds : Rows.CborEncodesUptoSaid :=
  OpenClaim.holds_of_cond 4 Tryd.f4 rfl rfl rfl rfl rfl rfl rfl ⟨rfl, rfl, rfl, rfl, rfl⟩ rfl rfl rfl rfl rfl (by kernel_rfl) Tryd.func4 (by kernel_rfl)
    (of_decide_eq_true (by kernel_rfl)) (by unfold Func.isWrapper; first | (rw [if_pos (by decide +kernel)]; kernel_rfl) | (rw [if_neg (by decide +kernel)]; exact ⟨rfl, rfl⟩))
    (fun os started H enc _ F0 => by rw [OpenClaim.pre_eq_preRow]; exact lifted os started H enc F0)

theorem card : Rows.CborEncodesUptoCardSaid :=
  Claim7.holds_tied_plain_at .later [] [.data, .data, .handle] true Rows.cborEncodesUptoCard.stood.harness true
    row_holds (fun _ h => by cases h) (by kernel_rfl) (fun _ h => by cases h) cborEncodesUpto_row_tie rfl ⟨rfl, rfl⟩ (by kernel_rfl) rfl
    (fun f fn hf hfn => by
      obtain rfl : f = 4 := Option.some.inj ((show Tryd.prog.funcNamed "pyx/pyxlaw10.CborEncodes" = some 4 by kernel_rfl).symm.trans hf) |>.symm
      obtain rfl : fn = Tryd.f4 := (Option.some.inj (Tryd.func4.symm.trans hfn)).symm
      exact ⟨by kernel_rfl, fun j t ht => by
        rw [Tryd.params4] at ht
        obtain rfl : t = 34 := by
          rcases j with _ | j
          · simpa using ht.symm
          · simp at ht
        exact (show Tryd.prog.wantsStandIn 34 = false by kernel_rfl)⟩)
    (by kernel_rfl)


end Go.Proofs.YtmhgpdfllpgjpaaDoor.cborEncodes
