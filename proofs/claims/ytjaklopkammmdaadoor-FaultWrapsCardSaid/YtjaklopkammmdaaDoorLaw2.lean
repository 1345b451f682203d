/- The law FaultWraps walked: what is left out, and the rest. -/
import Derived.Test.YtjaklopkammmdaaDoorAwake2
namespace Go.Proofs.YtjaklopkammmdaaDoor
open Go.RowKit

/-- What the law keeps to. -/
def InP (nl : Bool) (n : Nat) (P : Nat → ByteArray) (B : Nat → Int) (a : Int) (part : ByteArray) (by' : Int) : Prop :=
  FewP n P B a ∧ nl = false ∧ part.size ≤ 50 ∧ -1099511627776 ≤ by' ∧ by' ≤ 1099511627776

set_option maxHeartbeats 4000000 in
theorem law_out (T : Nat → Int) (nl fl : Bool) (c a : Int) (A : Option Addr) (n cap : Nat) (K : Nat → Int) (P : Nat → ByteArray) (B : Nat → Int) (part : ByteArray) (by' : Int) (w : World)
    (hV : Vars T w) (hW : Ws w A n K P B) (hn : n ≤ maxLen) (hp : part.size ≤ 9223372036854775807) (hout : ¬ InP nl n P B a part by') :
    Calls Tryd.prog 3 #[.agg #[.bool nl, .slice A n cap, .int .i64 c, .int .i64 a, .bool fl], .string part, .int .i64 by'] w fun e w' => e = .returned (.bool true) ∧ Past w w' := by
  have hp1 : Past w (w.alloc (.cells #[.bool nl, .slice A n cap, .int .i64 c, .int .i64 a, .bool fl] 24)) := (Below.refl _ _).alloc (Nat.le_refl _) _
  have HX := Lib.hid (Row.new w 24 #[.bool nl, .slice A n cap, .int .i64 c, .int .i64 a, .bool fl])
  have HV := Lib.hid (hV.past hp1)
  have HW := Lib.hid (hW.past hp1)
  have HP := Lib.hid hp1
  have HN := Lib.hid hn
  clear hV hW hp1 hn
  by_cases hfew : FewP n P B a
  · have HF := Lib.hid hfew
    have hrest : ¬ (nl = false ∧ part.size ≤ 50 ∧ -1099511627776 ≤ by' ∧ by' ≤ 1099511627776) := fun h => hout ⟨hfew, h⟩
    clear hfew hout
    cases nl with
    | true =>
      clear hrest
      go_enter Tryd.func3, Tryd.ntmps3
      go_wp2_with fail
      refine (awake_any T _ HV.out).mono ?_
      rintro e w1 ⟨rfl, h1⟩
      have hx := HX.out.past h1
      have x0 := hx.cell 0
      have x1 := hx.cell 1
      have x2 := hx.cell 2
      have x3 := hx.cell 3
      have x4 := hx.cell 4
      simp at x0 x1 x2 x3 x4
      have HW1 := Lib.hid (HW.out.past h1)
      have HV1 := Lib.hid (HV.out.past h1)
      have HP1 := Lib.hid (HP.out.trans' h1)
      have HX1 := Lib.hid hx
      clear h1 HX HW HV HP hx
      go_wp2_with fail
      refine (few_any true fl c a A n cap K P B _ HW1.out HN.out true ⟨fun _ => HF.out, fun _ => rfl⟩).mono ?_
      rintro e w2 ⟨rfl, h1⟩
      have hx := HX1.out.past h1
      have x0' := hx.cell 0
      simp at x0'
      clear x0 x1 x2 x3 x4
      have HV2 := Lib.hid (HV1.out.past h1)
      have HP2 := Lib.hid (HP1.out.trans' h1)
      clear h1 HX1 HV1 HP1 HW1 hx
      go_wp2_with fail
      refine (awake_any T _ HV2.out).mono ?_
      rintro e w3 ⟨rfl, h1⟩
      have HP3 := Lib.hid (HP2.out.trans' h1)
      clear h1
      go_wp2_with fail
      go_ret
      exact ⟨rfl, HP3.out⟩
    | false =>
      by_cases h1 : part.size ≤ 50
      · by_cases h2 : -1099511627776 ≤ by'
        · have h3 : 1099511627776 < by' := by
            rcases Int.lt_or_le 1099511627776 by' with h | h
            · exact h
            · exact absurd ⟨rfl, h1, h2, h⟩ hrest
          clear hrest
          go_enter Tryd.func3, Tryd.ntmps3
          go_wp2_with fail
          refine (awake_any T _ HV.out).mono ?_
          rintro e w1 ⟨rfl, h1⟩
          have hx := HX.out.past h1
          have x0 := hx.cell 0
          have x1 := hx.cell 1
          have x2 := hx.cell 2
          have x3 := hx.cell 3
          have x4 := hx.cell 4
          simp at x0 x1 x2 x3 x4
          have HW1 := Lib.hid (HW.out.past h1)
          have HV1 := Lib.hid (HV.out.past h1)
          have HP1 := Lib.hid (HP.out.trans' h1)
          have HX1 := Lib.hid hx
          clear h1 HX HW HV HP hx
          go_wp2_with fail
          refine (few_any false fl c a A n cap K P B _ HW1.out HN.out true ⟨fun _ => HF.out, fun _ => rfl⟩).mono ?_
          rintro e w2 ⟨rfl, h1⟩
          have hx := HX1.out.past h1
          have x0' := hx.cell 0
          simp at x0'
          clear x0 x1 x2 x3 x4
          have HV2 := Lib.hid (HV1.out.past h1)
          have HP2 := Lib.hid (HP1.out.trans' h1)
          clear h1 HX1 HV1 HP1 HW1 hx
          go_wp2_with fail
          refine (awake_any T _ HV2.out).mono ?_
          rintro e w3 ⟨rfl, h1⟩
          have HP3 := Lib.hid (HP2.out.trans' h1)
          clear h1
          go_wp2_with fail
          go_ret
          exact ⟨rfl, HP3.out⟩
        · have h2' : by' < -1099511627776 := by omega
          clear hrest h2
          go_enter Tryd.func3, Tryd.ntmps3
          go_wp2_with fail
          refine (awake_any T _ HV.out).mono ?_
          rintro e w1 ⟨rfl, h1⟩
          have hx := HX.out.past h1
          have x0 := hx.cell 0
          have x1 := hx.cell 1
          have x2 := hx.cell 2
          have x3 := hx.cell 3
          have x4 := hx.cell 4
          simp at x0 x1 x2 x3 x4
          have HW1 := Lib.hid (HW.out.past h1)
          have HV1 := Lib.hid (HV.out.past h1)
          have HP1 := Lib.hid (HP.out.trans' h1)
          have HX1 := Lib.hid hx
          clear h1 HX HW HV HP hx
          go_wp2_with fail
          refine (few_any false fl c a A n cap K P B _ HW1.out HN.out true ⟨fun _ => HF.out, fun _ => rfl⟩).mono ?_
          rintro e w2 ⟨rfl, h1⟩
          have hx := HX1.out.past h1
          have x0' := hx.cell 0
          simp at x0'
          clear x0 x1 x2 x3 x4
          have HV2 := Lib.hid (HV1.out.past h1)
          have HP2 := Lib.hid (HP1.out.trans' h1)
          clear h1 HX1 HV1 HP1 HW1 hx
          go_wp2_with fail
          refine (awake_any T _ HV2.out).mono ?_
          rintro e w3 ⟨rfl, h1⟩
          have HP3 := Lib.hid (HP2.out.trans' h1)
          clear h1
          go_wp2_with fail
          go_ret
          exact ⟨rfl, HP3.out⟩
      · have h1' : 50 < part.size := by omega
        clear hrest h1
        go_enter Tryd.func3, Tryd.ntmps3
        go_wp2_with fail
        refine (awake_any T _ HV.out).mono ?_
        rintro e w1 ⟨rfl, h1⟩
        have hx := HX.out.past h1
        have x0 := hx.cell 0
        have x1 := hx.cell 1
        have x2 := hx.cell 2
        have x3 := hx.cell 3
        have x4 := hx.cell 4
        simp at x0 x1 x2 x3 x4
        have HW1 := Lib.hid (HW.out.past h1)
        have HV1 := Lib.hid (HV.out.past h1)
        have HP1 := Lib.hid (HP.out.trans' h1)
        have HX1 := Lib.hid hx
        clear h1 HX HW HV HP hx
        go_wp2_with fail
        refine (few_any false fl c a A n cap K P B _ HW1.out HN.out true ⟨fun _ => HF.out, fun _ => rfl⟩).mono ?_
        rintro e w2 ⟨rfl, h1⟩
        have hx := HX1.out.past h1
        have x0' := hx.cell 0
        simp at x0'
        clear x0 x1 x2 x3 x4
        have HV2 := Lib.hid (HV1.out.past h1)
        have HP2 := Lib.hid (HP1.out.trans' h1)
        clear h1 HX1 HV1 HP1 HW1 hx
        go_wp2_with fail
        refine (awake_any T _ HV2.out).mono ?_
        rintro e w3 ⟨rfl, h1⟩
        have HP3 := Lib.hid (HP2.out.trans' h1)
        clear h1
        go_wp2_with fail
        go_ret
        exact ⟨rfl, HP3.out⟩
  · have HF : Hid (¬ FewP n P B a) := hfew
    clear hfew hout
    go_enter Tryd.func3, Tryd.ntmps3
    go_wp2_with fail
    refine (awake_any T _ HV.out).mono ?_
    rintro e w1 ⟨rfl, h1⟩
    have hx := HX.out.past h1
    have x0 := hx.cell 0
    have x1 := hx.cell 1
    have x2 := hx.cell 2
    have x3 := hx.cell 3
    have x4 := hx.cell 4
    simp at x0 x1 x2 x3 x4
    have HW1 := Lib.hid (HW.out.past h1)
    have HV1 := Lib.hid (HV.out.past h1)
    have HP1 := Lib.hid (HP.out.trans' h1)
    have HX1 := Lib.hid hx
    clear h1 HX HW HV HP hx
    go_wp2_with fail
    refine (few_any nl fl c a A n cap K P B _ HW1.out HN.out false ⟨(fun h => absurd h (by decide)), (fun h => absurd h HF.out)⟩).mono ?_
    rintro e w2 ⟨rfl, h1⟩
    have hx := HX1.out.past h1
    have x0' := hx.cell 0
    simp at x0'
    clear x0 x1 x2 x3 x4
    have HV2 := Lib.hid (HV1.out.past h1)
    have HP2 := Lib.hid (HP1.out.trans' h1)
    clear h1 HX1 HV1 HP1 HW1 hx
    go_wp2_with fail
    refine (awake_any T _ HV2.out).mono ?_
    rintro e w3 ⟨rfl, h1⟩
    have HP3 := Lib.hid (HP2.out.trans' h1)
    clear h1
    go_wp2_with fail
    go_ret
    exact ⟨rfl, HP3.out⟩

theorem asF_hit {w w' : World} {g : Nat} {c a : Int} {x : Array Value} {e : Ending} (h : AsFPost w g (if true = true then .flt c a else .code c) x e w') :
    e = .returned (.bool true) ∧ Row w' g 36 #[.int .i64 c, .int .i64 a] ∧ w.grownBy w' (some g) := by
  rcases h with ⟨c', a', hb, he, h1, h2⟩ | ⟨c', hb, he, h1, h2⟩
  · injection hb with e1 e2
    subst e1 e2
    exact ⟨he, h1, h2⟩
  · cases hb
theorem asF_miss {w w' : World} {g : Nat} {c a : Int} {x : Array Value} {e : Ending} (h : AsFPost w g (if false = true then .flt c a else .code c) x e w') :
    e = .returned (.bool false) ∧ Row w' g 36 x ∧ Past w w' := by
  rcases h with ⟨c', a', hb, he, h1, h2⟩ | ⟨c', hb, he, h1, h2⟩
  · cases hb
  · exact ⟨he, h1, h2⟩
theorem next_ne (c : Int) : (c == wrap64 (c + 1)) = false := by
  simp only [beq_eq_false_iff_ne, wrap64]
  omega

set_option maxHeartbeats 8000000 in
theorem law_in (T : Nat → Int) (fl : Bool) (c a : Int) (A : Option Addr) (n cap : Nat) (K : Nat → Int) (P : Nat → ByteArray) (B : Nat → Int) (part : ByteArray) (by' : Int) (w : World)
    (hV : Vars T w) (hW : Ws w A n K P B) (hn : n ≤ maxLen) (hin : InP false n P B a part by') (h0 : -9223372036854775808 ≤ c) (h1 : c ≤ 9223372036854775807) :
    Calls Tryd.prog 3 #[.agg #[.bool false, .slice A n cap, .int .i64 c, .int .i64 a, .bool fl], .string part, .int .i64 by'] w fun e w' => e = .returned (.bool true) ∧ Past w w' := by
  have hp1 : Past w (w.alloc (.cells #[.bool false, .slice A n cap, .int .i64 c, .int .i64 a, .bool fl] 24)) := (Below.refl _ _).alloc (Nat.le_refl _) _
  have HX := Lib.hid (Row.new w 24 #[.bool false, .slice A n cap, .int .i64 c, .int .i64 a, .bool fl])
  have HV := Lib.hid (hV.past hp1)
  have HW := Lib.hid (hW.past hp1)
  have HP := Lib.hid hp1
  have HN := Lib.hid hn
  obtain ⟨hfew, _, hs, hb0, hb1⟩ := hin
  have HF := Lib.hid hfew
  have HC := Lib.hid (And.intro h0 h1)
  clear hV hW hp1 hn hfew h0 h1
  go_enter Tryd.func3, Tryd.ntmps3
  go_wp2_with fail
  refine (awake_any T _ HV.out).mono ?_
  rintro e w1 ⟨rfl, h1⟩
  have hx := HX.out.past h1
  have x0 := hx.cell 0
  have x1 := hx.cell 1
  have x2 := hx.cell 2
  have x3 := hx.cell 3
  have x4 := hx.cell 4
  simp at x0 x1 x2 x3 x4
  have HW1 := Lib.hid (HW.out.past h1)
  have HV1 := Lib.hid (HV.out.past h1)
  have HP1 := Lib.hid (HP.out.trans' h1)
  have HX1 := Lib.hid hx
  clear h1 HX HW HV HP hx
  go_wp2_with fail
  refine (few_any false fl c a A n cap K P B _ HW1.out HN.out true ⟨fun _ => HF.out, fun _ => rfl⟩).mono ?_
  rintro e w2 ⟨rfl, h1⟩
  have hx := HX1.out.past h1
  clear x0 x1 x2 x3 x4
  have x0 := hx.cell 0
  have x1 := hx.cell 1
  have x2 := hx.cell 2
  have x3 := hx.cell 3
  have x4 := hx.cell 4
  simp at x0 x1 x2 x3 x4
  have HW2 := Lib.hid (HW1.out.past h1)
  have HV2 := Lib.hid (HV1.out.past h1)
  have HP2 := Lib.hid (HP1.out.trans' h1)
  have HX2 := Lib.hid hx
  clear h1 HX1 HV1 HP1 HW1 hx
  go_wp2_with fail
  refine (build_any fl c a A n cap K P B _ HW2.out HF.out.2.1 HF.out.1 HC.out.1 HC.out.2).mono ?_
  rintro e w3 ⟨r, rfl, hr, h1⟩
  have HR := Lib.hid hr
  have HV3 := Lib.hid (HV2.out.past h1)
  have HP3 := Lib.hid (HP2.out.trans' h1)
  have HX3 := Lib.hid (HX2.out.past h1)
  clear h1 hr HX2 HV2 HP2 HW2 x0 x1 x2 x3 x4
  have HI := fun W hi => Lib.hid (in_any part r W hi)
  have HJ := fun W hi => Lib.hid (shift_any by' r W hi)
  have hre := r.val_eq
  have n1 := r.errN
  have m1 := r.errM
  have e1 := r.errE
  have HTX := fun W hi hT => Lib.hid (text_any T r W hi hT HR.out.ok (by have := HR.out.depth; have := HF.out.2.1; omega))
  have HU1 := fun g W hi => Lib.hid (unwrapLoc_any g part r W hi)
  have HU2 := fun g W hi => Lib.hid (unwrapShf_any g by' r W hi)
  rw [hre] at HI HJ HU1 HU2 ⊢
  clear hre
  have HI' := Lib.hid HI
  have HJ' := Lib.hid HJ
  have HTX' := Lib.hid HTX
  have HU1' := Lib.hid HU1
  have HU2' := Lib.hid HU2
  have HTS := fun g W hi hT => Lib.hid (text_any T (.shf g by' r) W hi hT HR.out.ok (by have := HR.out.depth; have := HF.out.2.1; simp [Ch.depth]; omega))
  have HTS' := Lib.hid HTS
  clear HI HJ HTX HU1 HU2 HTS
  generalize r.ty = qt at *
  generalize r.raw = qr at *
  generalize r.errF = qf at *
  go_wp2_with fail
  refine (HI'.out _ HR.out.here).out.mono ?_
  rintro e w4 ⟨g1, rfl, hi, h1⟩
  have HA := Lib.hid hi
  have HR4 := Lib.hid (HR.out.past h1)
  have HV4 := Lib.hid (HV3.out.past h1)
  have HP4 := Lib.hid (HP3.out.trans' h1)
  have HX4 := Lib.hid (HX3.out.past h1)
  clear h1 hi HR HV3 HP3 HX3
  simp only [valLoc]
  go_wp2_with fail
  refine (HJ'.out _ HR4.out.here).out.mono ?_
  rintro e w5 ⟨g2, rfl, hi, h1⟩
  have HB := Lib.hid hi
  have HA5 := Lib.hid (HA.out.past h1)
  have HR5 := Lib.hid (HR4.out.past h1)
  have HV5 := Lib.hid (HV4.out.past h1)
  have HP5 := Lib.hid (HP4.out.trans' h1)
  have HX5 := Lib.hid (HX4.out.past h1)
  clear h1 hi HR4 HV4 HP4 HX4 HA
  simp only [valShf]
  have HU1 := Lib.hid (HU1'.out g1 _ HA5.out).out
  have HU2 := Lib.hid (HU2'.out g2 _ HB.out).out
  simp only [valLoc, valShf] at HU1 HU2
  go_wp2_with fail
  refine HU1.out.mono ?_
  rintro e w' ⟨rfl, rfl⟩
  go_wp2_with fail
  refine HU2.out.mono ?_
  rintro e w' ⟨rfl, rfl⟩
  have n2 := fun n w => neShf n w ⟨g2, 0, none⟩
  have m2 := fun n w => meShf n w ⟨g2, 0, none⟩
  go_wp2_with fail
  have HB5 := HB
  clear HB
  have HTS2 := Lib.hid (HTS'.out g2)
  rw [show (Ch.shf g2 by' r).text T = r.text T from rfl] at HTS2
  generalize r.text T = s at *
  refine (HTX'.out _ HR5.out.here HV5.out.tab).out.mono ?_
  rintro e w6 ⟨rfl, h1⟩
  have HA6 := Lib.hid (HA5.out.past h1)
  have HB6 := Lib.hid (HB5.out.past h1)
  have HR6 := Lib.hid (HR5.out.past h1)
  have HV6 := Lib.hid (HV5.out.past h1)
  have HP6 := Lib.hid (HP5.out.trans' h1)
  have HX6 := Lib.hid (HX5.out.past h1)
  clear h1 HA5 HB5 HR5 HV5 HP5 HX5
  go_wp2_with fail
  refine (HTX'.out _ HR6.out.here HV6.out.tab).out.mono ?_
  rintro e w7 ⟨rfl, h1⟩
  have HA7 := Lib.hid (HA6.out.past h1)
  have HB7 := Lib.hid (HB6.out.past h1)
  have HR7 := Lib.hid (HR6.out.past h1)
  have HV7 := Lib.hid (HV6.out.past h1)
  have HP7 := Lib.hid (HP6.out.trans' h1)
  have HX7 := Lib.hid (HX6.out.past h1)
  clear h1 HA6 HB6 HR6 HV6 HP6 HX6
  go_wp2_with fail
  refine (HTX'.out _ HR7.out.here HV7.out.tab).out.mono ?_
  rintro e w8 ⟨rfl, h1⟩
  have HA8 := Lib.hid (HA7.out.past h1)
  have HB8 := Lib.hid (HB7.out.past h1)
  have HR8 := Lib.hid (HR7.out.past h1)
  have HV8 := Lib.hid (HV7.out.past h1)
  have HP8 := Lib.hid (HP7.out.trans' h1)
  have HX8 := Lib.hid (HX7.out.past h1)
  clear h1 HA7 HB7 HR7 HV7 HP7 HX7
  go_wp2_with fail
  refine (HTX'.out _ HR8.out.here HV8.out.tab).out.mono ?_
  rintro e w9 ⟨rfl, h1⟩
  have HA9 := Lib.hid (HA8.out.past h1)
  have HB9 := Lib.hid (HB8.out.past h1)
  have HR9 := Lib.hid (HR8.out.past h1)
  have HV9 := Lib.hid (HV8.out.past h1)
  have HP9 := Lib.hid (HP8.out.trans' h1)
  have HX9 := Lib.hid (HX8.out.past h1)
  clear h1 HA8 HB8 HR8 HV8 HP8 HX8
  go_wp2_with fail
  refine (HTS2.out _ HB9.out HV9.out.tab).out.mono ?_
  rintro e w10 ⟨rfl, h1⟩
  have HA10 := Lib.hid (HA9.out.past h1)
  have HB10 := Lib.hid (HB9.out.past h1)
  have HR10 := Lib.hid (HR9.out.past h1)
  have HV10 := Lib.hid (HV9.out.past h1)
  have HP10 := Lib.hid (HP9.out.trans' h1)
  have HX10 := Lib.hid (HX9.out.past h1)
  clear h1 HA9 HB9 HR9 HV9 HP9 HX9
  go_wp2_with fail
  refine (HTX'.out _ HR10.out.here HV10.out.tab).out.mono ?_
  rintro e w11 ⟨rfl, h1⟩
  have HA11 := Lib.hid (HA10.out.past h1)
  have HB11 := Lib.hid (HB10.out.past h1)
  have HR11 := Lib.hid (HR10.out.past h1)
  have HV11 := Lib.hid (HV10.out.past h1)
  have HP11 := Lib.hid (HP10.out.trans' h1)
  have HX11 := Lib.hid (HX10.out.past h1)
  clear h1 HA10 HB10 HR10 HV10 HP10 HX10
  go_wp2_with fail
  have hpa : Past w11 (w11.alloc (.cells #[.int .i64 0, .int .i64 0] 36)) := (Below.refl _ _).alloc (Nat.le_refl _) _
  have HCD := Lib.hid HR11.out.cd
  refine (asFault_any (.shf g2 by' r) w11.heap.size _ _ (HB11.out.past hpa) (HV11.out.glob.past hpa) (Row.new _ _ _) rfl).mono ?_
  intro e w12 hpost
  rw [show (Ch.shf g2 by' r).base = r.base from rfl, HR11.out.base] at hpost
  cases fl with
  | true =>
    obtain ⟨rfl, hr1, ho⟩ := asF_hit hpost
    have f1 := hr1.cell 1
    simp at f1
    have h1 : Past w11 w12 := past_of_only hpa ho hpa.size (Nat.le_refl _)
    clear hpost hr1 ho hpa
    have hx := HX11.out.past h1
    have x2 := hx.cell 2
    have x3 := hx.cell 3
    have x4 := hx.cell 4
    simp at x2 x3 x4
    have HA12 := Lib.hid (HA11.out.past h1)
    have HB12 := Lib.hid (HB11.out.past h1)
    have HP12 := Lib.hid (HP11.out.trans' h1)
    have HX12 := Lib.hid (HX11.out.past h1)
    clear h1 hx HA11 HB11 HV11 HP11 HX11 HR11
    go_wp2_with fail
    refine (isCode_any (.loc g1 part r) c true _ HA12.out (by rw [show (Ch.loc g1 part r).cd = r.cd from rfl, HCD.out]; simp)).mono ?_
    rintro e w13 ⟨rfl, h1⟩
    have hx := HX12.out.past h1
    clear x2 x3 x4
    have x2 := hx.cell 2
    simp at x2
    have HB13 := Lib.hid (HB12.out.past h1)
    have HP13 := Lib.hid (HP12.out.trans' h1)
    have HX13 := Lib.hid (HX12.out.past h1)
    clear h1 hx HA12 HB12 HP12 HX12
    go_wp2_with fail
    refine (isCode_any (.shf g2 by' r) c true _ HB13.out (by rw [show (Ch.shf g2 by' r).cd = r.cd from rfl, HCD.out]; simp)).mono ?_
    rintro e w14 ⟨rfl, h1⟩
    have hx := HX13.out.past h1
    clear x2
    have x2 := hx.cell 2
    simp at x2
    have HB14 := Lib.hid (HB13.out.past h1)
    have HP14 := Lib.hid (HP13.out.trans' h1)
    clear h1 hx HB13 HP13 HX13
    go_wp2_with fail
    refine (isCode_any (.shf g2 by' r) (wrap64 (c + 1)) false _ HB14.out (by rw [show (Ch.shf g2 by' r).cd = r.cd from rfl, HCD.out]; exact next_ne c)).mono ?_
    rintro e w15 ⟨rfl, h1⟩
    have HP15 := Lib.hid (HP14.out.trans' h1)
    clear h1
    go_wp2_with fail
    go_ret
    exact ⟨rfl, HP15.out⟩
  | false =>
    obtain ⟨rfl, hr1, ho⟩ := asF_miss hpost
    have h1 : Past w11 w12 := hpa.trans' ho
    clear hpost hr1 ho hpa
    have hx := HX11.out.past h1
    have x2 := hx.cell 2
    have x3 := hx.cell 3
    have x4 := hx.cell 4
    simp at x2 x3 x4
    have HA12 := Lib.hid (HA11.out.past h1)
    have HB12 := Lib.hid (HB11.out.past h1)
    have HP12 := Lib.hid (HP11.out.trans' h1)
    have HX12 := Lib.hid (HX11.out.past h1)
    clear h1 hx HA11 HB11 HV11 HP11 HX11 HR11
    go_wp2_with fail
    refine (isCode_any (.loc g1 part r) c true _ HA12.out (by rw [show (Ch.loc g1 part r).cd = r.cd from rfl, HCD.out]; simp)).mono ?_
    rintro e w13 ⟨rfl, h1⟩
    have hx := HX12.out.past h1
    clear x2 x3 x4
    have x2 := hx.cell 2
    simp at x2
    have HB13 := Lib.hid (HB12.out.past h1)
    have HP13 := Lib.hid (HP12.out.trans' h1)
    have HX13 := Lib.hid (HX12.out.past h1)
    clear h1 hx HA12 HB12 HP12 HX12
    go_wp2_with fail
    refine (isCode_any (.shf g2 by' r) c true _ HB13.out (by rw [show (Ch.shf g2 by' r).cd = r.cd from rfl, HCD.out]; simp)).mono ?_
    rintro e w14 ⟨rfl, h1⟩
    have hx := HX13.out.past h1
    clear x2
    have x2 := hx.cell 2
    simp at x2
    have HB14 := Lib.hid (HB13.out.past h1)
    have HP14 := Lib.hid (HP13.out.trans' h1)
    clear h1 hx HB13 HP13 HX13
    go_wp2_with fail
    refine (isCode_any (.shf g2 by' r) (wrap64 (c + 1)) false _ HB14.out (by rw [show (Ch.shf g2 by' r).cd = r.cd from rfl, HCD.out]; exact next_ne c)).mono ?_
    rintro e w15 ⟨rfl, h1⟩
    have HP15 := Lib.hid (HP14.out.trans' h1)
    clear h1
    go_wp2_with fail
    go_ret
    exact ⟨rfl, HP15.out⟩

end Go.Proofs.YtjaklopkammmdaaDoor
