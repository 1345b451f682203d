/- For every slice of bytes, place and byte the law PemChanges of package pyxlaw12 returns true, where the variables hold what the program's text lays. -/
import Derived.Test.YtnnonidiogoffaaGreatDoorFrame12
import Derived.Deep.RegionLaw
import Derived.Deep.CutRange
namespace Go.Proofs.YtnnonidiogoffaaGreatDoor.pemChanges
open Go.RowKit Go.ChangeShapes Go.WideShapes Go.ChangeAt
set_option linter.unusedVariables false

abbrev pkS : ByteArray := ⟨#[80, 85, 66, 76, 73, 67, 32, 75, 69, 89]⟩
theorem pk_lab : labB (ints pkS) = true := ex_pk
theorem pk_size (n : Nat) (h : n ≤ 300) : sizeN (ints pkS) n ≤ 1000 := by
  have e : (ints pkS).length = 10 := by kernel_rfl
  unfold sizeN
  split
  · rw [rlen_1, e]; omega
  · omega
theorem pk_pos (n : Nat) (h : 1 ≤ n) : 1 ≤ sizeN (ints pkS) n := by unfold sizeN; rw [if_pos ⟨pk_lab, h⟩]; omega
theorem arm_rng {lab ys : List Int} (hl : ∀ x ∈ lab, 0 ≤ x ∧ x < 256) : ∀ x ∈ armL lab ys, 0 ≤ x ∧ x < 256 := by
  intro x hx
  obtain ⟨p, hp, hx⟩ := List.mem_flatMap.1 hx
  rcases List.mem_append.1 hx with hx | hx
  · rcases List.mem_cons.1 hp with rfl | hp
    · exact (rng_beg hl).1 x (List.mem_append.2 (.inl hx))
    · rcases List.mem_append.1 hp with hp | hp
      · exact renc_rng _ _ _ x (chk_mem hp x hx)
      · rw [List.mem_singleton] at hp
        subst hp
        exact (rng_beg hl).2 x (List.mem_append.2 (.inl hx))
  · simp at hx
    omega
/-- A byte that lies somewhere, as a text. -/
theorem conv_at (c : Int) (hc0 : 0 ≤ c) (hc1 : c < 256) (W : World) (g : Nat) (h : W.cell? ⟨g, 0, none⟩ = some (.int .u8 c)) : (convert 22 9 (.slice (some ⟨g, 0, none⟩) 1 1)).run Tryz.prog W = .ok (.string (txt [c])) W :=
  conv_sl (P := Tryz.prog) (src := 22) (dst := 9) (e := 5) Tryz.underlying22 Tryz.underlying5 Tryz.underlying9 ⟨rfl, Nat.le_refl _, by unfold maxLen; omega, fun _ => ⟨g, 0, rfl, fun i hi => by
    obtain rfl : i = 0 := by omega
    exact h⟩, by simp; omega, fun e => by cases e⟩
/-- What one of the three texts is read as: never the label and the bytes, unless it is the armour itself. -/
theorem no_other {X : ByteArray} {S : ByteArray} {ys : List Int} (hS : txt (armL (ints pkS) ys) = S) (hX : X ≠ S) {ys' : List Int} (h : parP (ints X) = .ok (ints pkS) ys') : sameB ys' ys = false := by
  cases hb : sameB ys' ys with
  | false => rfl
  | true =>
    exfalso
    have e := sameB_true hb
    subst e
    obtain ⟨_, _, _, h4⟩ := par_ok h (ints_rngs X)
    apply hX
    rw [← hS, ← h4, txt_of_ints]
set_option maxHeartbeats 8000000 in
set_option maxRecDepth 100000 in
theorem walk (A : Option Addr) (n c : Nat) (zs : List Int) (p ch : Int) (w : World) (hR : IsRow .u8 w A n c zs) (hp : (Lit.int .u16 p).wf = true) (hc : (Lit.int .u8 ch).wf = true) (hG : Glob w) :
    Calls Tryz.prog 5 #[.slice A n c, .int .u16 p, .int .u8 ch] w fun e w' => e = .returned (.bool true) ∧ Past w w' := by
  have HA := Lib.hid (fun w hG => awake12 w hG)
  have HG := Lib.hid hG
  have hS := Sl.of_row hR
  obtain ⟨xs, hxs⟩ : ∃ xs, zs.take n = xs := ⟨_, rfl⟩
  rw [hxs] at hS
  obtain ⟨hp0, hp1⟩ := bounds_u16 hp
  obtain ⟨hc0, hc1'⟩ := bounds_u8 hc
  have hc1 : ch < 256 := by omega
  clear hc1'
  clear hG hR hxs hp hc
  by_cases h0 : n = 0
  · have h0b : ((n : Int) == 0) = true := by simp [h0]
    have h0i : (n : Int) = 0 := by omega
    clear h0 hS hp0 hp1 hc0 hc1 h0i
    go_enter Tryz.func5, Tryz.ntmps5
    go_wp2_with fail
    refine (HA.out _ HG.out).mono ?_
    rintro e w1 ⟨rfl, hp⟩
    have H1 := Lib.hid hp
    clear hp
    go_wp2_with fail
    refine (HA.out _ (HG.out.past H1.out)).mono ?_
    rintro e w2 ⟨rfl, hp⟩
    have H2 : Hid (Past w w2) := Lib.hid (H1.out.trans' hp)
    clear hp H1
    go_wp2_with fail
    go_ret
    exact ⟨rfl, H2.out⟩
  · have h0b : ((n : Int) == 0) = false := by simp; omega
    by_cases h1 : n ≤ 300
    · have h1i : ¬ (300 : Int) < (n : Int) := by omega
      have HS := Lib.hid hS
      have hlen := hS.len
      have hx0 : xs ≠ [] := by rintro rfl; simp at hlen; omega
      have HT := Lib.hid (fun w h => rtext_any pkS A n c xs w h (by omega) (by decide))
      have hrt : rtextL (ints pkS) xs = armL (ints pkS) xs := by unfold rtextL; exact if_pos ⟨pk_lab, hx0⟩
      rw [hrt] at HT
      obtain ⟨S, hSe⟩ : ∃ S, txt (armL (ints pkS) xs) = S := ⟨_, rfl⟩
      have hSz : S.size = sizeN (ints pkS) n := by rw [← hSe, tsz, arm_len pk_lab hx0, hlen]
      have hS1 := pk_size n h1
      have hS2 := pk_pos n (by omega)
      rw [hSe] at HT
      have HSE := Lib.hid hSe
      obtain ⟨z, hz⟩ : ∃ z, S.size = z := ⟨_, rfl⟩
      have hzS : sizeN (ints pkS) n = z := by omega
      rw [hzS] at hS1 hS2
      obtain ⟨I, hI⟩ : ∃ I : Nat, p.tmod (z : Int) = (I : Int) := ⟨(p.tmod (z : Int)).toNat, (Int.toNat_of_nonneg (by rw [Int.tmod_eq_emod_of_nonneg hp0]; exact Int.emod_nonneg _ (by omega))).symm⟩
      have hIz : I < z := by
        rw [Int.tmod_eq_emod_of_nonneg hp0] at hI
        have := Int.emod_lt_of_pos p (show (0 : Int) < (z : Int) by omega)
        omega
      have hIe : p % (z : Int) = (I : Int) := by rw [← hI, Int.tmod_eq_emod_of_nonneg hp0]
      obtain ⟨J, hJ⟩ : ∃ J, I + 1 = J := ⟨_, rfl⟩
      have hwJ : IntKind.i64.wrap ((I : Int) + 1) = (J : Int) := by rw [IntKind.wrap_i64]; omega
      have hsl1 := fun w : World => run_slice_string_h (P := Tryz.prog) w 9 S Tryz.underlying9 .i64 (I : Int) (by omega) (by omega)
      have hsl2 := fun w : World => run_slice_string_l (P := Tryz.prog) w 9 S Tryz.underlying9 .i64 (J : Int) (by omega) (by omega)
      have hsl3 := fun w : World => run_slice_string_l (P := Tryz.prog) w 9 S Tryz.underlying9 .i64 (I : Int) (by omega) (by omega)
      have hsl1A : ∀ w : World, (Instr.sliceAt 9 (.string S) none (some (.int .i64 (I : Int))) none).run Tryz.prog w = .ok (.string (S.extract 0 (I : Int).toNat)) w := fun w => by rw [run_sliceAt_string w 9 _ _ _ _ Tryz.underlying9]; exact hsl1 w
      have hsl2A : ∀ w : World, (Instr.sliceAt 9 (.string S) (some (.int .i64 (J : Int))) none none).run Tryz.prog w = .ok (.string (S.extract (J : Int).toNat S.size)) w := fun w => by rw [run_sliceAt_string w 9 _ _ _ _ Tryz.underlying9]; exact hsl2 w
      have hsl3A : ∀ w : World, (Instr.sliceAt 9 (.string S) (some (.int .i64 (I : Int))) none none).run Tryz.prog w = .ok (.string (S.extract (I : Int).toNat S.size)) w := fun w => by rw [run_sliceAt_string w 9 _ _ _ _ Tryz.underlying9]; exact hsl3 w
      have q1 : (S.extract 0 (I : Int).toNat).size ≤ 1000 := by rw [ByteArray.size_extract]; omega
      have q2 : (S.extract (J : Int).toNat S.size).size ≤ 1000 := by rw [ByteArray.size_extract]; omega
      have q3 : (S.extract (I : Int).toNat S.size).size ≤ 1000 := by rw [ByteArray.size_extract]; omega
      generalize S.extract 0 (I : Int).toNat = P1 at *
      generalize S.extract (J : Int).toNat S.size = P2 at *
      generalize S.extract (I : Int).toNat S.size = P3 at *
      have q4 : (txt [ch]).size = 1 := rfl
      have hcv := conv_at ch hc0 hc1
      generalize txt [ch] = CH at *
      have ha1 := fun w : World => run_string_add_sum (P := Tryz.prog) (w := w) P1 CH (by omega)
      obtain ⟨B, hB⟩ : ∃ B, P1 ++ CH = B := ⟨_, rfl⟩
      have q5 : B.size ≤ 1001 := by rw [← hB, ByteArray.size_append]; omega
      rw [hB] at ha1
      have ha2 := fun w : World => run_string_add_sum (P := Tryz.prog) (w := w) B P2 (by omega)
      have ha3 := fun w : World => run_string_add_sum (P := Tryz.prog) (w := w) B P3 (by omega)
      have ha4 := fun w : World => run_string_add_sum (P := Tryz.prog) (w := w) P1 P2 (by omega)
      have q6 : (B ++ P2).size ≤ 3000 := by rw [ByteArray.size_append]; omega
      have q7 : (B ++ P3).size ≤ 3000 := by rw [ByteArray.size_append]; omega
      have q8 : (P1 ++ P2).size ≤ 3000 := by rw [ByteArray.size_append]; omega
      obtain ⟨T0, hT0⟩ : ∃ T0, B ++ P2 = T0 := ⟨_, rfl⟩
      obtain ⟨T1, hT1⟩ : ∃ T1, B ++ P3 = T1 := ⟨_, rfl⟩
      obtain ⟨T2, hT2⟩ : ∃ T2, P1 ++ P2 = T2 := ⟨_, rfl⟩
      rw [hT0] at ha2 q6
      rw [hT1] at ha3 q7
      rw [hT2] at ha4 q8
      have hzi : (S.size : Int) = (z : Int) := by omega
      have hz0 : ((z : Int) == 0) = false := by simp; omega
      have hz0' : ¬ (z : Int) = 0 := by omega
      have HQ : Hid (T0.size ≤ 3000 ∧ T1.size ≤ 3000 ∧ T2.size ≤ 3000) := Lib.hid ⟨q6, q7, q8⟩
      have HC0 : Hid (0 ≤ ch ∧ ch < 256) := Lib.hid ⟨hc0, hc1⟩
      clear hSe hSz hS1 hS2 hzS hrt hx0 hlen hS h0 h1 hJ hIz q1 q2 q3 q4 q5 q6 q7 q8 hB hT0 hT1 hT2 hz hc0 hc1 hsl1 hsl2 hsl3
      go_enter Tryz.func5, Tryz.ntmps5
      go_wp2_with fail
      refine (HA.out _ HG.out).mono ?_
      rintro e w1 ⟨rfl, hp⟩
      have H1 := Lib.hid hp
      clear hp
      go_wp2_with fail
      refine (HT.out _ (HS.out.past H1.out)).mono ?_
      rintro e w2 ⟨rfl, hp⟩
      have H2 : Hid (Past w w2) := Lib.hid (H1.out.trans' hp)
      clear hp H1
      go_wp2_with fail
      go_cut [9] from 34 to 66 (fun s9 wx => ∃ G : Nat, s9 = .slice (some ⟨G, 0, none⟩) 3 3 ∧ Hid (Past w wx ∧ Row wx G 9 #[.string T0, .string T1, .string T2]))
      case first =>
        go_region_law (fail)
        all_goals
          go_simp
          go_wp2_with fail
          go_meet
          refine ⟨_, rfl, Lib.hid ⟨?_, ?_⟩⟩
          · exact H2.out.trans' (Past.drewN (((past_alloc8 _ _).trans' (past_alloc8 _ _)).trans' (past_alloc8 _ _)) 1)
          · have h := Row.new ((w2.alloc (.cells #[.int .u8 ch] 5)).alloc (.cells #[.int .u8 ch] 5)) 9 #[.string T0, .string T1, .string T2]
            rw [World.size_alloc, World.size_alloc] at h
            exact h
      obtain ⟨G, rfl, HCC⟩ := hcut
      have HX : Hid (∀ k, k < 3 → ∃ X : ByteArray, X.size ≤ 3000 ∧ (#[.string T0, .string T1, .string T2] : Array Value)[k]? = some (.string X)) := Lib.hid (fun k hk => by
        rcases k with _ | _ | _ | k
        · exact ⟨T0, HQ.out.1, rfl⟩
        · exact ⟨T1, HQ.out.2.1, rfl⟩
        · exact ⟨T2, HQ.out.2.2, rfl⟩
        · omega)
      clear ha1 ha2 ha3 ha4 hcv hsl1A hsl2A hsl3A hwJ hI hIe hz0 hz0' hzi
      go_wp2_with fail
      go_loopg [10] 3 (fun q s10 wx => ∃ k : Nat, k ≤ 3 ∧ q = 3 - k ∧ s10 = .int .i64 (k : Int) ∧ Hid (Past w wx ∧ Row wx G 9 #[.string T0, .string T1, .string T2]))
      case atStart => exact ⟨0, by omega, rfl, rfl, HCC⟩
      case round =>
        obtain ⟨k, hk, hgk, rfl, HP⟩ := hrel
        have HGK := Lib.hid hgk
        clear HCC
        by_cases hlt : k < 3
        · have hki : (k : Int) < 3 := by omega
          have hk0 : (0 : Int) ≤ (k : Int) := by omega
          have HLT := Lib.hid hlt
          obtain ⟨X, hXz, hXc⟩ := HX.out k hlt
          have hcell := HP.out.2.cell k
          rw [hXc] at hcell
          have HXC := Lib.hid hXc
          have hcv := Lib.run_convert_string_bytes (P := Tryz.prog) wr 9 22 5 X Tryz.underlying9 Tryz.underlying22 Tryz.underlying5
          have hsl := sl_bytes12 wr X (by unfold maxLen; omega)
          have hpb := past_bytes12 wr X
          obtain ⟨cD, hcD⟩ : ∃ cD, grownCap wr X.size 0 5 = cD := ⟨_, rfl⟩
          obtain ⟨wb, hwb⟩ : ∃ wb, Lib.bytesWorld wr 5 X = wb := ⟨_, rfl⟩
          obtain ⟨D, hDD⟩ : ∃ D, wr.heap.size = D := ⟨_, rfl⟩
          obtain ⟨m, hm⟩ : ∃ m, X.size = m := ⟨_, rfl⟩
          rw [hcD, hwb, hDD, hm] at hcv
          rw [hcD, hwb, hDD, hm] at hsl
          rw [hwb] at hpb
          have HPZ := Lib.hid (parse_any (some ⟨D, 0, none⟩) m cD (ints X) wb hsl (by omega))
          have HB : Hid (Past w wb ∧ Row wb G 9 #[.string T0, .string T1, .string T2]) := Lib.hid ⟨HP.out.1.trans' hpb, HP.out.2.past hpb⟩
          obtain ⟨k2, hk2⟩ : ∃ k2, k + 1 = k2 := ⟨_, rfl⟩
          have hwk : IntKind.i64.wrap ((k : Int) + 1) = (k2 : Int) := by rw [IntKind.wrap_i64]; omega
          have HK2 := Lib.hid hk2
          clear hk hgk hlt hXz hXc hsl hpb hcD hwb hDD hm hk2 HP
          go_wp2_with fail
          refine (HPZ.out).mono ?_
          rintro e w4 ⟨he, hp⟩
          have H4 : Hid (Past w w4 ∧ Row w4 G 9 #[.string T0, .string T1, .string T2]) := Lib.hid ⟨HB.out.1.trans' hp, HB.out.2.past hp⟩
          have hc4 := H4.out.2.cell k
          rw [HXC.out] at hc4
          clear hp HB HPZ hcell hcv
          cases hpx : parP (ints X) with
          | err cc =>
            rw [hpx] at he
            obtain rfl := he
            clear hpx
            by_cases hXS : X = S
            case' pos => have hq : (X.toList == S.toList) = true := by rw [hXS]; simp
            case' neg => have hq : (X.toList == S.toList) = false := by
                           simp only [beq_eq_false_iff_ne]
                           exact fun h => hXS (toList_inj h)
            all_goals
              clear hXS
              unfold cdV
              go_wp2_with fail
              go_roundg (3 - (k + 1))
              case rel => exact ⟨k + 1, HLT.out, rfl, by first | go_num | (congr 1; have := HK2.out; omega), H4⟩
              case measure => have := HGK.out; have := HLT.out; omega
          | ok lab ys =>
            rw [hpx] at he
            obtain ⟨A5, m5, c5, rfl, hS5⟩ := he
            by_cases hXS : X = S
            · have hq : (X.toList == S.toList) = true := by rw [hXS]; simp
              clear hXS hpx hS5
              go_wp2_with fail
              go_roundg (3 - (k + 1))
              case rel => exact ⟨k + 1, HLT.out, rfl, by first | go_num | (congr 1; have := HK2.out; omega), H4⟩
              case measure => have := HGK.out; have := HLT.out; omega
            · have hq : (X.toList == S.toList) = false := by
                simp only [beq_eq_false_iff_ne]
                exact fun h => hXS (toList_inj h)
              have hlr : ∀ x ∈ lab, 0 ≤ x ∧ x < 256 := fun x hx => by
                have := up_rng (labB_in (par_ok hpx (ints_rngs X)).1 x hx)
                omega
              have hpl : pkS.toList = [80, 85, 66, 76, 73, 67, 32, 75, 69, 89] := by kernel_rfl
              by_cases hlk : lab = ints pkS
              · have hq2 : ((txt lab).toList == [80, 85, 66, 76, 73, 67, 32, 75, 69, 89]) = true := by rw [hlk, txt_of_ints, hpl]; rfl
                have hns := no_other (ys := xs) HSE.out hXS (by rw [← hlk]; exact hpx)
                have HSM := Lib.hid (rsame_any A5 A m5 n c5 c ys xs w4 hS5 (HS.out.past H4.out.1))
                rw [hns] at HSM
                generalize txt lab = LT at *
                clear hXS hpx hS5 hlr hlk hns hpl
                go_wp2_with fail
                refine (HSM.out).mono ?_
                rintro e w5 ⟨rfl, q5, hw5⟩
                have hp5 : Past w4 w5 := by rw [hw5]; exact Past.drewN (Below.refl _ _) q5
                have H5 : Hid (Past w w5 ∧ Row w5 G 9 #[.string T0, .string T1, .string T2]) := Lib.hid ⟨H4.out.1.trans' hp5, H4.out.2.past hp5⟩
                clear hw5 hp5 HSM
                go_wp2_with fail
                go_roundg (3 - (k + 1))
                case rel => exact ⟨k + 1, HLT.out, rfl, by first | go_num | (congr 1; have := HK2.out; omega), H5⟩
                case measure => have := HGK.out; have := HLT.out; omega
              · have hq2 : ((txt lab).toList == [80, 85, 66, 76, 73, 67, 32, 75, 69, 89]) = false := by
                  simp only [beq_eq_false_iff_ne]
                  intro h
                  rw [← hpl] at h
                  apply hlk
                  rw [← toList_inj h, ints_txt hlr]
                generalize txt lab = LT at *
                clear hXS hpx hS5 hlr hlk hpl
                go_wp2_with fail
                go_roundg (3 - (k + 1))
                case rel => exact ⟨k + 1, HLT.out, rfl, by first | go_num | (congr 1; have := HK2.out; omega), H4⟩
                case measure => have := HGK.out; have := HLT.out; omega
        · obtain rfl : k = 3 := by omega
          clear hk hgk hlt
          go_wp2_with fail
          go_ret
          exact ⟨rfl, HP.out.1⟩
    · have h1i : (300 : Int) < (n : Int) := by omega
      clear h0 h1 hS hp0 hp1 hc0 hc1
      go_enter Tryz.func5, Tryz.ntmps5
      go_wp2_with fail
      refine (HA.out _ HG.out).mono ?_
      rintro e w1 ⟨rfl, hp⟩
      have H1 := Lib.hid hp
      clear hp
      go_wp2_with fail
      refine (HA.out _ (HG.out.past H1.out)).mono ?_
      rintro e w2 ⟨rfl, hp⟩
      have H2 : Hid (Past w w2) := Lib.hid (H1.out.trans' hp)
      clear hp H1
      go_wp2_with fail
      go_ret
      exact ⟨rfl, H2.out⟩


def args0 : Array Value := #[.slice none 0 0, .int .u16 0, .int .u8 0]
theorem laid_met (os : Os) : laidMetH Tryz.prog Rows.pemChangesRow.laid ((laidWorld os).forCall (fun _ _ => 0) ⟨#[], args0, []⟩).memory :=
  laid_world os args0
theorem witness_row (os : Os) {H : Type} (enc : TypeId × Value → H) :
    (OpenSpec.ofChange Rows.pemChangesSpec).preRow enc Tryz.prog Tryz.f5 Rows.pemChangesRow.domain false Rows.pemChangesRow.laid ((laidWorld os).forCall (fun _ _ => 0) ⟨#[], args0, []⟩).memory args0 := by
  have hw : (DataW.whole enc Tryz.prog ((laidWorld os).forCall (fun _ _ => 0) ⟨#[], args0, []⟩).memory Tryz.f5.params.toList (OpenSpec.ofChange Rows.pemChangesSpec).vars false args0.toList 8).map (fun x => (x.1, x.2.1)) =
      some ([.nil, .lit (.int .u16 0), .lit (.int .u8 0)], []) := by kernel_rfl
  obtain ⟨⟨x1, x2, x3⟩, hx, hx1⟩ := Option.map_eq_some_iff.1 hw
  simp only [Prod.mk.injEq] at hx1
  obtain ⟨rfl, rfl⟩ := hx1
  exact OpenSpec.preRow_of_cond 8 hx (by kernel_rfl) (fun k hk => by cases hk) (by kernel_rfl) (laid_met os)

set_option maxRecDepth 100000 in
set_option maxHeartbeats 2000000 in
theorem lifted (os : Os) (started : os.Started) (H : Type) (enc : TypeId × Value → H) (F : Stop.Interp) :
    ReturnsInHanded {} Tryz.checked os 5 .any ((OpenSpec.ofChange Rows.pemChangesSpec).preRow enc Tryz.prog Tryz.f5 Rows.pemChangesRow.domain false Rows.pemChangesRow.laid) (((OpenSpec.ofChange Rows.pemChangesSpec).at F).post enc Tryz.prog Tryz.f5 false true false false) := by
  refine returnsInHanded_of_row (C := Tryz.checked) (s := OpenSpec.ofChange Rows.pemChangesSpec) own started (by kernel_rfl) Tryz.func5
    (witness_row_atRef (enc := enc) (C := Tryz.checked) false (laidWorld os) args0 rfl (by kernel_rfl) (by kernel_rfl) (by kernel_rfl) (witness_row os enc)) ?_
  intro W base args ds gs before hval0 hW _ hcnd _ hL hsh _
  have hval : ∀ (j : Nat) t v, Tryz.f5.params[j]? = some t → args[j]? = some v → Value.okWide Tryz.prog W .any base t v := hval0
  have hW' := hW
  obtain ⟨p, q, hA0, hV, rfl, hfz, hnd⟩ := hW
  have hA : DataW.TrodAll enc Tryz.prog W 0 (fun _ => true) true Tryz.f5.params.toList args.toList ds p := hA0
  rw [Tryz.params5] at hA hval
  obtain ⟨v0, vs0, d0, ds0, p0, q0, hargs, rfl, rfl, h0, r0⟩ := trodAll_cons hA
  obtain ⟨v1, vs1, d1, ds1, p1, q1, rfl, rfl, rfl, h1, r1⟩ := trodAll_cons r0
  obtain ⟨v2, vs2, d2, ds2, p2, q2, rfl, rfl, rfl, h2, r2⟩ := trodAll_cons r1
  obtain ⟨rfl, rfl, rfl⟩ := trodAll_nil r2
  obtain rfl : args = #[v0, v1, v2] := by cases args; simp_all
  obtain ⟨rfl, rfl⟩ := trodVars_none hV
  have k0 := h0
  have lt0 : ∀ x ∈ p0, x.block < W.heap.size := by obtain ⟨m, hm⟩ := k0; exact DataW.trod_lt m _ _ _ hm
  obtain ⟨a0, len0, cap0, rfl⟩ := okWide_slice Tryz.underlying22 (hval 0 22 v0 rfl rfl)
  obtain ⟨z0, w0⟩ := row_of h0
  obtain ⟨a1, rfl, rfl, rfl, w1⟩ := open_int Tryz.underlying43 (hval 1 43 v1 rfl rfl) h1
  obtain ⟨a2, rfl, rfl, rfl, w2⟩ := open_int Tryz.underlying5 (hval 2 5 v2 rfl rfl) h2
  have hG := glob_of_row hL hsh
  clear hA0 hval0
  refine (walk a0 len0 cap0 z0 a1 a2 W w0 w1 w2 hG).mono fun e W' ⟨he, bel⟩ => ?_
  subst he
  exact ⟨_, rfl, _, _, _, [], _, [], hW', trodAll_mk1 (shut_bool Tryz.underlying4 _), (trodAll_cons_mk (Below.trod laidOut (by kernel_rfl) (of_decide_eq_true (by kernel_rfl)) k0 bel lt0) (trodAll_cons_mk (shut_int Tryz.underlying43 w1) (trodAll_cons_mk (shut_int Tryz.underlying5 w2) trodAll_mk0))), rfl, bel.frame _, fun h => by cases h⟩

theorem row_holds : Rows.PemChangesSaid :=
  OpenClaim.holds_of_cond 5 Tryz.f5 rfl rfl rfl rfl rfl rfl rfl ⟨rfl, rfl, rfl, rfl, rfl⟩ rfl rfl rfl rfl rfl (by kernel_rfl) Tryz.func5 (by kernel_rfl)
    (of_decide_eq_true (by kernel_rfl)) (by unfold Func.isWrapper; first | (rw [if_pos (by decide +kernel)]; kernel_rfl) | (rw [if_neg (by decide +kernel)]; exact ⟨rfl, rfl⟩))
    (fun os started H enc _ F0 => by rw [OpenClaim.pre_eq_preRow]; exact lifted os started H enc F0)

theorem card : Rows.PemChangesCardSaid :=
  Claim7.holds_tied_plain_at .later [] [.data, .handle, .pinned] true Rows.pemChangesCard.stood.harness true
    row_holds (fun _ h => by cases h) (by kernel_rfl) (fun _ h => by cases h) pemChanges_row_tie rfl ⟨rfl, rfl⟩ (by kernel_rfl) rfl
    (fun f fn hf hfn => by
      obtain rfl : f = 5 := Option.some.inj ((show Tryz.prog.funcNamed "pyx/pyxlaw12.PemChanges" = some 5 by kernel_rfl).symm.trans hf) |>.symm
      obtain rfl : fn = Tryz.f5 := (Option.some.inj (Tryz.func5.symm.trans hfn)).symm
      exact ⟨by kernel_rfl, fun j t ht => by
        rw [Tryz.params5] at ht
        have h3 : t = 22 ∨ t = 43 ∨ t = 5 := by
          rcases j with _ | _ | _ | j
          · exact .inl (by simpa using ht.symm)
          · exact .inr (.inl (by simpa using ht.symm))
          · exact .inr (.inr (by simpa using ht.symm))
          · simp at ht
        rcases h3 with rfl | rfl | rfl
        · exact (show Tryz.prog.wantsStandIn 22 = false by kernel_rfl)
        · exact (show Tryz.prog.wantsStandIn 43 = false by kernel_rfl)
        · exact (show Tryz.prog.wantsStandIn 5 = false by kernel_rfl)⟩)
    (by kernel_rfl)


end Go.Proofs.YtnnonidiogoffaaGreatDoor.pemChanges
