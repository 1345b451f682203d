/- For every list of parts of bulk at most the bound of the second form the law HashMatchesReference of package pyxlaw07 returns true. -/
import Derived.Test.YtamgbkadiobklaaFrame7
import Derived.Test.YtamgbkadiobklaaImp7
namespace Go.Proofs.Ytamgbkadiobklaa.hashMatchesReference
open Go.ChangeShapes Go.WideShapes Go.ChangeAt Go.RowKit
set_option linter.unusedVariables false

theorem run_sliceAt_array_all {P : Program} (w : World) (t : TypeId) (a : Addr) (ht : P.underlying t = some (.array (P.arrayLen t) (P.elem t))) :
    (Instr.sliceAt t (.pointer (some a)) none none none).run P w = ((sizeOf (P.elem t)).run P w).andThen fun s w => .ok (slicedAt a 0 (P.arrayLen t) (P.arrayLen t) s) w := by
  simp [Instr.sliceAt, Instr.sureAddr, slicedAt, run_underlying ht, Instr.sliceBounds]
theorem slice32 (g : Nat) (w : World) : (Instr.sliceAt 27 (.pointer (some ⟨g, 0, none⟩)) none none none).run Try.prog w = .ok (.slice (some ⟨g, 0, none⟩) 32 32) w := by
  have hl : Try.prog.arrayLen 27 = 32 := by kernel_rfl
  rw [run_sliceAt_array_all w 27 ⟨g, 0, none⟩ Try.underlying27]
  have hs : (sizeOf (Try.prog.elem 27)).run Try.prog w = .ok 1 w := by kernel_rfl
  rw [hs]
  simp only [Result.andThen, slicedAt, hl]
  rw [if_neg (by omega), add_none]
theorem slice64 (g : Nat) (w : World) : (Instr.sliceAt 29 (.pointer (some ⟨g, 0, none⟩)) none none none).run Try.prog w = .ok (.slice (some ⟨g, 0, none⟩) 64 64) w := by
  have hl : Try.prog.arrayLen 29 = 64 := by kernel_rfl
  rw [run_sliceAt_array_all w 29 ⟨g, 0, none⟩ Try.underlying29]
  have hs : (sizeOf (Try.prog.elem 29)).run Try.prog w = .ok 1 w := by kernel_rfl
  rw [hs]
  simp only [Result.andThen, slicedAt, hl]
  rw [if_neg (by omega), add_none]
theorem Sl.ofHsh {w : World} {g n R : Nat} {s : Int} {t : TypeId} {xs : List Int} (h : Row w g t (hsh xs R s n)) (hn : n ≤ 1000) : Sl w (some ⟨g, 0, none⟩) n n (bl (rout (rstate xs R s) R) n) :=
  Sl.ofRow (f := rout (rstate xs R s) R) h (Nat.le_refl _) hn (rout_rng _ _)

set_option maxHeartbeats 2000000 in
theorem walk (H : Prog7) (P : Option Addr) (n c : Nat) (V : Nat → Option Addr) (C : Nat → Nat) (X : Nat → List Int) (w : World) (h : Sls w P n c V C X) (hl : (cat X n).length ≤ 140737488355328) :
    Calls Try.prog 3 #[.slice P n c] w fun e w' => e = .returned (.bool true) ∧ Past w w' := by
  have HA := Lib.hid (awake_any H)
  by_cases hno : 20 < n ∨ 1000 < (cat X n).length
  · have HF := Lib.hid (few_no P n c V C X w h hl hno)
    clear h hl hno
    go_enter Try.func3, Try.ntmps3
    go_wp2_with fail
    refine HF.out.mono ?_
    rintro e w1 ⟨v, rfl, hp⟩
    have H1 := Lib.hid hp
    clear hp HF
    go_wp2_with fail
    refine (HA.out _).mono ?_
    rintro e w2 ⟨rfl, hp⟩
    have H2 := Lib.hid (H1.out.trans' hp)
    clear hp H1
    go_wp2_with fail
    refine (HA.out _).mono ?_
    rintro e w3 ⟨rfl, hp⟩
    have H3 := Lib.hid (H2.out.trans' hp)
    clear hp H2
    go_wp2_with fail
    go_ret
    exact ⟨rfl, H3.out⟩
  · have hn : n ≤ 20 := by omega
    have hm : (cat X n).length ≤ 1000 := by omega
    have HF := Lib.hid (few_yes P n c V C X w h hn hm)
    have HS := Lib.hid h
    have HM := Lib.hid hm
    have h2 := fun w1 (hp : Past w w1) => H.sha256 P n c V C X w1 (HS.out.past hp) (by omega) hm
    have h3 := fun w1 (hp : Past w w1) => H.sha512 P n c V C X w1 (HS.out.past hp) (by omega) hm
    have H256 := Lib.hid h2
    have H512 := Lib.hid h3
    have hi1 : (Try.prog.info? 27).map (·.size) = some (hsh (cat X n) 136 6 32).size := by unfold hsh; rw [arr_size]; kernel_rfl
    have hs1 : (arr .u8 32 fun _ => 0).size = (hsh (cat X n) 136 6 32).size := by unfold hsh; rw [arr_size, arr_size]
    have ho1 : (hsh (cat X n) 136 6 32).all (·.oneCell') = true := arr_one .u8 32 _
    have hi2 : (Try.prog.info? 29).map (·.size) = some (hsh (cat X n) 72 6 64).size := by unfold hsh; rw [arr_size]; kernel_rfl
    have hs2 : (arr .u8 64 fun _ => 0).size = (hsh (cat X n) 72 6 64).size := by unfold hsh; rw [arr_size, arr_size]
    have ho2 : (hsh (cat X n) 72 6 64).all (·.oneCell') = true := arr_one .u8 64 _
    clear h hl hno h2 h3 hn hm
    generalize cat X n = xs at *
    have HR1 : Hid (∀ w g, Row w g 27 (hsh xs 136 6 32) → Sl w (some ⟨g, 0, none⟩) 32 32 (bl (rout (rstate xs 136 6) 136) 32)) := Lib.hid fun w g h => Sl.ofHsh h (by omega)
    have HR2 : Hid (∀ w g, Row w g 29 (hsh xs 72 6 64) → Sl w (some ⟨g, 0, none⟩) 64 64 (bl (rout (rstate xs 72 6) 72) 64)) := Lib.hid fun w g h => Sl.ofHsh h (by omega)
    generalize hsh xs 136 6 32 = ca at *
    generalize hsh xs 72 6 64 = cb at *
    go_enter Try.func3, Try.ntmps3
    go_wp2_with fail
    refine HF.out.mono ?_
    rintro e w1 ⟨B, d, rfl, hs, hp⟩
    have H1 : Hid (Past w w1 ∧ Sl w1 B xs.length d xs) := Lib.hid ⟨hp, hs⟩
    clear hp hs HF
    generalize hm : xs.length = m at *
    clear hm
    go_wp2_with fail
    refine (HA.out _).mono ?_
    rintro e w2 ⟨rfl, hp⟩
    have H2 : Hid (Past w w2 ∧ Sl w2 B m d xs) := Lib.hid ⟨H1.out.1.trans' hp, H1.out.2.past hp⟩
    clear hp H1 HA
    go_wp2_with fail
    refine (H256.out _ H2.out.1).mono ?_
    rintro e w3 ⟨rfl, hp⟩
    have H3 : Hid (Past w w3 ∧ Sl w3 B m d xs) := Lib.hid ⟨H2.out.1.trans' hp, H2.out.2.past hp⟩
    clear hp H2
    have hz := zero32
    have hn1 := heap_alloc_new w3 (.cells (arr .u8 32 fun _ => 0) 27)
    go_wp2_with (refine wpList_store_row rfl 27 _ _ rfl w3.heap.size _ rfl rfl _ _ hn1 hi1 hs1 ho1 ?_)
    rw [World.setRow_alloc_new]
    have H4 : Hid (Past w (w3.alloc (.cells ca 27)) ∧ Sl (w3.alloc (.cells ca 27)) B m d xs ∧ Row (w3.alloc (.cells ca 27)) w3.heap.size 27 ca) :=
      Lib.hid ⟨H3.out.1.trans' (past_alloc6 _ _), H3.out.2.past (past_alloc6 _ _), Row.new _ _ _⟩
    clear H3 hn1 hz hi1 hs1 ho1
    generalize w3.alloc (.cells ca 27) = w4 at *
    generalize w3.heap.size = p at *
    refine (H512.out _ H4.out.1).mono ?_
    rintro e w5 ⟨rfl, hp⟩
    have H5 : Hid (Past w w5 ∧ Sl w5 B m d xs ∧ Row w5 p 27 ca) := Lib.hid ⟨H4.out.1.trans' hp, H4.out.2.1.past hp, H4.out.2.2.past hp⟩
    clear hp H4
    have hz := zero64
    have hn1 := heap_alloc_new w5 (.cells (arr .u8 64 fun _ => 0) 29)
    obtain ⟨w6, hw6⟩ : ∃ w6, w6 = w5.alloc (.cells cb 29) := ⟨_, rfl⟩
    have H6 : Hid (Past w w6 ∧ Sl w6 B m d xs ∧ Row w6 p 27 ca ∧ Row w6 w5.heap.size 29 cb) := by
      rw [hw6]
      exact ⟨H5.out.1.trans' (past_alloc6 _ _), H5.out.2.1.past (past_alloc6 _ _), H5.out.2.2.alloc _, Row.new _ _ _⟩
    have HW6 := Lib.hid hw6
    clear hw6 H5
    have hsl := slice32 p
    go_wp2_with (refine wpList_store_row rfl 29 _ _ rfl w5.heap.size _ rfl rfl _ _ hn1 hi2 hs2 ho2 ?_; rw [World.setRow_alloc_new, ← HW6.out])
    have HL := Lib.hid hsl
    have hp6 := H6.out.1
    have hs6 := H6.out.2.1
    have hr6 := HR1.out w6 p H6.out.2.2.1
    have hq6 := HR2.out w6 w5.heap.size H6.out.2.2.2
    have hpd : Past w6 w6.drew := Past.ofDrewN w6 1
    have HT : Hid (∀ wx, Past w6 wx → Past w wx ∧ Sl wx B m d xs ∧ Sl wx (some ⟨p, 0, none⟩) 32 32 (bl (rout (rstate xs 136 6) 136) 32) ∧ Sl wx (some ⟨w5.heap.size, 0, none⟩) 64 64 (bl (rout (rstate xs 72 6) 72) 64)) :=
      Lib.hid fun wx hp => ⟨hp6.trans' hp, hs6.past hp, hr6.past hp, hq6.past hp⟩
    have HX1 : Hid (∀ wx, Past w6 wx → Calls Try.prog 13 #[.slice B m d] wx (Outs (bl (rout (rstate xs 136 6) 136) 32) 32 wx)) :=
      Lib.hid fun wx hp => rsha256_any B m d xs wx (hs6.past hp) (by have := HM.out; omega)
    have HX2 : Hid (∀ wx, Past w6 wx → Calls Try.prog 14 #[.slice B m d] wx (Outs (bl (rout (rstate xs 72 6) 72) 64) 64 wx)) :=
      Lib.hid fun wx hp => rsha512_any B m d xs wx (hs6.past hp) (by have := HM.out; omega)
    have hsl2 := slice64 w5.heap.size
    clear H6 HW6 hn1 hz hi2 hs2 ho2 hp6 hs6 hr6 hq6 H256 H512 HS HR1 HR2 HL
    generalize bl (rout (rstate xs 136 6) 136) 32 = y1 at *
    generalize bl (rout (rstate xs 72 6) 72) 64 = y2 at *
    generalize w5.heap.size = q at *
    go_region_law (first
      | (go_simp; go_at_call 13; (with_reducible refine (HX1.out w6.drew hpd).mono ?_); rintro e7 w7 ⟨B1, d1, rfl, hs7, hp7⟩; have HP7 := Lib.hid (hpd.trans' hp7); have HS7 := Lib.hid hs7; clear hs7 hp7)
      | (go_simp; go_at_call 12; (with_reducible refine (rsame_self _ _ _ _ _ _ _ (HT.out _ HP7.out).2.2.1 HS7.out).mono ?_); rintro e8 w8 ⟨rfl, m8, hw8⟩; have HP8 : Hid (Past w6 w8) := (by rw [hw8]; exact Lib.hid (HP7.out.drewN m8)); clear hw8)
      | (go_simp; go_at_call 14; (with_reducible refine (HX2.out _ HP8.out).mono ?_); rintro e9 w9 ⟨B2, d2, rfl, hs9, hp9⟩; have HS9 := Lib.hid hs9; have HP9 := Lib.hid (HP8.out.trans' hp9); clear hs9 hp9)
      | (go_simp; go_at_call 12; (with_reducible refine (rsame_self _ _ _ _ _ _ _ (HT.out _ HP9.out).2.2.2 HS9.out).mono ?_); rintro e10 w10 ⟨rfl, m10, hw10⟩; have HP10 : Hid (Past w6 w10) := (by rw [hw10]; exact Lib.hid (HP9.out.drewN m10)); clear hw10))
    all_goals
      go_wp2_with fail
      go_ret
      exact ⟨rfl, (HT.out _ HP10.out).1⟩

set_option maxRecDepth 100000 in
theorem lifted (H7 : Prog7) (os : Os) (started : os.Started) (H : Type) (enc : TypeId × Value → H) (F : Stop.Interp) :
    ReturnsInHanded {} Try.checked os 3 .any ((Rows.OpenSpec.upto Rows.hashMatchesReferenceSpec).pre6 enc Try.prog Try.f3 Rows.hashMatchesReferenceUptoRow.domain false) (((Rows.OpenSpec.upto Rows.hashMatchesReferenceSpec).at F).post enc Try.prog Try.f3 false true false false) := by
  refine returnsInHanded_of_cond (C := Try.checked) (s := Rows.OpenSpec.upto Rows.hashMatchesReferenceSpec) (k := Rows.uptoSmall) rfl own started (by kernel_rfl) Try.func3
    (OpenSpec.witness (enc := enc) (C := Try.checked) (s := Rows.OpenSpec.upto Rows.hashMatchesReferenceSpec) (k := Rows.uptoSmall) rfl false ⟨#[], #[.slice none 0 0], []⟩ 8 (by kernel_rfl) (by kernel_rfl) (by kernel_rfl)
      (x := ([.nil], [], [])) (by kernel_rfl) rfl (by kernel_rfl)) ?_
  intro W base args ds gs before hval0 hW _ hbulk0 _
  have hval : ∀ (j : Nat) t v, Try.f3.params[j]? = some t → args[j]? = some v → Value.okWide Try.prog W .any base t v := hval0
  have hW' := hW
  obtain ⟨p, q, hA0, hV, rfl, hfz, hnd⟩ := hW
  have hA : DataW.TrodAll enc Try.prog W 0 (fun _ => true) true Try.f3.params.toList args.toList ds p := hA0
  rw [Try.params3] at hA hval
  obtain ⟨v0, vs0, d0, ds0, p0, q0, hargs, rfl, rfl, h0, r0⟩ := trodAll_cons hA
  obtain ⟨rfl, rfl, rfl⟩ := trodAll_nil r0
  obtain rfl : args = #[v0] := by cases args; simp_all
  obtain ⟨rfl, rfl⟩ := trodVars_none hV
  have hbulk := bulk_small hbulk0
  simp only [List.append_nil, Rows.uptoBulkAll] at hbulk
  obtain ⟨a0, len0, cap0, rfl⟩ := okWide_slice Try.underlying22 (hval 0 22 v0 rfl rfl)
  have k0 := h0
  have lt0 : ∀ x ∈ p0, x.block < W.heap.size := by obtain ⟨m, hm⟩ := k0; exact DataW.trod_lt m _ _ _ hm
  obtain ⟨V0, C0, X0, w0, hl0⟩ := rows_of h0
  clear hA0 hval0
  refine (walk H7 a0 len0 cap0 V0 C0 X0 W w0 (by omega)).mono fun e W' ⟨he, bel⟩ => ?_
  subst he
  exact ⟨_, rfl, _, _, _, [], _, [], hW', trodAll_mk1 (shut_bool Try.underlying4 _), (trodAll_cons_mk (Below.trod laidOut (by kernel_rfl) (of_decide_eq_true (by kernel_rfl)) k0 bel lt0) trodAll_mk0), rfl, bel.frame _, fun h => by cases h⟩

theorem over (H7 : Prog7) : Rows.hashMatchesReferenceUptoRow.holds Try.pinned (Rows.OpenSpec.upto Rows.hashMatchesReferenceSpec) :=
  OpenClaim.holds_of_cond 3 Try.f3 rfl rfl rfl rfl rfl rfl rfl ⟨rfl, rfl, rfl, rfl, rfl⟩ rfl rfl rfl rfl rfl (by kernel_rfl) Try.func3 (by kernel_rfl)
    (of_decide_eq_true (by kernel_rfl)) (by unfold Func.isWrapper; first | (rw [if_pos (by decide +kernel)]; kernel_rfl) | (rw [if_neg (by decide +kernel)]; exact ⟨rfl, rfl⟩))
    (fun os started H enc _ F => lifted H7 os started H enc F)

theorem proved : Rows.HashMatchesReferenceUptoSaid := over prog7

end Go.Proofs.Ytamgbkadiobklaa.hashMatchesReference
