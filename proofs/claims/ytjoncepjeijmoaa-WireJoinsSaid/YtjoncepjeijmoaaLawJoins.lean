/- For every list of byte slices and every two byte slices the law WireJoins of package pyxlaw01 returns true and leaves its arguments alone; there is no further condition. -/
import Derived.Test.YtjoncepjeijmoaaJoin
import Derived.Deep.Matrix
import Derived.SizedLaws
namespace Go.Proofs.Ytjoncepjeijmoaa.wireJoins
open Go.ChangeShapes Go.WideShapes Go.ChangeAt Go.RowKit
set_option linter.unusedVariables false

theorem cat_len_le (X : Nat → List Int) (n : Nat) (h : ∀ i, i < n → (X i).length ≤ 140737488351232) : (cat X n).length ≤ n * 140737488351232 := by
  induction n with
  | zero => simp [cat_zero]
  | succ n ih =>
    rw [cat_succ, List.length_append]
    have h1 := ih fun i hi => h i (by omega)
    have h2 := h n (by omega)
    omega

theorem walk (P : Option Addr) (n c : Nat) (V : Nat → Option Addr) (C : Nat → Nat) (X : Nat → List Int) (A1 A2 : Option Addr) (n1 n2 c1 c2 : Nat) (xs ys : List Int) (w : World)
    (h : Sls w P n c V C X) (hX : ∀ i, i < n → (X i).length ≤ 140737488351232) (h1 : Sl w A1 n1 c1 xs) (h2 : Sl w A2 n2 c2 ys) :
    Calls Try.prog 5 #[.slice P n c, .slice A1 n1 c1, .slice A2 n2 c2] w fun e w' => e = .returned (.bool true) ∧ Past w w' := by
  have hcp := h.cap
  have hcm := h.big
  have hb1 := h1.cap
  have hb2 := h1.big
  have hb3 := h2.cap
  have hb4 := h2.big
  unfold maxLen at hcm hb2 hb4
  by_cases hbig : 50 < n ∨ 300 < n1 ∨ 300 < n2
  · clear h h1 h2 hX
    by_cases t1 : 50 < n
    · clear hbig
      go_enter Try.func5, Try.ntmps5
      go_wp2_with fail
      refine (awake_any _).mono ?_
      rintro e w1 ⟨rfl, hp1⟩
      have HP := Lib.hid hp1
      clear hp1
      go_wp2_with fail
      refine (awake_any _).mono ?_
      rintro e w2 ⟨rfl, hp⟩
      replace HP := Lib.hid (HP.out.trans' hp)
      clear hp
      go_wp2_with fail
      go_ret
      exact ⟨rfl, HP.out⟩
    · by_cases t2 : 300 < n1
      · clear hbig
        go_enter Try.func5, Try.ntmps5
        go_wp2_with fail
        refine (awake_any _).mono ?_
        rintro e w1 ⟨rfl, hp1⟩
        have HP := Lib.hid hp1
        clear hp1
        go_wp2_with fail
        refine (awake_any _).mono ?_
        rintro e w2 ⟨rfl, hp⟩
        replace HP := Lib.hid (HP.out.trans' hp)
        clear hp
        go_wp2_with fail
        go_ret
        exact ⟨rfl, HP.out⟩
      · have t3 : 300 < n2 := by omega
        clear hbig
        go_enter Try.func5, Try.ntmps5
        go_wp2_with fail
        refine (awake_any _).mono ?_
        rintro e w1 ⟨rfl, hp1⟩
        have HP := Lib.hid hp1
        clear hp1
        go_wp2_with fail
        refine (awake_any _).mono ?_
        rintro e w2 ⟨rfl, hp⟩
        replace HP := Lib.hid (HP.out.trans' hp)
        clear hp
        go_wp2_with fail
        go_ret
        exact ⟨rfl, HP.out⟩
  · have u1 : n ≤ 50 := by omega
    have u2 : n1 ≤ 300 := by omega
    have u3 : n2 ≤ 300 := by omega
    clear hbig
    have HX := Lib.hid hX
    have HS := Lib.hid h
    have H1 := Lib.hid h1
    have H2 := Lib.hid h2
    clear h hX h1 h2
    go_enter Try.func5, Try.ntmps5
    go_wp2_with fail
    refine (awake_any _).mono ?_
    rintro e w1 ⟨rfl, hp1⟩
    replace HS := Lib.hid (HS.out.past hp1)
    replace H1 := Lib.hid (H1.out.past hp1)
    replace H2 := Lib.hid (H2.out.past hp1)
    have HP := Lib.hid hp1
    clear hp1
    go_wp2_with fail
    go_loop [7, 8] (fun s i => ∃ j : Nat, j ≤ n ∧ i = .int .i64 j ∧ s = .int .i64 ((cat X j).length : Int)) (fun _ i => n - (intOf i).toNat)
    case atStart => exact ⟨0, Nat.zero_le _, rfl, rfl⟩
    case round =>
      obtain ⟨j, hj, rfl, rfl⟩ := hrel
      have hcl := cat_len_le X j fun i hi => HX.out i (by omega)
      by_cases hlt : j < n
      · obtain ⟨b, o, rfl, hc⟩ := HS.out.cells (by omega)
        have hcell := (hc j hlt).1
        have hxl := HX.out j hlt
        have hcs : Hid ((cat X (j + 1)).length = (cat X j).length + (X j).length) := by
          apply Lib.hid
          rw [cat_succ, List.length_append]
        clear hc
        generalize (cat X j).length = k at hcl hcs ⊢
        generalize hm : (X j).length = m at hxl hcs hcell ⊢
        clear hm
        go_wp2
        go_round
        case rel => exact ⟨j + 1, by omega, by go_num, by rw [hcs.out]; go_num⟩
        case measure => simp [intOf]; omega
      · obtain rfl : j = n := by omega
        by_cases hk : 1000 < (cat X j).length
        · generalize (cat X j).length = k at hk hcl ⊢
          go_wp2
          go_ret
          exact ⟨rfl, HP.out⟩
        · have HL : Hid ((cat X j).length ≤ 1000) := by
            apply Lib.hid
            omega
          have HX2 := Lib.hid hk
          generalize hkk : (cat X j).length = k at hk hcl ⊢
          have HK := Lib.hid hkk
          clear hkk HX2
          go_wp2_with fail
          refine (rjoin_any P j c V C X _ HS.out (by omega) (Nat.le_trans HL.out (by omega))).mono ?_
          rintro e w2 hf
          obtain ⟨R, r, rfl, hs, _, hp⟩ := hf.out (cat_rng X j HS.out.rng)
          replace HS := Lib.hid (HS.out.past hp)
          replace H1 := Lib.hid (H1.out.past hp)
          replace H2 := Lib.hid (H2.out.past hp)
          replace HP := Lib.hid (HP.out.trans' hp)
          have HR := Lib.hid hs
          clear hf hs hp
          rw [HK.out] at HR ⊢
          go_wp2_with fail
          refine (join_any P j c V C X _ HS.out (by omega) (Nat.le_trans HL.out (by omega))).mono ?_
          rintro e w3 ⟨G, d, rfl, hs, hp, hwr⟩
          rw [HK.out] at hs hwr
          rw [HK.out]
          have HB : Hid (Past w2 w3) := Lib.hid hp
          have HG := Lib.hid hs
          have HW := Lib.hid hwr
          clear hs hp hwr
          go_wp2_with fail
          refine (rsame_self _ _ _ _ _ _ _ HG.out (HR.out.past HB.out)).mono ?_
          rintro e w' ⟨rfl, m1, rfl⟩
          go_wp2_with fail
          refine (same_any _ _ _ _ _ _ _ _ _ ((H1.out.past HB.out).drewN m1) ((H2.out.past HB.out).drewN m1)).mono ?_
          rintro e w' ⟨rfl, rfl⟩
          go_wp2_with fail
          refine (rsame_any _ _ _ _ _ _ _ _ _ ((H1.out.past HB.out).drewN m1) ((H2.out.past HB.out).drewN m1)).mono ?_
          rintro e w' ⟨rfl, m2, rfl⟩
          go_wp2_with fail
          refine (same_any _ _ _ _ _ _ _ _ _ ((H1.out.past HB.out).drewN (m1 + m2)) ((H1.out.past HB.out).drewN (m1 + m2))).mono ?_
          rw [sameB_refl]
          rintro e w' ⟨rfl, rfl⟩
          have HQ : Hid (Past w2 (w3.drewN (m1 + m2))) := HB.out.drewN (m1 + m2)
          have HC : Hid (0 < k → ∃ g, G = some ⟨g, 0, none⟩ ∧ w2.heap.size ≤ g ∧ ∀ i, i < k → (∃ x, (w3.drewN (m1 + m2)).cell? ⟨g, i, none⟩ = some (.int .u8 x)) ∧ (w3.drewN (m1 + m2)).frozen? ⟨g, i, none⟩ = false) := by
            intro hk0
            obtain ⟨g, rfl, hg, hfz⟩ := HW.out hk0
            obtain ⟨b, o, e, hc⟩ := HG.out.bytes hk0
            injection e with e
            injection e with e1 e2
            subst e1 e2
            refine ⟨g, rfl, hg, fun i hi => ⟨⟨(cat X j).getD i 0, ?_⟩, hfz i hi⟩⟩
            have h := hc i hi
            rw [Nat.zero_add] at h
            exact h
          have hd : k ≤ d := HG.out.cap
          have hd2 := HG.out.big
          unfold maxLen at hd2
          clear HB HG HW
          generalize w3.drewN (m1 + m2) = w4 at HQ HC ⊢
          go_wp2_with fail
          go_loopw [11] (fun i wr => ∃ q : Nat, q ≤ k ∧ i = .int .i64 q ∧ Hid (Past w2 wr) ∧ Hid (0 < k → ∃ g, G = some ⟨g, 0, none⟩ ∧ w2.heap.size ≤ g ∧ ∀ i, i < k → (∃ x, wr.cell? ⟨g, i, none⟩ = some (.int .u8 x)) ∧ wr.frozen? ⟨g, i, none⟩ = false)) (fun i _ => k - (intOf i).toNat)
          case atStart => exact ⟨0, Nat.zero_le _, rfl, HQ, HC⟩
          case round =>
            obtain ⟨q, hq, rfl, hpq, hcq⟩ := hrel
            clear HQ HC
            by_cases hlt : q < k
            · obtain ⟨g, rfl, hg, hcs⟩ := hcq.out (by omega)
              obtain ⟨⟨x, hcell⟩, hfz⟩ := hcs q hlt
              have HX3 := Lib.hid hcs
              have HPQ := Lib.hid hpq.out
              clear hcs hpq hcq
              go_wp2
              go_roundw
              case rel =>
                refine ⟨q + 1, by omega, by go_num, Lib.hid (HPQ.out.setCell hg _), Lib.hid fun _ => ⟨g, rfl, hg, fun i hi => ?_⟩⟩
                obtain ⟨⟨y, hy⟩, hf⟩ := HX3.out i hi
                refine ⟨?_, by simpa using hf⟩
                by_cases hiq : q = i
                · subst hiq
                  exact ⟨_, World.cell?_setCell_same _ _ _ hy⟩
                · exact ⟨y, by rw [World.cell?_setCell_other]; exact hy; intro e; injection e with _ e2; exact hiq e2⟩
              case measure => simp [intOf]; omega
            · have HPQ := Lib.hid hpq.out
              clear hpq hcq
              go_wp2_with fail
              refine (rjoin_any P j c V C X _ (HS.out.past HPQ.out) (by omega) (Nat.le_trans HL.out (by omega))).mono ?_
              rintro e w5 hf
              obtain ⟨R2, r2, rfl, hs, _, hp⟩ := hf.out (cat_rng X j HS.out.rng)
              have HR2 := Lib.hid hs
              have HR3 := Lib.hid ((HR.out.past HPQ.out).past hp)
              replace HP := Lib.hid ((HP.out.trans' HPQ.out).trans' hp)
              clear hf hs hp
              rw [HK.out] at HR2 ⊢
              go_wp2_with fail
              refine (rsame_self _ _ _ _ _ _ _ HR2.out HR3.out).mono ?_
              rintro e w' ⟨rfl, m3, rfl⟩
              go_wp2_with fail
              go_ret
              exact ⟨rfl, HP.out.drewN m3⟩

theorem weight_all {H : Type} {P : Program} {e : TypeId} {d : DataW H} {l : List (DataW H)} {n : Nat} (hd : d ∈ l) (hn : n ∈ d.weights P e) : n ∈ DataW.weightsAll P e l := by
  induction l with
  | nil => cases hd
  | cons x l ih =>
    simp only [DataW.weightsAll, List.mem_append]
    rcases List.mem_cons.1 hd with rfl | h
    · exact .inl hn
    · exact .inr (ih h)

theorem bytes8 : Try.prog.bytesOf 5 = 1 := by kernel_rfl

/-- A slice of byte slices that came in. -/
theorem rows_of {H : Type} {enc : TypeId × Value → H} {W : World} {a0 : Option Addr} {len0 cap0 : Nat} {d0 d1 d2 : DataW H} {p0 : List MemPlace}
    (h0 : DataW.Trod enc Try.prog W 0 (fun _ => true) true 46 (.slice a0 len0 cap0) d0 p0)
    (hsz : (DataW.weightsEach Try.prog [46, 22, 22] [d0, d1, d2]).all (· ≤ reachBytes) = true) :
    ∃ V C X, Sls W a0 len0 cap0 V C X ∧ ∀ i, i < len0 → (X i).length ≤ 140737488351232 := by
  obtain ⟨fuel, hf⟩ := h0
  rcases Go.Deep.open_int_rows Try.underlying46 Try.underlying22 Try.underlying5 (by kernel_rfl) (by kernel_rfl) hf with ⟨hcs, _⟩ | ⟨a, len, cap, A, L, C, Z, hcs, _, hl, hm, hx, hrow⟩
  · simp [Value.cells] at hcs
    obtain ⟨rfl, rfl, rfl⟩ := hcs
    exact ⟨fun _ => none, fun _ => 0, fun _ => [], ⟨Nat.le_refl _, Nat.zero_le _, fun _ => rfl, fun h => absurd h (Nat.lt_irrefl 0)⟩, fun i hi => absurd hi (by omega)⟩
  · simp [Value.cells] at hcs
    obtain ⟨rfl, rfl, rfl⟩ := hcs
    simp only [Prod.mk.injEq] at hx
    obtain ⟨hd0, _⟩ := hx
    have hC : ∀ r, r < len0 → C r ≤ 140737488351232 := by
      intro r hr
      obtain ⟨_, h2, h3, h4, h5, h6, h7⟩ := hrow r (by omega)
      cases hA : A r with
      | none => rw [h6 hA]; omega
      | some x =>
        have hmem : (C r) * 1 ∈ (Go.Deep.intRow (H := H) .u8 (A r) (L r) (Z r)).weights Try.prog 22 := by
          simp only [hA, Go.Deep.intRow, DataW.weights, Try.underlying22, bytes8, lits, List.length_map, List.length_take, List.length_drop]
          simp only [List.mem_cons]
          exact .inl (by omega)
        have hin : (C r) * 1 ∈ d0.weights Try.prog 46 := by
          rw [hd0]
          simp only [DataW.weights, Try.underlying46, List.mem_cons, List.mem_append]
          exact .inr (.inl (weight_all (List.mem_map.2 ⟨r, by simpa using hr, rfl⟩) hmem))
        have := List.all_eq_true.1 hsz _ (DataW.weights_mem_each (j := 0) (t := 46) rfl rfl _ hin)
        have h8 : C r * 1 ≤ reachBytes := of_decide_eq_true this
        simp only [reachBytes] at h8
        omega
    refine ⟨A, C, fun r => (Z r).take (L r), ⟨hl, hm, (fun e => by cases e), fun hn => ?_⟩, fun r hr => ?_⟩
    · obtain ⟨b, o, s⟩ := a
      obtain rfl : s = none := by simpa [Addr.add] using World.cell?_spot (hrow 0 (by omega)).1
      refine ⟨b, o, rfl, fun i hi => ?_⟩
      obtain ⟨h1, h2, h3, h4, h5, h6, h7⟩ := hrow i (by omega)
      have hlen : ((Z i).take (L i)).length = L i := by simp; omega
      rw [add_none] at h1
      refine ⟨by rw [hlen]; exact h1, ?_⟩
      rw [hlen]
      refine Sl.of_row ?_
      cases hA : A i with
      | none =>
        have hc0 := h6 hA
        have hz0 : Z i = [] := List.eq_nil_of_length_eq_zero (by omega)
        exact .inl ⟨rfl, by omega, hc0, hz0⟩
      | some x => exact .inr ⟨x, rfl, h2, h3, h4, fun j hj => (h7 x hA).2 j (by omega), h5⟩
    · have h := hC r hr
      obtain ⟨_, h2, _, h4, _⟩ := hrow r (by omega)
      simp
      omega

set_option maxRecDepth 100000 in
theorem lifted (os : Os) (started : os.Started) (H : Type) (enc : TypeId × Value → H) :
    ReturnsInHanded {} Try.checked os 5 .any (Rows.wireJoinsSpec.pre6 enc Try.prog Try.f5 Rows.wireJoinsRow.domain false) (Rows.wireJoinsSpec.post enc Try.prog Try.f5 false true false false) := by
  refine returnsInHanded_of_change_sized (C := Try.checked) own started (by kernel_rfl) Try.func5
    (ChangeSpec.witness6 (enc := enc) (C := Try.checked) false ⟨#[], #[.slice none 0 0, .slice none 0 0, .slice none 0 0], []⟩ 8 (by kernel_rfl) (by kernel_rfl) (by kernel_rfl) (by kernel_rfl)) ?_
  intro W base args ds gs before hval0 hW hcnd hsz0 _
  have hsz : (DataW.weightsEach Try.prog (Try.f5.params.toList ++ Rows.wireJoinsSpec.plain.varTypes Try.prog) (ds ++ gs)).all (· ≤ reachBytes) = true := hsz0
  clear hsz0
  have hval : ∀ (j : Nat) t v, Try.f5.params[j]? = some t → args[j]? = some v → Value.okWide Try.prog W .any base t v := hval0
  have hW' := hW
  obtain ⟨p, q, hA0, hV, rfl, hfz, hnd⟩ := hW
  have hA : DataW.TrodAll enc Try.prog W 0 (fun _ => true) true Try.f5.params.toList args.toList ds p := hA0
  rw [Try.params5] at hA hval hsz
  obtain ⟨v0, vs0, d0, ds0, p0, q0, hargs, rfl, rfl, h0, r0⟩ := trodAll_cons hA
  obtain ⟨v1, vs1, d1, ds1, p1, q1, rfl, rfl, rfl, h1, r1⟩ := trodAll_cons r0
  obtain ⟨v2, vs2, d2, ds2, p2, q2, rfl, rfl, rfl, h2, r2⟩ := trodAll_cons r1
  obtain ⟨rfl, rfl, rfl⟩ := trodAll_nil r2
  obtain rfl : args = #[v0, v1, v2] := by cases args; simp_all
  obtain ⟨rfl, rfl⟩ := trodVars_none hV
  obtain ⟨a0, len0, cap0, rfl⟩ := okWide_slice Try.underlying46 (hval 0 46 v0 rfl rfl)
  have k0 := h0
  have lt0 : ∀ x ∈ p0, x.block < W.heap.size := by obtain ⟨m, hm⟩ := k0; exact DataW.trod_lt m _ _ _ hm
  obtain ⟨V, C, X, hS, hX⟩ := rows_of h0 hsz
  obtain ⟨a1, len1, cap1, rfl⟩ := okWide_slice Try.underlying22 (hval 1 22 v1 rfl rfl)
  have k1 := h1
  have lt1 : ∀ x ∈ p1, x.block < W.heap.size := by obtain ⟨m, hm⟩ := k1; exact DataW.trod_lt m _ _ _ hm
  obtain ⟨z1, w1⟩ := row_of h1
  obtain ⟨a2, len2, cap2, rfl⟩ := okWide_slice Try.underlying22 (hval 2 22 v2 rfl rfl)
  have k2 := h2
  have lt2 : ∀ x ∈ p2, x.block < W.heap.size := by obtain ⟨m, hm⟩ := k2; exact DataW.trod_lt m _ _ _ hm
  obtain ⟨z2, w2⟩ := row_of h2
  clear hA0 hval0
  refine (walk a0 len0 cap0 V C X a1 a2 len1 len2 cap1 cap2 _ _ W hS hX (Sl.of_row w1) (Sl.of_row w2)).mono fun e W' ⟨he, bel⟩ => ?_
  subst he
  exact ⟨_, rfl, _, _, _, [], _, [], hW', trodAll_mk1 (shut_bool Try.underlying4 _), (trodAll_cons_mk (Below.trod laidOut (by kernel_rfl) (of_decide_eq_true (by kernel_rfl)) k0 bel lt0) (trodAll_cons_mk (Below.trod laidOut (by kernel_rfl) (of_decide_eq_true (by kernel_rfl)) k1 bel lt1) (trodAll_cons_mk (Below.trod laidOut (by kernel_rfl) (of_decide_eq_true (by kernel_rfl)) k2 bel lt2) trodAll_mk0))), rfl, bel.frame _, fun h => by cases h⟩

theorem over : Rows.wireJoinsRow.holds Try.pinned (OpenSpec.ofChange Rows.wireJoinsSpec) :=
  OpenClaim.holds_of_wide 5 Try.f5 rfl rfl rfl rfl rfl rfl rfl ⟨rfl, rfl, rfl, rfl, rfl⟩ rfl rfl rfl rfl rfl (by kernel_rfl) Try.func5 (by kernel_rfl)
    (of_decide_eq_true (by kernel_rfl)) (by unfold Func.isWrapper; first | (rw [if_pos (by decide +kernel)]; kernel_rfl) | (rw [if_neg (by decide +kernel)]; exact ⟨rfl, rfl⟩))
    (fun os started H enc _ => lifted os started H enc)

theorem proved : Rows.WireJoinsSaid := over
end Go.Proofs.Ytjoncepjeijmoaa.wireJoins
