/- The program's Read. -/
import Derived.Test.YtbemkfneebbgeaaDoorO9F
import Derived.Test.YtbemkfneebbgeaaDoorO9H
import Derived.Test.YtbemkfneebbgeaaDoorO9J
import Derived.Test.YtbemkfneebbgeaaDoorShelf
import Derived.Deep.RegionLaw
namespace Go.Proofs.YtbemkfneebbgeaaDoor
open Go.RowKit
set_option linter.unusedVariables false

theorem bytesOf_sameB (xs ys : List Int) (hx : ∀ x ∈ xs, 0 ≤ x ∧ x < 256) (hy : ∀ x ∈ ys, 0 ≤ x ∧ x < 256) : (Lib.bytesOf xs == Lib.bytesOf ys) = sameB xs ys := by
  rw [Bool.eq_iff_iff]
  simp only [sameB, beq_iff_eq, decide_eq_true_eq, Lib.bytesOf]
  constructor
  · intro h
    induction xs generalizing ys with
    | nil => cases ys <;> simp_all
    | cons x xs ih =>
      cases ys with
      | nil => simp at h
      | cons y ys =>
        simp only [List.map_cons, List.cons.injEq] at h
        obtain ⟨hx0, hx1⟩ := hx x (by simp)
        obtain ⟨hy0, hy1⟩ := hy y (by simp)
        have e := congrArg UInt8.toNat h.1
        simp only [UInt8.toNat_ofNat'] at e
        have exy : x = y := by omega
        rw [exy, ih ys (fun z hz => hx z (by simp [hz])) (fun z hz => hy z (by simp [hz])) h.2]
  · rintro rfl
    rfl
theorem eqb_any (A1 A2 : Option Addr) (n1 n2 c1 c2 : Nat) (xs ys : List Int) (w : World) (h1 : Sl w A1 n1 c1 xs) (h2 : Sl w A2 n2 c2 ys) :
    Calls Tryd.prog 31 #[.slice A1 n1 c1, .slice A2 n2 c2] w fun e w' => e = .returned (.bool (sameB xs ys)) ∧ w = w' := by
  have hc := Tryd.bytes_Equal_all A1 A2 n1 c1 n2 c2 xs ys w h1.len h2.len h1.bytes h2.bytes
  rw [bytesOf_sameB xs ys h1.rng h2.rng] at hc
  exact hc.mono fun e w' ⟨h, h'⟩ => ⟨h, h'.symm⟩

theorem SlK.rest {w : World} {b o n c : Nat} {xs : List Int} (h : SlK .u32 w (some ⟨b, o, none⟩) n c xs) (hn : 1 ≤ n) : SlK .u32 w (some ⟨b, if c = 1 then o else o + 1, none⟩) (n - 1) (c - 1) (xs.drop 1) := by
  have hl := h.len
  have hcp := h.cap
  have hb := h.big
  refine ⟨by simp; omega, by omega, by omega, fun hn2 => ?_, fun e => by cases e⟩
  rw [if_neg (by omega)]
  obtain ⟨b', o', e, hc⟩ := h.cells (by omega)
  simp only [Option.some.injEq, Addr.mk.injEq] at e
  obtain ⟨rfl, rfl, _⟩ := e
  refine ⟨b, o + 1, rfl, fun j hj => ?_⟩
  rw [Nat.add_assoc, hc (1 + j) (by omega)]
  congr 2
  simp [List.getD, Nat.add_comm]
theorem sliceFrom1 (b o n c : Nat) (hn : 1 ≤ n) (w : World) :
    (Instr.slice 22 (.slice (some ⟨b, o, none⟩) n c) (some (.int .i64 1)) none none).run Tryd.prog w = .ok (.slice (some ⟨b, if c = 1 then o else o + 1, none⟩) (n - 1) (c - 1)) w := by
  rw [run_slice_l w 22 (some ⟨b, o, none⟩) n c Tryd.underlying22 .i64 1 (by omega) (by omega)]
  have hs : (sizeOf (Tryd.prog.elem 22)).run Tryd.prog w = .ok 1 w := by kernel_rfl
  rw [hs]
  have e2 : (1 : Int).toNat = 1 := rfl
  simp only [Result.andThen, sliced, e2]
  by_cases h : c = 1
  · rw [if_pos h, if_pos h]
  · rw [if_neg h, if_neg h, Option.map_some, Nat.mul_one, add_none]
theorem SlK.cellsA {k : IntKind} {w : World} {ad : Addr} {n c : Nat} {xs : List Int} (h : SlK k w (some ad) n c xs) : ∀ j u, (xs.map (Value.int k))[j]? = some u → w.cell? (ad.add j) = some u := by
  intro j u hj
  have hjn : j < xs.length := by simpa using (List.getElem?_eq_some_iff.1 hj).1
  obtain ⟨b, o, e, hc⟩ := h.cells (by have := h.len; omega)
  injection e with e
  subst e
  rw [add_none, hc j (by have := h.len; omega), ← hj]
  simp [List.getD, List.getElem?_eq_getElem hjn]
theorem step_append_sk {w : World} {ops : Array Oper} {o : Oper} {a : Act} {K : Act → World → Prop} {Q : Exit → Act → World → Prop} {E : Prop} (hgd : o.guard = none) (s x : Operand)
    (ho : o.op = .call { callee := .builtin .append, args := #[s, x], argTypes := #[22, 22] })
    (base : Nat) (v : Value) (n : Nat) (xs : List Int) (hs : a.eval s = v) (hown : w.ownsRow base 33 1 v n (xs.map (Value.int .u32)))
    (ad : Addr) (m c : Nat) (ys : List Int) (hx : a.eval x = .slice (some ad) m c) (hsl : SlK .u32 w (some ad) m c ys) (hbig : n + m ≤ 1000000) (hbase : base ≤ w.heap.size)
    (h : ∀ v' w', w'.ownsRow base 33 1 v' (n + m) ((xs ++ ys).map (Value.int .u32)) → w.grownBy w' v.ownBlock → K (a.put o.dst v') w') : if Region.wanted o (yielded ops a.tmps) = true then Oper.wp Tryd.prog o a w K Q else E := by
  obtain ⟨i, hi, hz, hsz, hby⟩ := info_parts info32
  have hw : Region.wanted o (yielded ops a.tmps) = true := by simp [Region.wanted, hgd]
  rw [if_pos hw]
  refine wp_append_own w s x _ ho base _ i (.int .u32 0) 1 4 Tryd.underlying22 hi hz hsz hby rfl (by decide) v n _ hs hown ad m c (ys.map (Value.int .u32)) hx (by simp [hsl.len]) hsl.cellsA
    (by intro u hu; obtain ⟨y, _, rfl⟩ := List.mem_map.1 hu; rfl) (by unfold maxLen; omega) (by omega) hbase ?_
  intro v' w' h1 h2 _
  rw [← List.map_append] at h1
  exact h v' w' h1 h2

set_option maxHeartbeats 4000000 in
set_option maxRecDepth 100000 in
theorem pread_any (A : Option Addr) (n c : Nat) (xs : List Int) (w : World) (h : Sl w A n c xs) (hn : n ≤ 1000) :
    Calls Tryd.prog 17 #[.slice A n c] w (POptK (readL xs) w) := by
  have HG := Lib.hid (pgroups_any A n c xs w h hn)
  have HRD := Lib.hid (read_done h.rng)
  have hRR := gO_rng 20 xs [] (by intro x hx; cases hx)
  have hRl := gO_len 20 xs []
  have HS := Lib.hid h
  generalize gO 20 xs [] = R at *
  have hRl : R.length ≤ 20 := by simpa using hRl
  have HRR := Lib.hid hRR
  clear h hRR
  by_cases hR0 : R.length = 0
  · have e : R = [] := List.length_eq_zero_iff.1 hR0
    have HNo : Hid (readL xs = none) := Lib.hid (by rw [HRD.out, if_neg (fun h => h.1 e)])
    rw [e] at HG
    clear HRD hRl HRR hR0 e
    go_enter Tryd.func17, Tryd.ntmps17
    go_wp2_with fail
    refine HG.out.mono ?_
    rintro e w1 ⟨B, d, rfl, h1, hp⟩
    have HP := Lib.hid hp
    rw [show ([] : List Int).length = 0 from rfl] at h1 ⊢
    clear hp h1
    go_wp2_with fail
    go_ret2
    rw [HNo.out]
    exact POptK.none' HP.out
  · obtain ⟨hcr, hf0, hf2, hf40⟩ := cand_rng HRR.out (by rintro rfl; exact hR0 rfl)
    have h0r := getD_rngK (by omega) HRR.out 0
    have hfd : min (R.getD 0 0 / 40) 2 = firstN R := rfl
    have HCand : Hid (candL R = [firstN R, R.getD 0 0 - 40 * firstN R] ++ R.drop 1) := Lib.hid rfl
    have HCr := Lib.hid hcr
    generalize firstN R = f at *
    generalize hLn : R.length = L at *
    have HLn := Lib.hid hLn
    obtain ⟨x0, hx0⟩ : ∃ x, R.getD 0 0 = x := ⟨_, rfl⟩
    have HX0 := Lib.hid hx0
    rw [hx0] at hf40 h0r hfd HCand
    obtain ⟨h00, h01⟩ := h0r
    have hL1 : 1 ≤ L := by omega
    have h0L : (0 : Int) < (L : Int) := by omega
    have h0N : 0 < L := by omega
    have h1L : (1 : Int) ≤ (L : Int) := by omega
    have hLne : ((L : Int) == 0) = false := by simp; omega
    clear hcr hLn hx0 hR0
    go_enter Tryd.func17, Tryd.ntmps17
    go_wp2_with fail
    refine HG.out.mono ?_
    rintro e w1 ⟨B, d, rfl, h1, hp⟩
    obtain ⟨b, o, rfl, hc⟩ := h1.cells (by omega)
    have c0 := hc 0 (by omega)
    rw [HX0.out, Nat.add_zero] at c0
    have H1 := Lib.hid (And.intro h1 hp)
    clear hp h1 hc
    have hsl := fun w => sliceFrom1 b o L d hL1 w
    have hrest := H1.out.1.rest hL1
    generalize (if d = 1 then o else o + 1) = o1 at *
    have HRest := Lib.hid hrest
    clear hrest
    have hm0 : (0 : Int) ≤ 40 * f := by omega
    have hs0 : 0 ≤ x0 - 40 * f := by omega
    have hs1 : x0 - 40 * f < 4294967296 := by omega
    have hwm : IntKind.u32.wrap (40 * f) = 40 * f := by rw [IntKind.wrap_u32]; omega
    have hws : IntKind.u32.wrap (x0 - 40 * f) = x0 - 40 * f := by rw [IntKind.wrap_u32]; omega
    have HOW : Hid ((w1.alloc (.cells #[.int .u32 f, .int .u32 (x0 - 40 * f)] 33)).ownsRow w1.heap.size 33 1 (.slice (some ⟨w1.heap.size, 0, none⟩) 2 2) 2 (([f, x0 - 40 * f] : List Int).map (Value.int .u32))) :=
      Lib.hid (World.ownsRow_lit (base := w1.heap.size) (e := 33) (size := 1) w1 _ 2 (Nat.le_refl _) (by unfold maxLen; omega) rfl)
    have hPA : Past w1 (w1.alloc (.cells #[.int .u32 f, .int .u32 (x0 - 40 * f)] 33)) := past_alloc9 _ _
    have HPA := Lib.hid hPA
    have hL20 : 2 + (L - 1) ≤ 1000 := by omega
    clear hPA
    go_wp2_with fail
    have c0d : w1.drew.cell? ⟨b, o, none⟩ = some (.int .u32 x0) := c0
    go_region_law (first
      | (refine step_append_sk rfl _ _ rfl w1.heap.size (.slice (some ⟨w1.heap.size, 0, none⟩) 2 2) 2 [f, x0 - 40 * f] rfl HOW.out ⟨b, o1, none⟩ (L - 1) (d - 1) (R.drop 1) rfl ((HRest.out.past HPA.out).drewN 1) (by omega) HPA.out.size ?_; intro v' w3 hown hgrow; obtain ⟨A3, c3, hv⟩ := own_slice hown; subst hv; have H3 : Hid (w3.ownsRow w1.heap.size 33 1 (.slice A3 (2 + (L - 1)) c3) (2 + (L - 1)) (([f, x0 - 40 * f] ++ R.drop 1).map (Value.int .u32)) ∧ Past w1 w3) := Lib.hid ⟨hown, (Past.drewN HPA.out 1).grown hgrow HPA.out.size (own_block_ge HOW.out)⟩; clear hown hgrow))
    all_goals
      have HLen : Hid (([f, x0 - 40 * f] ++ R.drop 1).length = 2 + (L - 1)) := Lib.hid (by
        rw [List.length_append, List.length_drop, HLn.out]
        rfl)
      rw [← HCand.out] at H3 HLen
      have HS3 := Lib.hid (slK_of_own H3.out.1)
      have HPw : Hid (Past w w3) := Lib.hid (H1.out.2.trans' H3.out.2)
      have HV := Lib.hid (pvalid_any A3 (2 + (L - 1)) c3 (candL R) w3 HS3.out HCr.out hL20)
      have HC := Lib.hid (pcontent_any A3 (2 + (L - 1)) c3 (candL R) w3 HS3.out HCr.out hL20)
      have HRne : Hid (R ≠ []) := Lib.hid (by
        intro e
        have := HLn.out
        rw [e] at this
        simp at this
        omega)
      generalize hN : 2 + (L - 1) = N at *
      generalize candL R = l at *
      clear hN hsl hwm hws c0 c0d hm0 hs0 hs1 hfd
      cases hok : okL l with
      | false =>
        rw [hok] at HV
        have HNo : Hid (readL xs = none) := Lib.hid (by rw [HRD.out, if_neg (fun h => by rw [hok] at h; cases h.2.1)])
        clear hok
        go_wp2_with fail
        refine HV.out.mono ?_
        rintro e w4 ⟨rfl, rfl⟩
        go_wp2_with fail
        go_ret2
        rw [HNo.out]
        exact POptK.none' HPw.out
      | true =>
        rw [hok] at HV
        have HOK := Lib.hid hok
        clear hok
        go_wp2_with fail
        refine HV.out.mono ?_
        rintro e w4 ⟨rfl, rfl⟩
        go_wp2_with fail
        refine HC.out.mono ?_
        rintro e w4 ⟨B4, c4, rfl, h4, hp4⟩
        have HP4 := Lib.hid (HPw.out.trans' hp4)
        have HQ := Lib.hid (eqb_any B4 A _ n c4 c _ _ w4 h4 (HS.out.past HP4.out))
        have HS4 := Lib.hid (HS3.out.past hp4)
        clear h4 hp4
        generalize hcl : (contL l).length = CL at *
        clear hcl
        cases hs : sameB (contL l) xs with
        | false =>
          rw [hs] at HQ
          have HNo : Hid (readL xs = none) := Lib.hid (by rw [HRD.out, if_neg (fun h => by rw [h.2.2, sameB_refl] at hs; cases hs)])
          clear hs
          go_wp2_with fail
          refine HQ.out.mono ?_
          rintro e w5 ⟨rfl, rfl⟩
          go_wp2_with fail
          go_ret2
          rw [HNo.out]
          exact POptK.none' HP4.out
        | true =>
          rw [hs] at HQ
          have HYe : Hid (readL xs = some l) := Lib.hid (by rw [HRD.out, if_pos ⟨HRne.out, HOK.out, sameB_true hs⟩])
          clear hs
          go_wp2_with fail
          refine HQ.out.mono ?_
          rintro e w5 ⟨rfl, rfl⟩
          go_wp2_with fail
          go_ret2
          rw [HYe.out]
          exact POptK.some' HLen.out HS4.out HP4.out

end Go.Proofs.YtbemkfneebbgeaaDoor
