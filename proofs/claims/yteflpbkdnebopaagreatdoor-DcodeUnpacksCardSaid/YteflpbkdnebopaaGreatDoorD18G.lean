/- A list of polynomials that a closure returns one by one, until one has an error. -/
import Derived.Test.YteflpbkdnebopaaGreatDoorD18F
import Derived.Laws.MakeOwn
namespace Go.Proofs.YteflpbkdnebopaaGreatDoor
open Go.RowKit
set_option linter.unusedVariables false
set_option maxRecDepth 100000

theorem infoPY : ∃ i z, Tryz.prog.info? 57 = some i ∧ i.zero = some z ∧ i.size = 256 ∧ i.bytes = 1024 ∧ z.cells.size = 256 := by
  cases hq : Tryz.prog.info? 57 with
  | none =>
    have : (Tryz.prog.info? 57).isSome = true := by kernel_rfl
    rw [hq] at this
    cases this
  | some i =>
    have h : (Tryz.prog.info? 57).map (fun i => (i.zero.isSome, i.size, i.bytes, i.zero.map (·.cells.size))) = some (true, 256, 1024, some 256) := by kernel_rfl
    rw [hq] at h
    simp only [Option.map_some, Option.some.injEq, Prod.mk.injEq] at h
    obtain ⟨z, hz⟩ := Option.isSome_iff_exists.1 h.1
    rw [hz] at h
    exact ⟨i, z, rfl, hz, h.2.1, h.2.2.1, by simpa using h.2.2.2⟩
theorem makeP (N : Nat) (hN : N ≤ 100) (w : World) : ∃ cs : Array Value, cs.size = 256 * N ∧ (Instr.makeSlice 40 (.int .i64 (N : Int)) (.int .i64 (N : Int))).run Tryz.prog w = .ok (.slice (some ⟨w.heap.size, 0, none⟩) N N) (w.alloc (.cells cs 57)) := by
  obtain ⟨i, z, hi, hz, h1, h2, h3⟩ := infoPY
  have h := run_make (P := Tryz.prog) w 40 57 i z Tryz.underlying40 hi hz .i64 .i64 (N : Int) (N : Int) (by omega) (Int.le_refl _) (by rw [h2]; omega) (by omega)
  refine ⟨_, ?_, h⟩
  rw [size_madeCells, h1]
  omega
theorem row_setCells {g : Nat} (t : TypeId) : ∀ (vs : List Value) (o : Nat) (w : World) (cs : Array Value), Row w g t cs →
    ∃ cs', Row (w.setCells g o vs) g t cs' ∧ cs'.size = cs.size ∧ (∀ j, j < o → cs'[j]? = cs[j]?) ∧ (∀ j, o + vs.length ≤ j → cs'[j]? = cs[j]?) ∧ ∀ j v, vs[j]? = some v → o + j < cs.size → cs'[o + j]? = some v
  | [], o, w, cs, h => ⟨cs, h, rfl, fun _ _ => rfl, fun _ _ => rfl, fun j v hv => by simp at hv⟩
  | u :: vs, o, w, cs, h => by
    obtain ⟨cs', h1, h2, h3, h4, h5⟩ := row_setCells t vs (o + 1) (w.setCell ⟨g, o, none⟩ u) _ (Row.set h o u)
    have hs : (cs.setIfInBounds o u).size = cs.size := by simp
    refine ⟨cs', h1, by rw [h2, hs], fun j hj => ?_, fun j hj => ?_, fun j v hv hj => ?_⟩
    · rw [h3 j (by omega), Array.getElem?_setIfInBounds_ne (by omega)]
    · rw [List.length_cons] at hj
      rw [h4 j (by omega), Array.getElem?_setIfInBounds_ne (by omega)]
    · cases j with
      | zero =>
        simp only [List.getElem?_cons_zero, Option.some.injEq] at hv
        subst hv
        rw [Nat.add_zero] at hj ⊢
        rw [h3 o (by omega), Array.getElem?_setIfInBounds_self_of_lt hj]
      | succ j =>
        have := h5 j v (by simpa using hv) (by rw [hs]; omega)
        rw [← this]
        congr 1
        omega
/-- The polynomial number i of a block. -/
def PlyAt (cs : Array Value) (i : Nat) (F : Nat → Int) : Prop := ∀ j, j < 256 → cs[i * 256 + j]? = some (.int .u32 (F j))
theorem setCells_out (b : Nat) : ∀ (vs : List Value) (o : Nat) (w : World) (i : Nat), i ≠ b → (w.setCells b o vs).heap[i]? = w.heap[i]? ∧ (w.setCells b o vs).heap.size = w.heap.size ∧ (w.setCells b o vs).os = w.os ∧ (w.setCells b o vs).tape = w.tape ∧ (w.setCells b o vs).output = w.output
  | [], o, w, i, h => ⟨rfl, rfl, rfl, rfl, rfl⟩
  | v :: vs, o, w, i, h => by
    obtain ⟨h1, h2, h3, h4, h5⟩ := setCells_out b vs (o + 1) (w.setCell ⟨b, o, none⟩ v) i h
    refine ⟨h1.trans ?_, h2.trans (by simp [World.setCell]), h3, h4, h5⟩
    exact Below.heap_setCell w ⟨b, o, none⟩ v i h
theorem grown_setCells {a w : World} {row : Option Nat} (h : a.grownBy w row) {u : Nat} (hu : a.heap.size ≤ u) (o : Nat) (vs : List Value) : a.grownBy (w.setCells u o vs) row := by
  have hx := fun i hi => setCells_out u vs o w i hi
  obtain ⟨_, h2, h3, h4, h5⟩ := hx (u + 1) (by omega)
  exact ⟨h3.trans h.os, h4.trans h.tape, h5.trans h.output, by rw [h2]; exact h.size, fun i hi hne => (hx i (by omega)).1.trans (h.block i hi hne)⟩
/-- What the list holds once i polynomials are made. -/
def LsP (w wx : World) (ha g n m L : Nat) (P : Nat → Nat → Int) (i : Nat) : Prop :=
  w.grownBy wx (some ha) ∧ Row wx ha 3 #[.int .i64 ((L + i * m : Nat) : Int)] ∧ ∃ cs, Row wx g 57 cs ∧ cs.size = 256 * n ∧ ∀ j, j < i → PlyAt cs j (P j)
theorem there_row {w : World} {g : Nat} {t : TypeId} {cs : Array Value} (h : Row w g t cs) (o k : Nat) (hk : o + k ≤ cs.size) : w.there g o k := fun j hj =>
  ⟨by rw [h.cell, Array.getElem?_eq_getElem (by omega)]; rfl, h.fr _⟩
/-- One more. -/
theorem LsP.push {w wx wy : World} {ha g n m L : Nat} {P : Nat → Nat → Int} {i : Nat} (h : LsP w wx ha g n m L P i) (hg : w.heap.size ≤ g) (hha : ha < w.heap.size) (hi : i < n) (hgr : wx.grownBy wy (some ha)) (hA : Row wy ha 3 #[.int .i64 ((L + i * m + m : Nat) : Int)]) (F : Nat → Int) :
    wy.there g (i * 256) (lst F).toArray.size ∧ (F = P i → LsP w (wy.setCells g (i * 256) (lst F)) ha g n m L P (i + 1)) ∧ w.grownBy (wy.setCells g (i * 256) (lst F)) (some ha) := by
  obtain ⟨h1, h2, cs, h3, h4, h5⟩ := h
  have h3' : Row wy g 57 cs := h3.grown hgr (by simp; omega)
  have hl : (lst F).length = 256 := lst_len F
  have hgy := only_trans h1 hgr
  refine ⟨there_row h3' _ _ (by rw [List.size_toArray, hl, h4]; omega), fun hF => ⟨grown_setCells hgy hg _ _, ?_, ?_⟩, grown_setCells hgy hg _ _⟩
  · rw [show L + (i + 1) * m = L + i * m + m by rw [Nat.succ_mul]; omega]
    exact (setCells_out g (lst F) (i * 256) wy ha (by omega)).1.trans hA
  · obtain ⟨cs', r1, r2, r3, r4, r5⟩ := row_setCells 57 (lst F) (i * 256) wy cs h3'
    refine ⟨cs', r1, by rw [r2, h4], fun j hj k hk => ?_⟩
    by_cases e : j = i
    · subst e
      refine r5 k _ ?_ (by rw [h4]; omega)
      rw [← hF]
      unfold lst
      simp [hk]
    · rw [r3 _ (by omega)]
      exact h5 j (by omega) k hk
/-- What a list of polynomials returns. -/
def ListR (w w' : World) (ha n L m : Nat) (P : Nat → Nat → Int) (top : Int) (e : Ending) : Prop :=
  w.grownBy w' (some ha) ∧
  ((∃ g cs, e = .returned (.tuple #[.slice (some ⟨g, 0, none⟩) n n, .nilIface]) ∧ w.heap.size ≤ g ∧ Row w' g 57 cs ∧ (∀ i, i < n → PlyAt cs i (P i)) ∧ Row w' ha 3 #[.int .i64 ((L + n * m : Nat) : Int)] ∧ ∀ i, i < n → nrmQ (P i) 256 ≤ top) ∨
   (∃ i, i < n ∧ ¬ nrmQ (P i) 256 ≤ top ∧ (∀ j, j < i → nrmQ (P j) 256 ≤ top) ∧ e = .returned (.tuple #[.slice none 0 0, errV (9, ((L + i * m : Nat) : Int))])))
theorem errV_shape9 (x : Int) : ∃ t v, errV (9, x) = .iface t v := ⟨_, _, rfl⟩
set_option maxHeartbeats 4000000 in
theorem listed_any (hk ha ht hh b o n c L D N : Nat) (xs : List Int) (top : Int) (w : World) (hN : NxP w hk ha ht hh b o n c xs top D) (hA : Row w ha 3 #[.int .i64 (L : Int)]) (hH : L + N * (32 * D) ≤ n) (hn : n ≤ 10000) (d1 : 1 ≤ D) (d2 : D ≤ 20) (t0 : 0 ≤ top) (t1 : top < 4294967296) (hN8 : N ≤ 8) :
    Calls Tryz.prog 41 #[.int .i64 (N : Int), .func (.func 36) #[] #[.pointer (some ⟨ha, 0, none⟩), .pointer (some ⟨hh, 0, none⟩), .pointer (some ⟨ht, 0, none⟩)]] w fun e w' =>
      ListR w w' ha N L (32 * D) (fun i => plyD D top (seg xs (L + i * (32 * D)) (32 * D))) top e := by
  obtain ⟨m, hm⟩ : ∃ m, 32 * D = m := ⟨_, rfl⟩
  obtain ⟨P, hP⟩ : ∃ P : Nat → Nat → Int, (fun i => plyD D top (seg xs (L + i * m) m)) = P := ⟨_, rfl⟩
  have HNX := Lib.hid (fun i (hi : i < N) W (hg : w.grownBy W (some ha)) (h2 : Row W ha 3 #[.int .i64 ((L + i * m : Nat) : Int)]) => next1_any hk ha ht hh b o n c (L + i * m) (L + i * m + m) D xs top W (hN.grown hg) h2 (by rw [hm]) (by
    rw [hm] at hH
    have := Nat.mul_le_mul_right m (show i + 1 ≤ N by omega)
    rw [Nat.succ_mul] at this
    omega) hn d1 d2 t0 t1)
  rw [hm] at HNX
  rw [hm, hP]
  have HPI : Hid (∀ i, plyD D top (seg xs (L + i * m) m) = P i) := Lib.hid (fun i => by rw [← hP])
  obtain ⟨cs0, hcs, hmk⟩ := makeP N (by omega) w
  obtain ⟨g, hg⟩ : ∃ g, w.heap.size = g := ⟨_, rfl⟩
  obtain ⟨w1, hw1⟩ : ∃ W, w.alloc (.cells cs0 57) = W := ⟨_, rfl⟩
  have H0 : Hid (LsP w w1 ha g N m L P 0) := Lib.hid ⟨by rw [← hw1]; exact World.grownBy_alloc w _ _, by rw [← hw1, Nat.zero_mul, Nat.add_zero]; exact hA.alloc _, cs0, by rw [← hw1, ← hg]; exact Row.new _ _ _, hcs, fun j hj => absurd hj (Nat.not_lt_zero _)⟩
  have HGW : Hid (w.heap.size ≤ g ∧ ha < w.heap.size) := Lib.hid ⟨by omega, hA.lt⟩
  have HI := Lib.hid infP
  have HO := Lib.hid (fun f => arr_one .u32 256 f)
  have HEN : Hid (∀ args w, (callFunc 36 args).run Tryz.prog w = .ok (.enter 36 args) w) := Lib.hid (enters_of Tryz.func36 (by kernel_rfl) rfl)
  have HES : Hid (∀ x, ∃ t v, errV (9, x) = .iface t v) := Lib.hid errV_shape9
  have hszP : Tryz.prog.cellsOf 57 = 256 := by kernel_rfl
  rw [hw1, hg] at hmk
  have HN8 := Lib.hid hN8
  clear hN hA hH hn d1 d2 t0 t1 hm hP hw1 hcs hN8 hszP
  go_enter Tryz.func41, Tryz.ntmps41
  go_wp2_with fail
  go_loopg [13] N (fun q s13 wx => ∃ i : Nat, i ≤ N ∧ q = N - i ∧ s13 = .int .i64 (i : Int) ∧ Hid (LsP w wx ha g N m L P i) ∧ Hid (∀ j, j < i → nrmQ (P j) 256 ≤ top))
  case atStart => exact ⟨0, Nat.zero_le _, rfl, rfl, H0, Lib.hid (fun j hj => absurd hj (Nat.not_lt_zero _))⟩
  case round =>
    clear H0 hmk
    obtain ⟨i, hi, hq, rfl, HL, HOK⟩ := hrel
    have HGQ := Lib.hid hq
    clear hq
    have hi0 : (0 : Int) ≤ (i : Int) := by omega
    by_cases hlt : i < N
    · have hii : (i : Int) < (N : Int) := by omega
      have HLT := Lib.hid hlt
      have HC := Lib.hid (HNX.out i hlt wr HL.out.1 HL.out.2.1)
      rw [HPI.out i] at HC
      have hen := HEN.out
      clear hlt hi
      go_wp2_with fail
      refine HC.out.mono ?_
      rintro e w2 ⟨⟨G, hG, rfl, hGP⟩, hgr, hA2⟩
      obtain ⟨hth, hps, hgw⟩ := HL.out.push HGW.out.1 HGW.out.2 HLT.out hgr hA2 G
      have HPS := Lib.hid hps
      have HGR := Lib.hid hgw
      have HGP := Lib.hid hGP
      have hi2 := HI.out G
      have ho2 := HO.out G
      rw [arr_lst] at hi2 ho2 ⊢
      obtain ⟨w3, hw3⟩ : ∃ W, w2.setCells g (i * 256) (lst G) = W := ⟨_, rfl⟩
      rw [hw3] at HPS HGR
      have HW3 := Lib.hid hw3
      clear hG hGP hgr hA2 hps hgw hw3 HC
      generalize lst G = lG at *
      by_cases hb : nrmQ (P i) 256 ≤ top
      · have HB := Lib.hid hb
        have HE0 : Hid (errV (nxE (P i) top ((L + i * m : Nat) : Int)) = .nilIface) := Lib.hid (by unfold nxE; rw [if_pos hb]; rfl)
        rw [HE0.out]
        clear hb hen
        go_upto_region 7 with (first | (refine wpList_store_mid rfl 57 _ _ rfl g (i * 256) lG.toArray rfl rfl hth hi2 ho2 ?_) | fail)
        (try simp only [List.toList_toArray])
        rw [HW3.out]
        clear HW3 hth
        have HL2 := Lib.hid (HPS.out (HGP.out HB.out))
        have HOK2 : Hid (∀ j, j < i + 1 → nrmQ (P j) 256 ≤ top) := Lib.hid (fun j hj => by
          by_cases e : j = i
          · subst e; exact HB.out
          · exact HOK.out j (by omega))
        have hw1 : wrap64 ((i : Int) + 1) = ((i + 1 : Nat) : Int) := by rw [IntWalk.wrap64_in _ (by have := HN8.out; have := HLT.out; omega)]; omega
        have HWI := Lib.hid hw1
        clear hw1 HPS HGR HL HOK
        go_wp2_with fail
        go_roundg (N - (i + 1))
        case rel => exact ⟨i + 1, HLT.out, rfl, by first | exact congrArg (Value.int .i64) HWI.out | go_num, HL2, HOK2⟩
        case measure => have := HGQ.out; have := HLT.out; omega
      · have HE0 : Hid (nxE (P i) top ((L + i * m : Nat) : Int) = (9, ((L + i * m : Nat) : Int))) := Lib.hid (by unfold nxE; rw [if_neg hb])
        rw [HE0.out]
        have HB := Lib.hid hb
        obtain ⟨t, v, hv⟩ := HES.out ((L + i * m : Nat) : Int)
        have HV := Lib.hid hv
        rw [hv]
        clear hb hen hv HE0
        go_upto_region 7 with (first | (refine wpList_store_mid rfl 57 _ _ rfl g (i * 256) lG.toArray rfl rfl hth hi2 ho2 ?_) | fail)
        (try simp only [List.toList_toArray])
        rw [HW3.out]
        clear HW3 hth
        go_wp2_with fail
        go_ret2
        exact ⟨HGR.out, .inr ⟨i, HLT.out, fun h => by have h2 := HB.out; omega, HOK.out, congrArg (fun x => Ending.returned (Value.tuple #[.slice none 0 0, x])) HV.out.symm⟩⟩
    · obtain rfl : i = N := by omega
      have hii : ¬ (i : Int) < (i : Int) := by omega
      clear hlt hi
      go_wp2_with fail
      go_ret2
      obtain ⟨h1, h2, cs, h3, h4, h5⟩ := HL.out
      exact ⟨h1, .inl ⟨g, cs, rfl, HGW.out.1, h3, h5, h2, HOK.out⟩⟩
end Go.Proofs.YteflpbkdnebopaaGreatDoor
