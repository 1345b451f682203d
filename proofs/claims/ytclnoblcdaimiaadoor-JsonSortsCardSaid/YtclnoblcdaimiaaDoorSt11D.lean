/- slices.swapRangeCmpFunc at pairs. -/
import Derived.Test.YtclnoblcdaimiaaDoorSt11C
import Derived.IntWalk
import Derived.Deep.Cut
import Derived.Deep.RegionHeld
import Derived.OrdersHeld
import Derived.BigFrame
namespace Go.Proofs.YtclnoblcdaimiaaDoor
open Go.RowKit Go.Sort Go.Shelf Go.Lib
set_option linter.unusedVariables false

theorem held_take {P : Program} {md : Region.Mode} {ops : Array Oper} {Q : Exit → Act → World → Prop} {S : World → Prop} {oi : Oper} {v : Value} {fuel : Nat} {listed : Array Bool} {a : Act} {w : World} (i d : Nat) (hi : ops[i]? = some oi) (hd : oi.dst = some d)
    (hs : Region.noSelect ops = true) (hf : Region.free md ops listed i = true) (hr : (Region.ready md ops listed).contains i = true)
    (hQ : ∀ c a w, Q (.panic c) (a.put oi.dst v) w → Q (.panic c) a w) (hy : YieldsIf P ops S oi v a) (hS : S w)
    (h : wpAnyH P md ops Q S fuel (listed.setIfInBounds i true) { a with tmps := a.tmps.setIfInBounds d v } w) : wpAnyH P md ops Q S (fuel + 1) listed a w :=
  wpAnyH_take hi hs hf hr hQ hy hS (by rw [hd]; exact h)
theorem step_load {P : Program} {ops : Array Oper} {o : Oper} {a : Act} {w : World} {K : Act → World → Prop} {Q : Exit → Act → World → Prop} {E : Prop} (hg : o.guard = none) (ty : TypeId) (x : Operand) (ho : o.op = .load ty x) (ad : Addr) (hx : a.eval x = .pointer (some ad)) (v : Value) (hl : (loadVar ty ad).run P w = .ok v w) (h : K (a.put o.dst v) w) :
    if Region.wanted o (yielded ops a.tmps) = true then Oper.wp P o a w K Q else E := by
  rw [if_pos (by simp [Region.wanted, hg])]
  unfold Oper.wp execOp
  simp only [ho, hx, Instr.loadAt, Instr.sureAddr, Sem.run_bind, Sem.run_pure, Result.andThen_ok, hl]
  exact h
theorem step_store {P : Program} {ops : Array Oper} {o : Oper} {a : Act} {w : World} {K : Act → World → Prop} {Q : Exit → Act → World → Prop} {E : Prop} (hg : o.guard = none) (ty : TypeId) (x y : Operand) (ho : o.op = .store ty x y) (ad : Addr) (v : Value) (hx : a.eval x = .pointer (some ad)) (hy : a.eval y = v) (w' : World) (hl : (storeVar ty ad v).run P w = .ok () w') (h : K (a.put o.dst undef) w') :
    if Region.wanted o (yielded ops a.tmps) = true then Oper.wp P o a w K Q else E := by
  rw [if_pos (by simp [Region.wanted, hg])]
  unfold Oper.wp execOp
  simp only [ho, hx, hy, Instr.storeAt, Instr.sureAddr, Sem.run_bind, Sem.run_pure, Result.andThen_ok, hl]
  exact h
theorem cell_put1 (w : World) (blk o o2 : Nat) (v : Value) (h : o2 ≠ o) : (w.setCell ⟨blk, o, none⟩ v).cell? ⟨blk, o2, none⟩ = w.cell? ⟨blk, o2, none⟩ :=
  World.cell?_setCells_out blk [v] o w ⟨blk, o2, none⟩ fun _ _ => by show o2 < o ∨ o + 1 ≤ o2; omega
theorem froz_put1 (w : World) (blk o : Nat) (v : Value) (x : Addr) : (w.setCell ⟨blk, o, none⟩ v).frozen? x = w.frozen? x := World.frozen?_setCells blk [v] o w x
theorem load_pair (W : World) (blk P0 : Nat) (x x2 : ByteArray) (a0 : W.cell? ⟨blk, P0, none⟩ = some (.string x)) (a1 : W.cell? ⟨blk, P0 + 1, none⟩ = some (.string x2)) :
    (loadVar 54 ⟨blk, P0, none⟩).run Tryd.prog W = .ok (.agg #[.string x, .string x2]) W := by
  unfold loadVar
  go_simp
theorem store_pair (W : World) (blk P0 : Nat) (x x2 y y2 : ByteArray) (a0 : W.cell? ⟨blk, P0, none⟩ = some (.string x)) (a1 : W.cell? ⟨blk, P0 + 1, none⟩ = some (.string x2)) (f0 : W.frozen? ⟨blk, P0, none⟩ = false) (f1 : W.frozen? ⟨blk, P0 + 1, none⟩ = false) :
    (storeVar 54 ⟨blk, P0, none⟩ (.agg #[.string y, .string y2])).run Tryd.prog W = .ok () (W.setCells blk P0 [.string y, .string y2]) := by
  have c1 : (W.setCell ⟨blk, P0, none⟩ (.string y)).cell? ⟨blk, P0 + 1, none⟩ = some (.string x2) := by rw [cell_put1 _ _ _ _ _ (by omega)]; exact a1
  have g1 : (W.setCell ⟨blk, P0, none⟩ (.string y)).frozen? ⟨blk, P0 + 1, none⟩ = false := by rw [froz_put1]; exact f1
  show _ = Result.ok () ((W.setCell ⟨blk, P0, none⟩ (.string y)).setCell ⟨blk, P0 + 1, none⟩ (.string y2))
  unfold storeVar
  go_simp
/-- What an exchange of the elements p and q meets. -/
theorem exch {w0 W : World} {blk off : Nat} {d0 dk : Array P2} (R : RowK encP 2 w0 blk off d0) (hs : dk.size = d0.size) (S : SWK encP 2 w0 blk off dk W) {p q : Nat} (hp : p < dk.size) (hq : q < dk.size) (hne : p ≠ q) :
    ∃ X Y w1 w2, (loadVar 54 ⟨blk, off + p * 2, none⟩).run Tryd.prog W = .ok X W ∧ (loadVar 54 ⟨blk, off + q * 2, none⟩).run Tryd.prog W = .ok Y W
      ∧ (storeVar 54 ⟨blk, off + p * 2, none⟩ Y).run Tryd.prog W = .ok () w1 ∧ (storeVar 54 ⟨blk, off + q * 2, none⟩ X).run Tryd.prog w1 = .ok () w2 ∧ SWK encP 2 w0 blk off (swp dk p q) w2 := by
  have hH := S.holds R.hblk R.hH hs
  obtain ⟨a1, a2, a3, a4⟩ := holdsP hH p hp
  obtain ⟨b1, b2, b3, b4⟩ := holdsP hH q hq
  have hsw := S.swap R.hk R.hblk p q hp hq
  refine ⟨_, _, _, _, load_pair _ _ _ _ _ a1 a2, load_pair _ _ _ _ _ b1 b2, store_pair _ _ _ _ _ dk[q]!.1 dk[q]!.2 a1 a2 a3 a4, store_pair _ _ _ dk[q]!.1 dk[q]!.2 dk[p]!.1 dk[p]!.2 ?_ ?_ ?_ ?_, hsw⟩
  · rw [World.cell?_setCells_out _ _ _ _ _ (fun _ _ => by show off + q * 2 < off + p * 2 ∨ off + p * 2 + 2 ≤ off + q * 2; omega)]
    exact b1
  · rw [World.cell?_setCells_out _ _ _ _ _ (fun _ _ => by show off + q * 2 + 1 < off + p * 2 ∨ off + p * 2 + 2 ≤ off + q * 2 + 1; omega)]
    exact b2
  · rw [World.frozen?_setCells]
    exact b3
  · rw [World.frozen?_setCells]
    exact b4
set_option maxHeartbeats 4000000 in
set_option maxRecDepth 100000 in
theorem swapRange_any (blk off cap a b n : Nat) (d0 d : Array P2) (w0 w : World) (fv : Value) (R : RowK encP 2 w0 blk off d0) (hs : d0.size = d.size) (S : SWK encP 2 w0 blk off d w) (hab : a + n ≤ b) (hb : b + n ≤ d.size) (hsz : d.size ≤ 1000000) :
    Calls Tryd.prog 83 #[.slice (some ⟨blk, off, none⟩) d.size cap, .int .i64 (a : Int), .int .i64 (b : Int), .int .i64 (n : Int), fv] w fun e w' => e = .returned (.tuple #[]) ∧ ∃ d', Swr d d' a b n ∧ SWK encP 2 w0 blk off d' w' := by
  have HR := Lib.hid R
  have HS := Lib.hid S
  have HDS := Lib.hid hs
  obtain ⟨N, hN⟩ : ∃ N, d.size = N := ⟨_, rfl⟩
  have HN := Lib.hid hN
  rw [hN] at hb hsz ⊢
  clear R S hs hN
  go_enter Tryd.func83, Tryd.ntmps83
  go_wp2_with fail
  go_loopg [10] n (fun q s10 wx => ∃ i : Nat, i ≤ n ∧ q = n - i ∧ s10 = .int .i64 (i : Int) ∧ Hid (∃ dk, Swr d dk a b i ∧ SWK encP 2 w0 blk off dk wx))
  case atStart => exact ⟨0, Nat.zero_le _, rfl, rfl, Lib.hid ⟨d, Swr.zero d a b, HS.out⟩⟩
  case round =>
    clear HS
    obtain ⟨i, hi, hq, rfl, HQ⟩ := hrel
    have HGQ := Lib.hid hq
    clear hq
    by_cases hlt : i < n
    · have hii : (i : Int) < (n : Int) := Int.ofNat_lt.2 hlt
      obtain ⟨dk, hsw, hS⟩ := HQ.out
      obtain ⟨p, hp⟩ : ∃ p, a + i = p := ⟨_, rfl⟩
      obtain ⟨q, hq⟩ : ∃ q, b + i = q := ⟨_, rfl⟩
      have hdk : dk.size = N := by rw [hsw.size, HN.out]
      obtain ⟨wd, hwd⟩ : ∃ w', w' = wr.drew := ⟨_, rfl⟩
      have HWD := Lib.hid hwd
      have hSd := hS.drew
      rw [← hwd] at hSd
      obtain ⟨X, Y, w1, w2, l1, l2, s1, s2, hS2⟩ := exch HR.out (by rw [hsw.size, HDS.out]) hSd (p := p) (q := q) (by omega) (by omega) (by omega)
      have HT : Hid (∃ dk, Swr d dk a b (i + 1) ∧ SWK encP 2 w0 blk off dk w2) := Lib.hid ⟨_, hsw.step hlt hab (by rw [HN.out]; exact hb), by rw [hp, hq]; exact hS2⟩
      have HLT := Lib.hid hlt
      have HMS : Hid (n - (i + 1) < n - i) := Lib.hid (by omega)
      have hp0 : (0 : Int) ≤ (p : Int) := by omega
      have hq0 : (0 : Int) ≤ (q : Int) := by omega
      have hpN : (p : Int) < (N : Int) := by omega
      have hqN : (q : Int) < (N : Int) := by omega
      have hwp : IntKind.i64.wrap ((a : Int) + (i : Int)) = (p : Int) := by rw [IntKind.wrap_i64]; omega
      have hwq : IntKind.i64.wrap ((b : Int) + (i : Int)) = (q : Int) := by rw [IntKind.wrap_i64]; omega
      have hwp2 : wrap64 (p : Int) = (p : Int) := IntWalk.wrap64_in _ (by omega)
      have hwq2 : wrap64 (q : Int) = (q : Int) := IntWalk.wrap64_in _ (by omega)
      clear HQ hS2 hS hsw hdk hp hq hlt hwd hSd
      go_upto_region 3 with (fail)
      refine wp_region_held_drew (S := fun _ => True) (by kernel_rfl) trivial (fun hH => ?_)
      change wpAnyH _ _ _ _ _ _ _ _ (World.drew _)
      rw [← HWD.out]
      clear hH HWD
      have hH : True := trivial
      refine held_take 0 16 (v := .slice (some ⟨blk, off, none⟩) N cap) rfl rfl (by kernel_rfl) (by kernel_rfl) (by kernel_rfl) (fun _ _ _ h => h) (Or.inl ⟨by kernel_rfl, fun w _ => by kernel_rfl⟩) hH ?_
      (try simp only [List.setIfInBounds_toArray, List.set_cons_zero, List.set_cons_succ])
      refine held_take 1 17 (v := .int .i64 (a : Int)) rfl rfl (by kernel_rfl) (by kernel_rfl) (by kernel_rfl) (fun _ _ _ h => h) (Or.inl ⟨by kernel_rfl, fun w _ => by kernel_rfl⟩) hH ?_
      (try simp only [List.setIfInBounds_toArray, List.set_cons_zero, List.set_cons_succ])
      refine held_take 2 18 (v := .int .i64 (i : Int)) rfl rfl (by kernel_rfl) (by kernel_rfl) (by kernel_rfl) (fun _ _ _ h => h) (Or.inl ⟨by kernel_rfl, fun w _ => by kernel_rfl⟩) hH ?_
      (try simp only [List.setIfInBounds_toArray, List.set_cons_zero, List.set_cons_succ])
      refine held_take 3 19 (v := .int .i64 (p : Int)) rfl rfl (by kernel_rfl) (by kernel_rfl) (by kernel_rfl) (fun _ _ _ h => h) (Or.inl ⟨by kernel_rfl, fun w _ => by go_simp⟩) hH ?_
      (try simp only [List.setIfInBounds_toArray, List.set_cons_zero, List.set_cons_succ])
      refine held_take 4 20 (v := .slice (some ⟨blk, off, none⟩) N cap) rfl rfl (by kernel_rfl) (by kernel_rfl) (by kernel_rfl) (fun _ _ _ h => h) (Or.inl ⟨by kernel_rfl, fun w _ => by kernel_rfl⟩) hH ?_
      (try simp only [List.setIfInBounds_toArray, List.set_cons_zero, List.set_cons_succ])
      refine held_take 5 21 (v := .int .i64 (b : Int)) rfl rfl (by kernel_rfl) (by kernel_rfl) (by kernel_rfl) (fun _ _ _ h => h) (Or.inl ⟨by kernel_rfl, fun w _ => by kernel_rfl⟩) hH ?_
      (try simp only [List.setIfInBounds_toArray, List.set_cons_zero, List.set_cons_succ])
      refine held_take 6 22 (v := .int .i64 (i : Int)) rfl rfl (by kernel_rfl) (by kernel_rfl) (by kernel_rfl) (fun _ _ _ h => h) (Or.inl ⟨by kernel_rfl, fun w _ => by kernel_rfl⟩) hH ?_
      (try simp only [List.setIfInBounds_toArray, List.set_cons_zero, List.set_cons_succ])
      refine held_take 7 23 (v := .int .i64 (q : Int)) rfl rfl (by kernel_rfl) (by kernel_rfl) (by kernel_rfl) (fun _ _ _ h => h) (Or.inl ⟨by kernel_rfl, fun w _ => by go_simp⟩) hH ?_
      (try simp only [List.setIfInBounds_toArray, List.set_cons_zero, List.set_cons_succ])
      refine held_take 8 24 (v := .slice (some ⟨blk, off, none⟩) N cap) rfl rfl (by kernel_rfl) (by kernel_rfl) (by kernel_rfl) (fun _ _ _ h => h) (Or.inl ⟨by kernel_rfl, fun w _ => by kernel_rfl⟩) hH ?_
      (try simp only [List.setIfInBounds_toArray, List.set_cons_zero, List.set_cons_succ])
      refine held_take 9 25 (v := .int .i64 (b : Int)) rfl rfl (by kernel_rfl) (by kernel_rfl) (by kernel_rfl) (fun _ _ _ h => h) (Or.inl ⟨by kernel_rfl, fun w _ => by kernel_rfl⟩) hH ?_
      (try simp only [List.setIfInBounds_toArray, List.set_cons_zero, List.set_cons_succ])
      refine held_take 10 26 (v := .int .i64 (i : Int)) rfl rfl (by kernel_rfl) (by kernel_rfl) (by kernel_rfl) (fun _ _ _ h => h) (Or.inl ⟨by kernel_rfl, fun w _ => by kernel_rfl⟩) hH ?_
      (try simp only [List.setIfInBounds_toArray, List.set_cons_zero, List.set_cons_succ])
      refine held_take 11 27 (v := .int .i64 (q : Int)) rfl rfl (by kernel_rfl) (by kernel_rfl) (by kernel_rfl) (fun _ _ _ h => h) (Or.inl ⟨by kernel_rfl, fun w _ => by go_simp⟩) hH ?_
      (try simp only [List.setIfInBounds_toArray, List.set_cons_zero, List.set_cons_succ])
      refine held_take 12 28 (v := .pointer (some ⟨blk, off + q * 2, none⟩)) rfl rfl (by kernel_rfl) (by kernel_rfl) (by kernel_rfl) (fun _ _ _ h => h) (Or.inl ⟨by kernel_rfl, fun w _ => by go_simp⟩) hH ?_
      (try simp only [List.setIfInBounds_toArray, List.set_cons_zero, List.set_cons_succ])
      refine held_take 14 30 (v := .slice (some ⟨blk, off, none⟩) N cap) rfl rfl (by kernel_rfl) (by kernel_rfl) (by kernel_rfl) (fun _ _ _ h => h) (Or.inl ⟨by kernel_rfl, fun w _ => by kernel_rfl⟩) hH ?_
      (try simp only [List.setIfInBounds_toArray, List.set_cons_zero, List.set_cons_succ])
      refine held_take 15 31 (v := .int .i64 (a : Int)) rfl rfl (by kernel_rfl) (by kernel_rfl) (by kernel_rfl) (fun _ _ _ h => h) (Or.inl ⟨by kernel_rfl, fun w _ => by kernel_rfl⟩) hH ?_
      (try simp only [List.setIfInBounds_toArray, List.set_cons_zero, List.set_cons_succ])
      refine held_take 16 32 (v := .int .i64 (i : Int)) rfl rfl (by kernel_rfl) (by kernel_rfl) (by kernel_rfl) (fun _ _ _ h => h) (Or.inl ⟨by kernel_rfl, fun w _ => by kernel_rfl⟩) hH ?_
      (try simp only [List.setIfInBounds_toArray, List.set_cons_zero, List.set_cons_succ])
      refine held_take 17 33 (v := .int .i64 (p : Int)) rfl rfl (by kernel_rfl) (by kernel_rfl) (by kernel_rfl) (fun _ _ _ h => h) (Or.inl ⟨by kernel_rfl, fun w _ => by go_simp⟩) hH ?_
      (try simp only [List.setIfInBounds_toArray, List.set_cons_zero, List.set_cons_succ])
      refine held_take 18 34 (v := .pointer (some ⟨blk, off + p * 2, none⟩)) rfl rfl (by kernel_rfl) (by kernel_rfl) (by kernel_rfl) (fun _ _ _ h => h) (Or.inl ⟨by kernel_rfl, fun w _ => by go_simp⟩) hH ?_
      (try simp only [List.setIfInBounds_toArray, List.set_cons_zero, List.set_cons_succ])
      refine wpAnyH_ready (rs := [13, 19]) (by kernel_rfl) (by simp) ?_
      refine AllReadyH.cons (by simp only [List.getElem?_toArray, List.getElem?_cons_succ, List.getElem?_cons_zero]; rfl) (fun K hK => ?_) (AllReadyH.cons (by simp only [List.getElem?_toArray, List.getElem?_cons_succ, List.getElem?_cons_zero]; rfl) (fun K hK => ?_) AllReadyH.nil)
      · refine step_load rfl 54 (.tmp 28) rfl ⟨blk, off + q * 2, none⟩ rfl Y l2 ?_
        (try dsimp only [Act.put])
        (try simp only [List.setIfInBounds_toArray])
        (try simp only [List.set_cons_succ])
        (try simp only [List.set_cons_zero])

        refine hK.out _ _ trivial (fun hH => ?_)
        clear hK K
        refine wpAnyH_ready (rs := [19]) (by kernel_rfl) (by simp) ?_
        refine AllReadyH.cons (by simp only [List.getElem?_toArray, List.getElem?_cons_succ, List.getElem?_cons_zero]; rfl) (fun K hK => ?_) AllReadyH.nil
        refine step_load rfl 54 (.tmp 34) rfl ⟨blk, off + p * 2, none⟩ rfl X l1 ?_
        (try dsimp only [Act.put])
        (try simp only [List.setIfInBounds_toArray])
        (try simp only [List.set_cons_succ])
        (try simp only [List.set_cons_zero])

        refine hK.out _ _ trivial (fun hH => ?_)
        clear hK K
        refine held_take 20 36 (v := .pointer (some ⟨blk, off + p * 2, none⟩)) rfl rfl (by kernel_rfl) (by kernel_rfl) (by kernel_rfl) (fun _ _ _ h => h) (Or.inl ⟨by kernel_rfl, fun w _ => by go_simp⟩) hH ?_
        (try simp only [List.setIfInBounds_toArray, List.set_cons_zero, List.set_cons_succ])
        refine wpAnyH_ready (rs := [21]) (by kernel_rfl) (by simp) ?_
        refine AllReadyH.cons (by simp only [List.getElem?_toArray, List.getElem?_cons_succ, List.getElem?_cons_zero]; rfl) (fun K hK => ?_) AllReadyH.nil
        refine step_store rfl 54 (.tmp 36) (.tmp 29) rfl ⟨blk, off + p * 2, none⟩ Y rfl rfl _ s1 ?_
        (try dsimp only [Act.put])
        (try simp only [List.setIfInBounds_toArray])
        (try simp only [List.set_cons_succ])
        (try simp only [List.set_cons_zero])

        refine hK.out _ _ trivial (fun hH => ?_)
        clear hK K
        refine held_take 22 37 (v := .pointer (some ⟨blk, off + q * 2, none⟩)) rfl rfl (by kernel_rfl) (by kernel_rfl) (by kernel_rfl) (fun _ _ _ h => h) (Or.inl ⟨by kernel_rfl, fun w _ => by go_simp⟩) hH ?_
        (try simp only [List.setIfInBounds_toArray, List.set_cons_zero, List.set_cons_succ])
        refine wpAnyH_ready (rs := [23]) (by kernel_rfl) (by simp) ?_
        refine AllReadyH.cons (by simp only [List.getElem?_toArray, List.getElem?_cons_succ, List.getElem?_cons_zero]; rfl) (fun K hK => ?_) AllReadyH.nil
        refine step_store rfl 54 (.tmp 37) (.tmp 35) rfl ⟨blk, off + q * 2, none⟩ X rfl rfl _ s2 ?_
        (try dsimp only [Act.put])
        (try simp only [List.setIfInBounds_toArray])
        (try simp only [List.set_cons_succ])
        (try simp only [List.set_cons_zero])

        refine hK.out _ _ trivial (fun hH => ?_)
        clear hK K
        refine wpAnyH_done (by kernel_rfl) ?_ _
        go_simp
        go_wp2_with fail
        go_roundg (n - (i + 1))
        case rel => exact ⟨i + 1, HLT.out, rfl, by go_num, HT⟩
        case measure => rw [HGQ.out]; exact HMS.out
      · refine step_load rfl 54 (.tmp 34) rfl ⟨blk, off + p * 2, none⟩ rfl X l1 ?_
        (try dsimp only [Act.put])
        (try simp only [List.setIfInBounds_toArray])
        (try simp only [List.set_cons_succ])
        (try simp only [List.set_cons_zero])

        refine hK.out _ _ trivial (fun hH => ?_)
        clear hK K
        refine wpAnyH_ready (rs := [13]) (by kernel_rfl) (by simp) ?_
        refine AllReadyH.cons (by simp only [List.getElem?_toArray, List.getElem?_cons_succ, List.getElem?_cons_zero]; rfl) (fun K hK => ?_) AllReadyH.nil
        refine step_load rfl 54 (.tmp 28) rfl ⟨blk, off + q * 2, none⟩ rfl Y l2 ?_
        (try dsimp only [Act.put])
        (try simp only [List.setIfInBounds_toArray])
        (try simp only [List.set_cons_succ])
        (try simp only [List.set_cons_zero])

        refine hK.out _ _ trivial (fun hH => ?_)
        clear hK K
        refine held_take 20 36 (v := .pointer (some ⟨blk, off + p * 2, none⟩)) rfl rfl (by kernel_rfl) (by kernel_rfl) (by kernel_rfl) (fun _ _ _ h => h) (Or.inl ⟨by kernel_rfl, fun w _ => by go_simp⟩) hH ?_
        (try simp only [List.setIfInBounds_toArray, List.set_cons_zero, List.set_cons_succ])
        refine wpAnyH_ready (rs := [21]) (by kernel_rfl) (by simp) ?_
        refine AllReadyH.cons (by simp only [List.getElem?_toArray, List.getElem?_cons_succ, List.getElem?_cons_zero]; rfl) (fun K hK => ?_) AllReadyH.nil
        refine step_store rfl 54 (.tmp 36) (.tmp 29) rfl ⟨blk, off + p * 2, none⟩ Y rfl rfl _ s1 ?_
        (try dsimp only [Act.put])
        (try simp only [List.setIfInBounds_toArray])
        (try simp only [List.set_cons_succ])
        (try simp only [List.set_cons_zero])

        refine hK.out _ _ trivial (fun hH => ?_)
        clear hK K
        refine held_take 22 37 (v := .pointer (some ⟨blk, off + q * 2, none⟩)) rfl rfl (by kernel_rfl) (by kernel_rfl) (by kernel_rfl) (fun _ _ _ h => h) (Or.inl ⟨by kernel_rfl, fun w _ => by go_simp⟩) hH ?_
        (try simp only [List.setIfInBounds_toArray, List.set_cons_zero, List.set_cons_succ])
        refine wpAnyH_ready (rs := [23]) (by kernel_rfl) (by simp) ?_
        refine AllReadyH.cons (by simp only [List.getElem?_toArray, List.getElem?_cons_succ, List.getElem?_cons_zero]; rfl) (fun K hK => ?_) AllReadyH.nil
        refine step_store rfl 54 (.tmp 37) (.tmp 35) rfl ⟨blk, off + q * 2, none⟩ X rfl rfl _ s2 ?_
        (try dsimp only [Act.put])
        (try simp only [List.setIfInBounds_toArray])
        (try simp only [List.set_cons_succ])
        (try simp only [List.set_cons_zero])

        refine hK.out _ _ trivial (fun hH => ?_)
        clear hK K
        refine wpAnyH_done (by kernel_rfl) ?_ _
        go_simp
        go_wp2_with fail
        go_roundg (n - (i + 1))
        case rel => exact ⟨i + 1, HLT.out, rfl, by go_num, HT⟩
        case measure => rw [HGQ.out]; exact HMS.out
    · have hii : ¬ (i : Int) < (n : Int) := by omega
      have HE : Hid (∃ dk, Swr d dk a b n ∧ SWK encP 2 w0 blk off dk wr) := Lib.hid (by rw [show n = i by omega]; exact HQ.out)
      go_wp2_with fail
      go_end0
      exact ⟨rfl, HE.out⟩
end Go.Proofs.YtclnoblcdaimiaaDoor
