/- The closure that appends the group of a number. -/
import Derived.Test.YtbemkfneebbgeaaDoorO9D
import Derived.Shelf.Abstract
namespace Go.Proofs.YtbemkfneebbgeaaDoor
open Go.RowKit
set_option linter.unusedVariables false

/-- The closure's variable at d, the bytes' variable at b; all that is older than w0 stays. -/
structure Wr (w0 w : World) (fv : Value) (d b : Nat) (td : TypeId) (xs : List Int) : Prop where
  past : Past w0 w
  d0 : w0.heap.size ≤ d
  b0 : w0.heap.size ≤ b
  ne : d ≠ b
  rd : Row w d td #[fv]
  rb : ∃ A n c, Row w b 25 #[.slice A n c] ∧ w.ownsRow (max d b + 1) 5 1 (.slice A n c) n (xs.map (Value.int .u8)) ∧ xs.length = n
theorem own_set9 {w : World} {base n h : Nat} {e : TypeId} {v : Value} {xs : List Value} (ho : w.ownsRow base e 1 v n xs) (hb : h < base) (o : Nat) (u : Value) : (w.setCell ⟨h, o, none⟩ u).ownsRow base e 1 v n xs := by
  refine ⟨ho.1, ?_⟩
  rcases ho.2 with h1 | ⟨g, cap, cur, e1, e2, e3, e4⟩
  · exact .inl h1
  · exact .inr ⟨g, cap, cur, e1, e2, by
      have hne : h ≠ g := by omega
      rw [← e3]
      simp [World.setCell, Array.getElem?_modify, hne], e4⟩
theorem row_set9 {w : World} {g h : Nat} {t : TypeId} {cs : Array Value} (r : Row w g t cs) (hne : h ≠ g) (o : Nat) (v : Value) : Row (w.setCell ⟨h, o, none⟩ v) g t cs := by
  unfold Row at r ⊢
  simp [World.setCell, Array.getElem?_modify, hne, r]

theorem own_past9 {w w' : World} {base : Nat} {e : TypeId} {size : Nat} {v : Value} {n : Nat} {xs : List Value} (h : w.ownsRow base e size v n xs) (hp : Past w w') : w'.ownsRow base e size v n xs :=
  h.kept (only_of_past hp none) (by cases v.ownBlock <;> simp)
theorem sl_one9 (w : World) (e : TypeId) (x : Int) (h : 0 ≤ x ∧ x < 256) : Sl (w.alloc (.cells #[.int .u8 x] e)) (some ⟨w.heap.size, 0, none⟩) 1 1 [x] :=
  Sl.of_own (own_one w e x rfl (Nat.le_refl _)) (by simpa using h)
theorem grown_row9 {w w2 : World} {o : Obj} {b base n : Nat} {t e : TypeId} {cs : Array Value} {v : Value} {xs : List Value} (h : Row w b t cs ∧ w.ownsRow base e 1 v n xs) (hg : (w.alloc o).grownBy w2 v.ownBlock) (hb : b < base := by omega) : Row w2 b t cs :=
  (h.1.alloc o).grown hg fun e => by
    have := (h.2.lt b e.symm).1
    omega

/-- The shared bytes with more behind them, stored back. -/
theorem Wr.push {w0 w w2 : World} {fv : Value} {d b : Nat} {td : TypeId} {xs ys : List Int} {A A2 : Option Addr} {n c c2 : Nat} {o : Obj} (h : Wr w0 w fv d b td xs) (hrb : Row w b 25 #[.slice A n c]) (hown0 : w.ownsRow (max d b + 1) 5 1 (.slice A n c) n (xs.map (Value.int .u8))) (hl : xs.length = n)
    (hown : w2.ownsRow (max d b + 1) 5 1 (.slice A2 (n + ys.length) c2) (n + ys.length) ((xs ++ ys).map (Value.int .u8))) (hg : (w.alloc o).grownBy w2 (Value.slice A n c).ownBlock) :
    Wr w0 (w2.setCell ⟨b, 0, none⟩ (.slice A2 (n + ys.length) c2)) fv d b td (xs ++ ys) := by
  have hb : ∀ k, (Value.slice A n c).ownBlock = some k → max d b + 1 ≤ k := fun k hk => (hown0.lt k hk).1
  have hne := h.ne
  have hd0 := h.d0
  have hb0 := h.b0
  refine ⟨?_, h.d0, h.b0, h.ne, ?_, A2, n + ys.length, c2, ?_, ?_, by rw [List.length_append, hl]⟩
  · exact Below.setCell ((h.past.trans' (past_alloc9 w o)).grown hg (Nat.le_trans h.past.size (past_alloc9 w o).size) fun k hk => by have := hb k hk; omega) h.b0 _
  · exact row_set9 ((h.rd.alloc o).grown hg fun e => by have := hb d e.symm; omega) (by omega) 0 _
  · exact ((hrb.alloc o).grown hg fun e => by have := hb b e.symm; omega).set 0 _
  · exact own_set9 hown (by omega) 0 _

/-- What one call appends: the digits ahead, each with 128 added; then the last digit with the mark m. -/
def clo (n : Nat) (m : Int) : List Int := grpH (n / 128) ++ [((n % 128 : Nat) : Int) + m]
theorem clo_grp (n : Nat) : clo n 0 = grp n := by unfold clo grp; rw [Int.add_zero]
theorem clo_grpH {n : Nat} (h : n ≠ 0) : clo n 128 = grpH n := by
  rw [grpH_pos h]
  unfold clo
  rw [show ((n % 128 : Nat) : Int) + 128 = ((128 + n % 128 : Nat) : Int) by omega]
theorem clo_small {n : Nat} (h : n < 128) (m : Int) : clo n m = [((n % 128 : Nat) : Int) + m] := by
  unfold clo
  rw [Nat.div_eq_of_lt h, grpH_zero]
  rfl
theorem clo_big {n : Nat} (h : ¬ n < 128) (m : Int) : clo n m = clo (n / 128) 128 ++ [((n % 128 : Nat) : Int) + m] := by
  rw [clo_grpH (n := n / 128) (by omega)]
  rfl
theorem clo_len (n : Nat) (m : Int) (h : n < 4294967296) : (clo n m).length ≤ 5 := by
  have := grpH_len 4 (n / 128) (by omega)
  unfold clo
  rw [List.length_append, List.length_singleton]
  omega

set_option maxHeartbeats 2000000 in
theorem add_any (w0 : World) (d b : Nat) : ∀ (n : Nat) (m : Int) (xs : List Int) (w : World), n < 4294967296 → (m = 0 ∨ m = 128) → xs.length ≤ 1000 →
    Wr w0 w (.func (.func 24) #[] #[.pointer (some ⟨d, 0, none⟩), .pointer (some ⟨b, 0, none⟩)]) d b 40 xs →
    Calls Tryd.prog 24 #[.int .u32 (n : Int), .int .u8 m, .pointer (some ⟨d, 0, none⟩), .pointer (some ⟨b, 0, none⟩)] w fun e w' => e = .returned (.tuple #[]) ∧
      Wr w0 w' (.func (.func 24) #[] #[.pointer (some ⟨d, 0, none⟩), .pointer (some ⟨b, 0, none⟩)]) d b 40 (xs ++ clo n m) := by
  intro n
  induction n using Nat.strongRecOn with
  | _ n ih =>
    intro m xs w hn hm hx hw
    have eg : ∀ args w, (callFunc 24 args).run Tryd.prog w = .ok (.enter 24 args) w := enters_of Tryd.func24 (by kernel_rfl) rfl
    by_cases h10 : n < 128
    · have hi : ¬ (128 : Int) ≤ (n : Int) := by omega
      have hD := clo_small h10 m
      have HD := Lib.hid hD
      have HW := Lib.hid hw
      obtain ⟨A, k, c, hrb, hown, hlm⟩ := hw.rb
      have HO := Lib.hid (And.intro hrb hown)
      have f1 : w.cell? ⟨b, 0, none⟩ = some (.slice A k c) := hrb.cell 0
      have ff : w.frozen? ⟨b, 0, none⟩ = false := hrb.fr 0
      have hmod : (n : Int) % 128 = ((n % 128 : Nat) : Int) := by omega
      have hw1 : IntKind.u8.wrap ((n % 128 : Nat) : Int) = ((n % 128 : Nat) : Int) := by rw [IntKind.wrap_u8]; omega
      have hwr : IntKind.u8.wrap (((n % 128 : Nat) : Int) + m) = ((n % 128 : Nat) : Int) + m := by rw [IntKind.wrap_u8]; omega
      have hsl := sl_one9 w 5 (((n % 128 : Nat) : Int) + m) (by omega)
      have HSL := Lib.hid hsl
      have hbl : b < w.heap.size := HO.out.1.lt
      have hdl : d < w.heap.size := HW.out.rd.lt
      clear ih hD h10 hw hrb hown hsl hm
      generalize n % 128 = y at *
      go_enter Tryd.func24, Tryd.ntmps24
      go_wp2_with (at_builtin; refine wpList_append_sl rfl _ _ 25 5 rfl Tryd.underlying25 info8 (max d b + 1) _ k xs rfl (own_past9 HO.out.2 (past_alloc9 _ _)) (some ⟨w.heap.size, 0, none⟩) 1 1 [(y : Int) + m] rfl HSL.out (by omega) (by simp; omega) ?_; intro v' w2 hown hgrow; obtain ⟨A2, c2, hv⟩ := own_slice hown; subst hv; have g1 : w2.cell? ⟨b, 0, none⟩ = some (.slice A k c) := (grown_row9 HO.out hgrow).cell 0; have gf : w2.frozen? ⟨b, 0, none⟩ = false := (grown_row9 HO.out hgrow).fr 0; have HN := Lib.hid (HW.out.push HO.out.1 HO.out.2 hlm hown hgrow); clear hown hgrow)
      go_end0
      refine ⟨rfl, ?_⟩
      rw [HD.out]
      exact HN.out
    · have hi : (128 : Int) ≤ (n : Int) := by omega
      have hD := clo_big h10 m
      have HD := Lib.hid hD
      have hIH := ih (n / 128) (by omega) 128 xs w (by omega) (.inr rfl) hx hw
      have f0 : w.cell? ⟨d, 0, none⟩ = some (.func (.func 24) #[] #[.pointer (some ⟨d, 0, none⟩), .pointer (some ⟨b, 0, none⟩)]) := hw.rd.cell 0
      have hdv : (n : Int) / 128 = ((n / 128 : Nat) : Int) := by omega
      have hmod : (n : Int) % 128 = ((n % 128 : Nat) : Int) := by omega
      have hw1 : IntKind.u8.wrap ((n % 128 : Nat) : Int) = ((n % 128 : Nat) : Int) := by rw [IntKind.wrap_u8]; omega
      have hwr : IntKind.u8.wrap (((n % 128 : Nat) : Int) + m) = ((n % 128 : Nat) : Int) + m := by rw [IntKind.wrap_u8]; omega
      have hcl := clo_len (n / 128) 128 (by omega)
      have HIH := Lib.hid hIH
      have hq : n % 128 < 128 := Nat.mod_lt _ (by omega)
      have HM := Lib.hid hm
      clear ih hD h10 hw hIH hm
      generalize n / 128 = z at *
      generalize n % 128 = y at *
      go_enter Tryd.func24, Tryd.ntmps24
      go_wp2_with fail
      refine HIH.out.mono ?_
      rintro e w1 ⟨rfl, hw1'⟩
      obtain ⟨A, k, c, hrb, hown, hlm⟩ := hw1'.rb
      have HW := Lib.hid hw1'
      have HO := Lib.hid (And.intro hrb hown)
      have f1 : w1.cell? ⟨b, 0, none⟩ = some (.slice A k c) := hrb.cell 0
      have ff : w1.frozen? ⟨b, 0, none⟩ = false := hrb.fr 0
      have HSL := Lib.hid (sl_one9 w1 5 ((y : Int) + m) (by have := HM.out; omega))
      have hbl : b < w1.heap.size := HO.out.1.lt
      have hdl1 : d < w1.heap.size := HW.out.rd.lt
      have hml : k ≤ 1010 := by rw [← hlm, List.length_append]; omega
      clear hw1' hrb hown f0 HIH
      go_wp2_with (at_builtin; refine wpList_append_sl rfl _ _ 25 5 rfl Tryd.underlying25 info8 (max d b + 1) _ k (xs ++ clo z 128) rfl (own_past9 HO.out.2 (past_alloc9 _ _)) (some ⟨w1.heap.size, 0, none⟩) 1 1 [(y : Int) + m] rfl HSL.out (by omega) (by simp; omega) ?_; intro v' w2 hown hgrow; obtain ⟨A2, c2, hv⟩ := own_slice hown; subst hv; have g1 : w2.cell? ⟨b, 0, none⟩ = some (.slice A k c) := (grown_row9 HO.out hgrow).cell 0; have gf : w2.frozen? ⟨b, 0, none⟩ = false := (grown_row9 HO.out hgrow).fr 0; have HN := Lib.hid (HW.out.push HO.out.1 HO.out.2 hlm hown hgrow); clear hown hgrow)
      go_end0
      refine ⟨rfl, ?_⟩
      rw [HD.out, ← List.append_assoc]
      exact HN.out

end Go.Proofs.YtbemkfneebbgeaaDoor
