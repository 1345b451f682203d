/- The texts of errors. -/
import Derived.Test.YtjaklopkammmdaaDoorFmt2
import Derived.Test.YtjaklopkammmdaaDoorErr2
import Derived.Deep.RegionWith
import Derived.Deep.RegionLaw
namespace Go.Proofs.YtjaklopkammmdaaDoor
open Go.RowKit

theorem itS_size (T : Nat → Int) (n : Int) (h0 : -9223372036854775808 ≤ n) (h1 : n ≤ 9223372036854775807) : (itS T n).size ≤ 21 := by
  unfold itS
  have hn := ndig_le T n.natAbs (by omega)
  split
  · rename_i h
    have : ∀ i : Fin 100, (Lib.decDigits i.val).length ≤ 2 := by decide +kernel
    have := this ⟨n.toNat, by omega⟩
    show (Lib.decDigits n.toNat).toArray.size ≤ 21
    simp at this ⊢
    omega
  · split
    · show ((45 : UInt8) :: rd _ _ _).toArray.size ≤ 21
      simp [rd_len]
      omega
    · show (rd _ _ _).toArray.size ≤ 21
      simp [rd_len]
      omega

def errW : ByteArray := ⟨#[101, 114, 114, 111, 114, 32]⟩
def Ch.text (T : Nat → Int) : Ch → ByteArray
  | .code c => errW ++ itS T c
  | .flt c _ => errW ++ itS T c
  | .loc _ p r => (p ++ ⟨#[58, 32]⟩) ++ r.text T
  | .shf _ _ r => r.text T
/-- All numbers and parts of a chain are in range. -/
def Ch.ok : Ch → Prop
  | .code c => -9223372036854775808 ≤ c ∧ c ≤ 9223372036854775807
  | .flt c _ => -9223372036854775808 ≤ c ∧ c ≤ 9223372036854775807
  | .loc _ p r => p.size ≤ 50 ∧ r.ok
  | .shf _ _ r => r.ok
theorem Ch.text_size (T : Nat → Int) (r : Ch) (h : r.ok) : (r.text T).size ≤ 27 + 52 * r.depth := by
  induction r with
  | code c =>
    have := itS_size T c h.1 h.2
    simp only [Ch.text, Ch.depth, ByteArray.size_append]
    have : errW.size = 6 := rfl
    omega
  | flt c a =>
    have := itS_size T c h.1 h.2
    simp only [Ch.text, Ch.depth, ByteArray.size_append]
    have : errW.size = 6 := rfl
    omega
  | loc g p r ih =>
    have h1 := ih h.2
    have h2 := h.1
    simp only [Ch.text, Ch.depth, ByteArray.size_append]
    have : (⟨#[58, 32]⟩ : ByteArray).size = 2 := rfl
    omega
  | shf g b r ih =>
    have h1 := ih h
    simp only [Ch.text, Ch.depth]
    omega

theorem textCode_any (T : Nat → Int) (c : Int) (w : World) (hT : Tab T w) (h0 : -9223372036854775808 ≤ c) (h1 : c ≤ 9223372036854775807) :
    Calls Tryd.prog 46 #[.int .i64 c] w fun e w' => e = .returned (.string (errW ++ itS T c)) ∧ Past w w' := by
  have HI := Lib.hid (itoa_any T c w hT h0 h1)
  have hs := itS_size T c h0 h1
  clear hT
  generalize itS T c = s at *
  go_enter Tryd.func46, Tryd.ntmps46
  go_wp2_with fail
  refine HI.out.mono ?_
  rintro e w1 ⟨rfl, hp⟩
  have HP := Lib.hid hp
  clear hp
  have hs2 : 6 + s.size ≤ 9223372036854775807 := by omega
  go_wp2
  go_ret
  exact ⟨rfl, HP.out⟩

theorem textFault_any (T : Nat → Int) (c a : Int) (w : World) (hT : Tab T w) (h0 : -9223372036854775808 ≤ c) (h1 : c ≤ 9223372036854775807) :
    Calls Tryd.prog 61 #[.agg #[.int .i64 c, .int .i64 a]] w fun e w' => e = .returned (.string (errW ++ itS T c)) ∧ Past w w' := by
  have hp : Past w (w.alloc (.cells #[.int .i64 c, .int .i64 a] 36)) := (Below.refl _ _).alloc (Nat.le_refl _) _
  have HI := Lib.hid (textCode_any T c _ (hT.past hp) h0 h1)
  have HP := Lib.hid hp
  clear hT hp
  generalize errW ++ itS T c = s at *
  go_enter Tryd.func61, Tryd.ntmps61
  go_wp2_with fail
  refine HI.out.mono ?_
  rintro e w1 ⟨rfl, hp⟩
  have HP2 := Lib.hid (HP.out.trans' hp)
  clear hp
  go_wp2_with fail
  go_ret
  exact ⟨rfl, HP2.out⟩

def Ch.ty : Ch → TypeId
  | .code _ => 34
  | .flt _ _ => 36
  | .loc _ _ _ => 52
  | .shf _ _ _ => 55
def Ch.raw : Ch → Value
  | .code c => .int .i64 c
  | .flt c a => .agg #[.int .i64 c, .int .i64 a]
  | .loc g _ _ => .pointer (some ⟨g, 0, none⟩)
  | .shf g _ _ => .pointer (some ⟨g, 0, none⟩)
def Ch.errF : Ch → FuncId
  | .code _ => 46
  | .flt _ _ => 61
  | .loc _ _ _ => 63
  | .shf _ _ _ => 65
theorem Ch.val_eq (r : Ch) : r.val = .iface r.ty r.raw := by cases r <;> rfl
theorem Ch.errN (r : Ch) (n : Nat) (w : World) : (nilAhead (n + 1) r.ty r.raw "Error").run Tryd.prog w = .ok (some false) w := by
  cases r
  · exact neCode n w _
  · exact neFault n w _ _
  · exact neLoc n w _
  · exact neShf n w _
theorem Ch.errM (r : Ch) (n : Nat) (w : World) : (method (n + 1) r.ty r.raw "Error").run Tryd.prog w = .ok (r.errF, r.raw) w := by
  cases r
  · exact meCode n w _
  · exact meFault n w _ _
  · exact meLoc n w _
  · exact meShf n w _

theorem Ch.errE (r : Ch) (args : Array Value) (w : World) : (callFunc r.errF args).run Tryd.prog w = .ok (.enter r.errF args) w := by
  cases r <;> kernel_rfl

theorem text_any (T : Nat → Int) (r : Ch) : ∀ (w : World), r.In w → Tab T w → r.ok → r.depth ≤ 1000 →
    Calls Tryd.prog r.errF #[r.raw] w fun e w' => e = .returned (.string (r.text T)) ∧ Past w w' := by
  induction r with
  | code c => intro w _ hT h _; exact textCode_any T c w hT h.1 h.2
  | flt c a => intro w _ hT h _; exact textFault_any T c a w hT h.1 h.2
  | shf g b q ih =>
    intro w hI hT hk hd
    have HI := Lib.hid (ih w hI.2 hT hk (by simp [Ch.depth] at hd; omega))
    have n1 := q.errN
    have m1 := q.errM
    have e9 := q.errE
    have hc := hI.1.cell 1
    simp at hc
    rw [q.val_eq] at hc
    clear ih hT hk hd hI
    show Calls _ 65 #[.pointer (some ⟨g, 0, none⟩)] w _
    have e1 : (Ch.shf g b q).text T = q.text T := rfl
    rw [e1]
    clear e1
    generalize q.text T = s at *
    generalize q.ty = qt at *
    generalize q.raw = qr at *
    generalize q.errF = qf at *
    go_enter Tryd.func65, Tryd.ntmps65
    go_wp2_with fail
    refine HI.out.mono ?_
    rintro e w1 ⟨rfl, hp⟩
    have HP := Lib.hid hp
    clear hp
    go_wp2_with fail
    go_ret
    exact ⟨rfl, HP.out⟩
  | loc g p q ih =>
    intro w hI hT hk hd
    have hd2 : q.depth ≤ 998 := by simp [Ch.depth] at hd; omega
    have HI := Lib.hid (fun m => ih (w.drewN m) (hI.2.drewN m) (fun i hi => hT i hi) hk.2 (by omega))
    have hts := q.text_size T hk.2
    have hps := hk.1
    have n1 := q.errN
    have m1 := q.errM
    have e9 := q.errE
    have hc0 := hI.1.cell 0
    have hc := hI.1.cell 1
    simp at hc hc0
    rw [q.val_eq] at hc
    clear ih hT hk hd hI
    show Calls _ 63 #[.pointer (some ⟨g, 0, none⟩)] w _
    have e1 : (Ch.loc g p q).text T = (p ++ ⟨#[58, 32]⟩) ++ q.text T := rfl
    rw [e1]
    clear e1
    generalize q.text T = s at *
    generalize q.ty = qt at *
    generalize q.raw = qr at *
    generalize q.errF = qf at *
    go_enter Tryd.func63, Tryd.ntmps63
    have hs0 : (9223372036854775807 < p.size + 2) = False := eq_false (by omega)
    have hs1 : (9223372036854775807 < p.size + 2 + s.size) = False := eq_false (by omega)
    have hlt := cell_lt hc0
    simp only at hlt
    go_wp2_with fail
    go_region_law (first
      | (go_simp; refine (HI.out _).mono ?_; rintro e7 w7 ⟨rfl, hp7⟩; have HP7 := Lib.hid hp7; have q0 : w7.cell? ⟨g, 0, none⟩ = some (.string p) := (hp7.cell hlt).trans hc0; have q1 : w7.cell? ⟨g, 1, none⟩ = some (.iface qt qr) := (hp7.cell hlt).trans hc; clear hp7))
    all_goals
      go_wp2_with fail
      go_ret
      exact ⟨rfl, (Past.drewN (Below.refl _ w) 1).trans' HP7.out⟩

end Go.Proofs.YtjaklopkammmdaaDoor
