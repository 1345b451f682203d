/- What the program's package der hands back, in the words of the reference. -/
import Derived.Test.YtdpnfojpeafdhaaDoorSam8
import Derived.Test.YtdpnfojpeafdhaaDoorRef8P
import Derived.Test.YtdpnfojpeafdhaaDoorRef8G
import Derived.Test.YtdpnfojpeafdhaaDoorTold8
namespace Go.Proofs.YtdpnfojpeafdhaaDoor
open Go.RowKit

/-- A valid node. -/
def okT (t : T) : Bool := decide (dep t ≤ 8 ∧ shp t = true ∧ (txt t).length ≤ 1048576)
/-- What parsing leads to, at strings of any length. -/
def parseL (xs : List Int) (n : Nat) : Res := if 1048576 < n then .err 1 1048576 else parseW xs n
/-- A tree that is not too large for the contracts. -/
def fits (t : T) : Prop := dep t ≤ 1000 ∧ cnt t ≤ 1000000 ∧ (txt t).length ≤ 10000000

def ParseP (r : Res) (w : World) (e : Ending) (w' : World) : Prop :=
  match r with
  | .err c a => ∃ x y z, e = .returned (.tuple #[.agg #[x, y, z], (Ch.flt (c : Int) (a : Int)).val]) ∧ InM w' (.agg #[x, y, z]) (.node 0 [] []) ∧ Past w w'
  | .ok t _ => ∃ x y z, e = .returned (.tuple #[.agg #[x, y, z], .nilIface]) ∧ InM w' (.agg #[x, y, z]) t ∧ Past w w'
def EncP (t : T) (w : World) (e : Ending) (w' : World) : Prop :=
  (okT t = true → ∃ A c, e = .returned (.tuple #[.slice A (txt t).length c, .nilIface]) ∧ Sl w' A (txt t).length c (txt t) ∧ Past w w') ∧
  (okT t = false → ∃ A c, e = .returned (.tuple #[.slice A 0 c, (Ch.code 12).val]) ∧ Past w w')

structure Prog8 : Prop where
  parse : ∀ A n c xs w, Sl w A n c xs → n ≤ 1048577 → Calls Tryd.prog 8 #[.slice A n c] w (ParseP (parseL xs n) w)
  encode : ∀ v t w, InM w v t → fits t → Calls Tryd.prog 12 #[v] w (EncP t w)
  same : ∀ v t v2 t2 w, InM w v t → InM w v2 t2 → fits t → fits t2 → Calls Tryd.prog 15 #[v, v2] w fun e w' => ∃ r : Bool, e = .returned (.bool r) ∧ (r = true ↔ t = t2) ∧ Past w w'
  depth : ∀ v t w, InM w v t → fits t → Calls Tryd.prog 21 #[v] w fun e w' => e = .returned (.int .i64 (dep t : Int)) ∧ Past w w'
  count : ∀ v t w, InM w v t → fits t → Calls Tryd.prog 22 #[v] w fun e w' => e = .returned (.int .i64 (cnt t : Int)) ∧ Past w w'
  valid : ∀ v t w, InM w v t → fits t → Calls Tryd.prog 19 #[v] w fun e w' => e = .returned (.bool (okT t)) ∧ Past w w'

/-- The tree of the chapter's example. -/
def exT : T := .node 48 [] [.node 2 [5] []]
def noT : T := .node 0 [] []
theorem ex_txt : txt exT = [48, 3, 2, 1, 5] := by kernel_rfl
theorem ex_ok : okT exT = true := by kernel_rfl
theorem no_ok : okT noT = false := by kernel_rfl
theorem ex_parse : parseL [48, 3, 2, 1, 5] 5 = .ok exT 5 := by kernel_rfl
theorem bad_parse : parseL [4, 129, 1, 0] 4 = .err 6 1 := by kernel_rfl
theorem ex_fits : fits exT := ⟨by decide, by decide, by rw [ex_txt]; decide⟩
theorem no_fits : fits noT := ⟨by decide, by decide, by decide⟩
theorem no_in (w : World) : InM w (.agg #[.int .u8 0, .slice none 0 0, .slice none 0 0]) noT :=
  .mk (fun _ => undef) (fun _ => undef) (fun _ => undef) (by omega) (Sl.nil w) rfl (Nat.le_refl _) (Nat.zero_le _) (fun _ => rfl) (fun h => absurd h (Nat.lt_irrefl 0)) (fun i hi => absurd hi (Nat.not_lt_zero i))
theorem leaf_in {w : World} {A : Option Addr} {n c : Nat} {xs : List Int} (t : Int) (ht : 0 ≤ t ∧ t < 256) (h : Sl w A n c xs) : InM w (.agg #[.int .u8 t, .slice A n c, .slice none 0 0]) (.node t xs []) :=
  .mk (fun _ => undef) (fun _ => undef) (fun _ => undef) ht h rfl (Nat.le_refl _) (Nat.zero_le _) (fun _ => rfl) (fun h => absurd h (Nat.lt_irrefl 0)) (fun i hi => absurd hi (Nat.not_lt_zero i))
theorem one_in {w : World} {g : Nat} {e : TypeId} {x y z : Value} {k : T} (t : Int) (ht : 0 ≤ t ∧ t < 256) (hr : Row w g e #[x, y, z]) (h : InM w (.agg #[x, y, z]) k) : InM w (.agg #[.int .u8 t, .slice none 0 0, .slice (some ⟨g, 0, none⟩) 1 1]) (.node t [] [k]) := by
  refine .mk (fun _ => x) (fun _ => y) (fun _ => z) ht (Sl.nil w) rfl (Nat.le_refl _) (by unfold maxLen; omega) (fun e => by cases e) (fun _ => ⟨g, 0, rfl, fun i hi => ?_⟩) fun i hi => ?_
  · obtain rfl : i = 0 := by omega
    exact ⟨hr.cell 0, hr.cell 1, hr.cell 2⟩
  · obtain rfl : i = 0 := by omega
    exact h

end Go.Proofs.YtdpnfojpeafdhaaDoor
