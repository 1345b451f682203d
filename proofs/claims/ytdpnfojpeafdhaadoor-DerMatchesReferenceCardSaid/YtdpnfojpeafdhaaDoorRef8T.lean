/- The reference's tests of a tag and of the shape of a tree. -/
import Derived.Test.YtdpnfojpeafdhaaDoorRef8A
namespace Go.Proofs.YtdpnfojpeafdhaaDoor
open Go.RowKit

def tagB (t : Int) : Bool := decide (1 ≤ t ∧ t ≤ 254 ∧ t % 32 ≠ 31 ∧ (32 ≤ t ∨ t % 32 ≠ 0))
theorem rtag_any (t : Int) (w : World) (h0 : 0 ≤ t) (h1 : t ≤ 255) : Calls Tryd.prog 45 #[.int .i64 t] w fun e w' => e = .returned (.bool (tagB t)) ∧ w = w' := by
  by_cases c1 : 1 ≤ t
  · by_cases c2 : t ≤ 254
    · by_cases c3 : t % 32 = 31
      · have hr : tagB t = false := decide_eq_false fun h => h.2.2.1 c3
        have c3b : ((31 : Int) != 31) = false := by decide
        rw [hr]
        go_enter Tryd.func45, Tryd.ntmps45
        go_wp2
        go_ret
        exact ⟨rfl, rfl⟩
      · have c3b : (t % 32 != 31) = true := by simpa using c3
        by_cases c4 : 32 ≤ t
        · have hr : tagB t = true := decide_eq_true ⟨c1, c2, c3, .inl c4⟩
          rw [hr]
          clear c3
          go_enter Tryd.func45, Tryd.ntmps45
          go_wp2
          go_ret
          exact ⟨rfl, rfl⟩
        · have e : t % 32 = t := by omega
          have hr : tagB t = true := decide_eq_true ⟨c1, c2, c3, .inr (by omega)⟩
          have c5 : (t % 32 != 0) = true := by simp; omega
          rw [hr]
          clear c3 e
          go_enter Tryd.func45, Tryd.ntmps45
          go_wp2
          go_ret
          exact ⟨rfl, rfl⟩
    · have hr : tagB t = false := decide_eq_false fun h => c2 h.2.1
      rw [hr]
      go_enter Tryd.func45, Tryd.ntmps45
      go_wp2
      go_ret
      exact ⟨rfl, rfl⟩
  · have hr : tagB t = false := decide_eq_false fun h => c1 h.1
    rw [hr]
    go_enter Tryd.func45, Tryd.ntmps45
    go_wp2
    go_ret
    exact ⟨rfl, rfl⟩

/-- Whether a tag is that of a node without kids. -/
def simB (t : Int) : Bool := t / 32 % 2 == 0
/-- Whether a node by itself has the right tag and parts. -/
def okB (tag : Int) (bs : List Int) (ks : List T) : Bool := tagB tag && !(simB tag && decide (0 < ks.length)) && !(!simB tag && decide (0 < bs.length))
mutual
def shp : T → Bool
  | .node tag bs ks => okB tag bs ks && shpL ks
def shpL : List T → Bool
  | [] => true
  | k :: ks => shp k && shpL ks
end
theorem shpL_snoc (t : T) : ∀ ks : List T, shpL (ks ++ [t]) = (shpL ks && shp t)
  | [] => by simp [shpL]
  | k :: ks => by simp only [List.cons_append, shpL, shpL_snoc t ks, Bool.and_assoc]
theorem shpL_app : ∀ ks ls : List T, shpL (ks ++ ls) = (shpL ks && shpL ls)
  | [], ls => by simp [shpL]
  | k :: ks, ls => by simp only [List.cons_append, shpL, shpL_app ks ls, Bool.and_assoc]
theorem shpL_at (ks : List T) (i : Nat) (h : i < ks.length) (hf : shp (ks.getD i default) = false) : shpL ks = false := by
  rw [← List.take_append_drop (i + 1) ks, shpL_app, take_next ks i h, shpL_snoc, hf]
  simp

end Go.Proofs.YtdpnfojpeafdhaaDoor
