/- Contracts of package wire: the cut that Take and Word share. -/
import Derived.Test.YtdpnfojpeafdhaaDoorWire1
namespace Go.Proofs.YtdpnfojpeafdhaaDoor
open Go.RowKit

theorem next_nil (n : Int) (w : World) :
    Calls Tryd.prog 55 #[.pointer none, .int .i64 n] w fun e w' => e = .returned (.tuple #[.slice none 0 0, .bool false]) ∧ w = w' := by
  go_enter Tryd.func55, Tryd.ntmps55
  go_wp2
  go_ret2
  exact ⟨rfl, rfl⟩

theorem next_neg (n : Int) (w : World) (a : Addr) (hn : n < 0) :
    Calls Tryd.prog 55 #[.pointer (some a), .int .i64 n] w fun e w' => e = .returned (.tuple #[.slice none 0 0, .bool false]) ∧ w = w' := by
  go_enter Tryd.func55, Tryd.ntmps55
  go_wp2
  go_ret2
  exact ⟨rfl, rfl⟩

theorem next_far (n : Int) (w : World) (g : Nat) (A : Option Addr) (l c k : Nat) (h : Rdr w g A l c k) (hk : k ≤ l) (hl : l ≤ 9223372036854775807) (hn : ((l - k : Nat) : Int) < n) :
    Calls Tryd.prog 55 #[.pointer (some ⟨g, 0, none⟩), .int .i64 n] w fun e w' => e = .returned (.tuple #[.slice none 0 0, .bool false]) ∧ ∃ m, w' = w.drewN m := by
  have hc := fun W (hW : Rdr W g A l c k) => left_any W g A l c k hW hk hl
  have H := Lib.hid h
  clear h
  have hn0 : 0 ≤ n := by omega
  go_enter Tryd.func55, Tryd.ntmps55
  go_wp2_with fail
  refine (hc _ H.out).mono ?_
  rintro e w' ⟨rfl, m, rfl⟩
  go_wp2_with fail
  go_ret2
  exact ⟨rfl, m, rfl⟩

theorem next_ok (n : Nat) (w : World) (g : Nat) (A : Option Addr) (l c k : Nat) (h : Rdr w g A l c k) (hk : k ≤ l) (hlc : l ≤ c) (hl : c ≤ 9223372036854775807) (hn : n ≤ l - k) :
    Calls Tryd.prog 55 #[.pointer (some ⟨g, 0, none⟩), .int .i64 (n : Int)] w fun e w' =>
      e = .returned (.tuple #[.slice (if n = 0 then A else A.map (·.add k)) n n, .bool true]) ∧ ∃ m, w' = (w.drewN m).setCell ⟨g, 1, none⟩ (.int .i64 ((k + n : Nat) : Int)) := by
  have hc := fun W (hW : Rdr W g A l c k) => left_any W g A l c k hW hk (by omega)
  have h0 := h.c0
  have h1 := h.c1
  have hf := h.fr 1
  have H := Lib.hid h
  clear h
  have hn0 : (0 : Int) ≤ (n : Int) := by omega
  have hk0 : (0 : Int) ≤ (k : Int) := by omega
  have hkn : (k : Int) + (n : Int) ≤ (c : Int) := by omega
  have hle : (n : Int) ≤ ((l - k : Nat) : Int) := by omega
  go_enter Tryd.func55, Tryd.ntmps55
  go_wp2_with fail
  refine (hc _ H.out).mono ?_
  rintro e w' ⟨rfl, m, rfl⟩
  go_wp2_with fail
  have e1 : ((k : Int) + (n : Int)).toNat = k + n := by omega
  go_quiet (fail)
  clear e1
  go_wp2_with fail
  all_goals
    go_ret2
    exact ⟨rfl, _, rfl⟩

end Go.Proofs.YtdpnfojpeafdhaaDoor
