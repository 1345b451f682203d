/- The reference's Public and Private. The reference's Private. -/
import Derived.Test.YtalhdalmafhofaaGreatDoorR15A
import Derived.Test.YtalhdalmafhofaaGreatDoorRef7A
namespace Go.Proofs.YtalhdalmafhofaaGreatDoor
open Go.RowKit
set_option linter.unusedVariables false
set_option maxRecDepth 100000

theorem own_past15 {w w' : World} {base : Nat} {e : TypeId} {size : Nat} {v : Value} {n : Nat} {xs : List Value} (h : w.ownsRow base e size v n xs) (hp : Past w w') : w'.ownsRow base e size v n xs :=
  h.kept (only_of_past hp (some w.heap.size)) (by
    cases hv : v.ownBlock with
    | none => exact .inl rfl
    | some g =>
      refine .inr fun e1 => ?_
      have := (h.lt g hv).2
      injection e1 with e1
      omega)
theorem own_some {w : World} {base : Nat} {e : TypeId} {v : Value} {n : Nat} {xs : List Value} (h : w.ownsRow base e 1 v n xs) (hn : 0 < n) :
    ∃ g c, v = .slice (some ⟨g, 0, none⟩) n c ∧ base ≤ g ∧ g < w.heap.size ∧ ∀ j u, xs[j]? = some u → w.cell? ((⟨g, 0, none⟩ : Addr).add j) = some u := by
  rcases h.2 with ⟨_, h2⟩ | ⟨g, cap, cur, h1, h2, h3⟩
  · omega
  · subst h1
    exact ⟨g, cap, rfl, h2, (h.lt g rfl).2, h.cells rfl⟩
theorem bytes_one (xs : List Int) : ∀ u ∈ xs.map (Value.int .u8), u.oneCell' = true := by
  intro u hu
  obtain ⟨x, _, rfl⟩ := List.mem_map.1 hu
  rfl
/-- What Public returns. -/
def w32 (x : Int) : Int := x % 4294967296
def pubB (a : Nat) (s : Int) : List Int := spB s (128 * (a + 1)) 0 ++ spB (w32 (s + 1)) 10 2
theorem pubB_len (a : Nat) (s : Int) : (pubB a s).length = 384 * (a + 1) + 32 := by unfold pubB; rw [List.length_append, spB_len, spB_len]; omega
theorem rsp_any (s n : Int) (k r : Nat) (w : World) (hn : n = ((3 * k + r : Nat) : Int)) (hs : 0 ≤ s ∧ s < 4294967296) (hk : 3 * k ≤ 2000) (hr : r < 3) :
    Calls Tryz.prog 6 #[.int .u32 s, .int .i64 n] w (OwnB (spB s k r) w) := by
  subst hn
  exact rspread15_any s k r w hs hk hr
theorem w32_rng (x : Int) : 0 ≤ w32 x ∧ w32 x < 4294967296 := by unfold w32; omega
theorem w32_wrap (x : Int) : IntKind.u32.wrap x = w32 x := by rw [IntKind.wrap_u32]; rfl
end Go.Proofs.YtalhdalmafhofaaGreatDoor

namespace Go.Proofs.YtalhdalmafhofaaGreatDoor
open Go.RowKit
set_option linter.unusedVariables false
set_option maxRecDepth 100000

def shaL (xs : List Int) : List Int := bl (rout (rstate xs 136 6) 136) 32
theorem shaL_len (xs : List Int) : (shaL xs).length = 32 := bl_len _ _
theorem shaL_rng (xs : List Int) : ∀ x ∈ shaL xs, 0 ≤ x ∧ x < 256 := bl_rng _ _ fun j => rout_rng _ _ j
theorem Sl.src {w : World} {A : Option Addr} {n c : Nat} {xs : List Int} (h : Sl w A n c xs) (hn : 0 < n) : ∃ ad, A = some ad ∧ ∀ j u, (xs.map (Value.int .u8))[j]? = some u → w.cell? (ad.add j) = some u := by
  obtain ⟨b, o, rfl, _⟩ := h.bytes hn
  exact ⟨_, rfl, h.cells⟩
theorem Sl.far {w w' : World} {ad : Addr} {n c : Nat} {xs : List Int} {row : Option Nat} (h : Sl w (some ad) n c xs) (hg : w.grownBy w' row) (hne : some ad.block ≠ row) : Sl w' (some ad) n c xs :=
  ⟨h.len, h.cap, h.big, fun hn => by
    obtain ⟨b, o, e, hc⟩ := h.bytes hn
    injection e with e
    subst e
    exact ⟨b, o, rfl, fun i hi => hg.cell (hc i hi) hne⟩, h.rng, h.nil0⟩
def privB (a : Nat) (s : Int) : List Int := spB (w32 (s + 2)) (128 * (a + 1)) 0 ++ pubB a s ++ shaL (pubB a s) ++ spB (w32 (s + 3)) 10 2
theorem pubB_rng (a : Nat) (s : Int) : ∀ x ∈ pubB a s, 0 ≤ x ∧ x < 256 := by
  intro x hx
  rcases List.mem_append.1 hx with h | h
  · exact spB_rng _ _ _ x h
  · exact spB_rng _ _ _ x h
theorem privB_rng (a : Nat) (s : Int) : ∀ x ∈ privB a s, 0 ≤ x ∧ x < 256 := by
  intro x hx
  unfold privB at hx
  simp only [List.mem_append] at hx
  rcases hx with ((h | h) | h) | h
  · exact spB_rng _ _ _ x h
  · exact pubB_rng _ _ x h
  · exact shaL_rng _ x h
  · exact spB_rng _ _ _ x h
theorem privB_len (a : Nat) (s : Int) : (privB a s).length = 2 * (384 * (a + 1)) + 96 := by
  unfold privB
  simp only [List.length_append, spB_len, pubB_len, shaL_len]
  omega
end Go.Proofs.YtalhdalmafhofaaGreatDoor
