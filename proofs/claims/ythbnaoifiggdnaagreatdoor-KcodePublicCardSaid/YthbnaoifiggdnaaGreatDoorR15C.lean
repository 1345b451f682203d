/- The reference's Public and Private. The reference's Private. -/
import Derived.Test.YthbnaoifiggdnaaGreatDoorR15A
import Derived.Test.YthbnaoifiggdnaaGreatDoorRef7A
namespace Go.Proofs.YthbnaoifiggdnaaGreatDoor
open Go.RowKit
set_option linter.unusedVariables false
set_option maxRecDepth 100000

theorem own_past15 {w w' : World} {base : Nat} {e : TypeId} {size : Nat} {v : Value} {n : Nat} {xs : List Value} (h : w.ownsRow base e size v n xs) (hp : Past w w') : w'.ownsRow base e size v n xs :=
  h.kept (only_of_past hp (some w.heap.size)) (by
    cases hv : v.ownBlock with
    | none => exact .inl rfl
    | some g =>
      refine .inr fun e1 => ?_
      have := (h.lt g hv).2
      injection e1 with e1
      omega)
theorem own_some {w : World} {base : Nat} {e : TypeId} {v : Value} {n : Nat} {xs : List Value} (h : w.ownsRow base e 1 v n xs) (hn : 0 < n) :
    ∃ g c, v = .slice (some ⟨g, 0, none⟩) n c ∧ base ≤ g ∧ g < w.heap.size ∧ ∀ j u, xs[j]? = some u → w.cell? ((⟨g, 0, none⟩ : Addr).add j) = some u := by
  rcases h.2 with ⟨_, h2⟩ | ⟨g, cap, cur, h1, h2, h3⟩
  · omega
  · subst h1
    exact ⟨g, cap, rfl, h2, (h.lt g rfl).2, h.cells rfl⟩
theorem bytes_one (xs : List Int) : ∀ u ∈ xs.map (Value.int .u8), u.oneCell' = true := by
  intro u hu
  obtain ⟨x, _, rfl⟩ := List.mem_map.1 hu
  rfl
/-- What Public returns. -/
def w32 (x : Int) : Int := x % 4294967296
def pubB (a : Nat) (s : Int) : List Int := spB s (128 * (a + 1)) 0 ++ spB (w32 (s + 1)) 10 2
theorem pubB_len (a : Nat) (s : Int) : (pubB a s).length = 384 * (a + 1) + 32 := by unfold pubB; rw [List.length_append, spB_len, spB_len]; omega
theorem rsp_any (s n : Int) (k r : Nat) (w : World) (hn : n = ((3 * k + r : Nat) : Int)) (hs : 0 ≤ s ∧ s < 4294967296) (hk : 3 * k ≤ 2000) (hr : r < 3) :
    Calls Tryz.prog 24 #[.int .u32 s, .int .i64 n] w (OwnB (spB s k r) w) := by
  subst hn
  exact rspread15_any s k r w hs hk hr
theorem w32_rng (x : Int) : 0 ≤ w32 x ∧ w32 x < 4294967296 := by unfold w32; omega
theorem w32_wrap (x : Int) : IntKind.u32.wrap x = w32 x := by rw [IntKind.wrap_u32]; rfl
set_option maxHeartbeats 1000000 in
theorem rpublic_any (a : Nat) (s : Int) (w : World) (ha : 1 ≤ a ∧ a ≤ 3) (hs : 0 ≤ s ∧ s < 4294967296) :
    Calls Tryz.prog 10 #[.int .i64 (a : Int), .int .u32 s] w (OwnB (pubB a s) w) := by
  obtain ⟨i8, hi8, hz80, hz81, hz82⟩ := info_parts info8
  obtain ⟨n, hn⟩ : ∃ n : Nat, 384 * (a + 1) = n := ⟨_, rfl⟩
  obtain ⟨k, hk⟩ : ∃ k : Nat, 128 * (a + 1) = k := ⟨_, rfl⟩
  have HSP := Lib.hid (fun w => rsp_any s (n : Int) k 0 w (by omega) hs (by omega) (by omega))
  have HSQ := Lib.hid (fun w => rsp_any (w32 (s + 1)) 32 10 2 w (by decide) (w32_rng _) (by omega) (by omega))
  have HLP : Hid ((spB s k 0).length = n) := Lib.hid (by rw [spB_len]; omega)
  have HLQ : Hid ((spB (w32 (s + 1)) 10 2).length = 32) := Lib.hid (spB_len _ _ _)
  have HPB : Hid (pubB a s = spB s k 0 ++ spB (w32 (s + 1)) 10 2) := Lib.hid (by unfold pubB; rw [hk])
  have HRG : Hid ((∀ x ∈ spB s k 0, 0 ≤ x ∧ x < 256) ∧ ∀ x ∈ spB (w32 (s + 1)) 10 2, 0 ≤ x ∧ x < 256) := Lib.hid ⟨spB_rng _ _ _, spB_rng _ _ _⟩
  obtain ⟨b, hb⟩ : ∃ b : Nat, a + 1 = b := ⟨_, rfl⟩
  have hnb : n + 32 ≤ maxLen := by unfold maxLen; omega
  have hnb2 : (n + 32) * 1 ≤ 140737488355328 := by omega
  have hn0 : 0 < n := by omega
  have HWW : Hid (IntKind.u32.wrap (s + 1) = w32 (s + 1) ∧ IntKind.i64.wrap ((a : Int) + 1) = (b : Int) ∧ IntKind.i64.wrap (384 * (b : Int)) = (n : Int) ∧ wrap64 (n : Int) = (n : Int) ∧ wrap64 (b : Int) = (b : Int)) := Lib.hid
    ⟨w32_wrap _, by rw [IntKind.wrap_i64]; omega, by rw [IntKind.wrap_i64]; omega, IntWalk.wrap64_in _ (by omega), IntWalk.wrap64_in _ (by omega)⟩
  clear hn hk hb hs ha
  generalize spB s k 0 = xs at *
  generalize spB (w32 (s + 1)) 10 2 = ys at *
  generalize w32 (s + 1) = s2 at *
  obtain ⟨hw1, hw2, hw3, hw4, hw5⟩ := HWW.out
  go_enter Tryz.func10, Tryz.ntmps10
  go_wp2_with fail
  refine (HSP.out _).mono ?_
  rintro e w1 ⟨v1, rfl, hown1, _, hp1⟩
  rw [HLP.out] at hown1
  have HO1 := Lib.hid hown1
  have HP1 := Lib.hid hp1
  clear hown1 hp1
  go_wp2_with fail
  refine (HSQ.out _).mono ?_
  rintro e w2 ⟨v2, rfl, hown2, _, hp2⟩
  rw [HLQ.out] at hown2
  obtain ⟨g2, c2, rfl, hg2, hg3, hcells⟩ := own_some hown2 (by decide)
  have HO2 := Lib.hid (own_past15 HO1.out hp2)
  have HP2 := Lib.hid (HP1.out.trans' hp2)
  have HC := Lib.hid hcells
  clear hown2 hp2 hcells
  go_wp2_with (at_builtin; refine wpList_append_own _ rfl _ _ 25 rfl w.heap.size 5 i8 (.int .u8 0) 1 1 Tryz.underlying25 hi8 hz80 hz81 hz82 rfl (by decide) _ n _ rfl HO2.out ⟨g2, 0, none⟩ 32 c2 (ys.map (Value.int .u8)) rfl (by rw [List.length_map, HLQ.out]) HC.out (bytes_one ys) hnb hnb2 HP2.out.size ?_)
  intro v' w3 hown3 hgrow3 _
  have HO3 : Hid (w3.ownsRow w.heap.size 5 1 v' (pubB a s).length ((pubB a s).map (Value.int .u8)) ∧ Past w w3) := Lib.hid (by
    rw [HPB.out, List.map_append, List.length_append, HLP.out, HLQ.out]
    exact ⟨hown3, HP2.out.grown hgrow3 HP2.out.size (own_block_ge HO2.out)⟩)
  clear hown3 hgrow3
  go_wp2_with fail
  go_ret
  refine ⟨_, rfl, HO3.out.1, ?_, HO3.out.2⟩
  rw [HPB.out]
  intro x hx
  rcases List.mem_append.1 hx with h | h
  · exact HRG.out.1 x h
  · exact HRG.out.2 x h
end Go.Proofs.YthbnaoifiggdnaaGreatDoor

namespace Go.Proofs.YthbnaoifiggdnaaGreatDoor
open Go.RowKit
set_option linter.unusedVariables false
set_option maxRecDepth 100000

def shaL (xs : List Int) : List Int := bl (rout (rstate xs 136 6) 136) 32
theorem shaL_len (xs : List Int) : (shaL xs).length = 32 := bl_len _ _
theorem shaL_rng (xs : List Int) : ∀ x ∈ shaL xs, 0 ≤ x ∧ x < 256 := bl_rng _ _ fun j => rout_rng _ _ j
theorem Sl.src {w : World} {A : Option Addr} {n c : Nat} {xs : List Int} (h : Sl w A n c xs) (hn : 0 < n) : ∃ ad, A = some ad ∧ ∀ j u, (xs.map (Value.int .u8))[j]? = some u → w.cell? (ad.add j) = some u := by
  obtain ⟨b, o, rfl, _⟩ := h.bytes hn
  exact ⟨_, rfl, h.cells⟩
theorem Sl.far {w w' : World} {ad : Addr} {n c : Nat} {xs : List Int} {row : Option Nat} (h : Sl w (some ad) n c xs) (hg : w.grownBy w' row) (hne : some ad.block ≠ row) : Sl w' (some ad) n c xs :=
  ⟨h.len, h.cap, h.big, fun hn => by
    obtain ⟨b, o, e, hc⟩ := h.bytes hn
    injection e with e
    subst e
    exact ⟨b, o, rfl, fun i hi => hg.cell (hc i hi) hne⟩, h.rng, h.nil0⟩
def privB (a : Nat) (s : Int) : List Int := spB (w32 (s + 2)) (128 * (a + 1)) 0 ++ pubB a s ++ shaL (pubB a s) ++ spB (w32 (s + 3)) 10 2
theorem pubB_rng (a : Nat) (s : Int) : ∀ x ∈ pubB a s, 0 ≤ x ∧ x < 256 := by
  intro x hx
  rcases List.mem_append.1 hx with h | h
  · exact spB_rng _ _ _ x h
  · exact spB_rng _ _ _ x h
theorem privB_rng (a : Nat) (s : Int) : ∀ x ∈ privB a s, 0 ≤ x ∧ x < 256 := by
  intro x hx
  unfold privB at hx
  simp only [List.mem_append] at hx
  rcases hx with ((h | h) | h) | h
  · exact spB_rng _ _ _ x h
  · exact pubB_rng _ _ x h
  · exact shaL_rng _ x h
  · exact spB_rng _ _ _ x h
theorem privB_len (a : Nat) (s : Int) : (privB a s).length = 2 * (384 * (a + 1)) + 96 := by
  unfold privB
  simp only [List.length_append, spB_len, pubB_len, shaL_len]
  omega
set_option maxHeartbeats 2000000 in
theorem rprivate_any (a : Nat) (s : Int) (w : World) (ha : 1 ≤ a ∧ a ≤ 3) (hs : 0 ≤ s ∧ s < 4294967296) :
    Calls Tryz.prog 11 #[.int .i64 (a : Int), .int .u32 s] w (OwnB (privB a s) w) := by
  obtain ⟨i8, hi8, hz80, hz81, hz82⟩ := info_parts info8
  obtain ⟨n, hn⟩ : ∃ n : Nat, 384 * (a + 1) = n := ⟨_, rfl⟩
  obtain ⟨k, hk⟩ : ∃ k : Nat, 128 * (a + 1) = k := ⟨_, rfl⟩
  have HPU := Lib.hid (fun w => rpublic_any a s w ha hs)
  have HSP := Lib.hid (fun w => rsp_any (w32 (s + 2)) (n : Int) k 0 w (by omega) (w32_rng _) (by omega) (by omega))
  have HSQ := Lib.hid (fun w => rsp_any (w32 (s + 3)) 32 10 2 w (by decide) (w32_rng _) (by omega) (by omega))
  have HLU : Hid ((pubB a s).length = n + 32) := Lib.hid (by rw [pubB_len]; omega)
  have HLP : Hid ((spB (w32 (s + 2)) k 0).length = n) := Lib.hid (by rw [spB_len]; omega)
  have HLQ : Hid ((spB (w32 (s + 3)) 10 2).length = 32) := Lib.hid (spB_len _ _ _)
  have HLV : Hid ((privB a s).length = n + (n + 32) + 32 + 32) := Lib.hid (by rw [privB_len]; omega)
  have HPB : Hid (privB a s = spB (w32 (s + 2)) k 0 ++ pubB a s ++ shaL (pubB a s) ++ spB (w32 (s + 3)) 10 2) := Lib.hid (by unfold privB; rw [hk])
  have HRG := Lib.hid (privB_rng a s)
  have HRU := Lib.hid (pubB_rng a s)
  have HSHL := Lib.hid (shaL_len (pubB a s))
  have HSH := Lib.hid (fun A c w (h : Sl w A (n + 32) c (pubB a s)) => rsha256_any A (n + 32) c (pubB a s) w h (by omega))
  obtain ⟨b, hb⟩ : ∃ b : Nat, a + 1 = b := ⟨_, rfl⟩
  have ha1 : n + (n + 32) ≤ maxLen := by unfold maxLen; omega
  have ha2 : (n + (n + 32)) * 1 ≤ 140737488355328 := by omega
  have hb1 : n + (n + 32) + 32 ≤ maxLen := by unfold maxLen; omega
  have hb2 : (n + (n + 32) + 32) * 1 ≤ 140737488355328 := by omega
  have hc1 : n + (n + 32) + 32 + 32 ≤ maxLen := by unfold maxLen; omega
  have hc2 : (n + (n + 32) + 32 + 32) * 1 ≤ 140737488355328 := by omega
  have hn0 : 0 < n := by omega
  have hn1 : 0 < n + 32 := by omega
  have HWW : Hid (IntKind.u32.wrap (s + 2) = w32 (s + 2) ∧ IntKind.u32.wrap (s + 3) = w32 (s + 3) ∧ IntKind.i64.wrap ((a : Int) + 1) = (b : Int) ∧ IntKind.i64.wrap (384 * (b : Int)) = (n : Int) ∧ wrap64 (n : Int) = (n : Int) ∧ wrap64 (b : Int) = (b : Int)) := Lib.hid
    ⟨w32_wrap _, w32_wrap _, by rw [IntKind.wrap_i64]; omega, by rw [IntKind.wrap_i64]; omega, IntWalk.wrap64_in _ (by omega), IntWalk.wrap64_in _ (by omega)⟩
  clear hn hk hb hs ha
  change Hid (∀ A c w, _ → Calls _ _ _ w fun e w' => ∃ B d, e = _ ∧ Sl w' B 32 d (shaL (pubB a s)) ∧ _) at HSH
  generalize privB a s = vs at *
  generalize shaL (pubB a s) = hs at *
  generalize pubB a s = us at *
  generalize spB (w32 (s + 2)) k 0 = xs at *
  generalize spB (w32 (s + 3)) 10 2 = ys at *
  generalize w32 (s + 2) = s2 at *
  generalize w32 (s + 3) = s3 at *
  obtain ⟨hw0, hw1, hw2, hw3, hw4, hw5⟩ := HWW.out
  go_enter Tryz.func11, Tryz.ntmps11
  go_wp2_with fail
  refine (HPU.out _).mono ?_
  rintro e w1 ⟨u1, rfl, hown1, _, hp1⟩
  rw [HLU.out] at hown1
  obtain ⟨g1, c1, rfl, hg1, hg1', hcells1⟩ := own_some hown1 hn1
  have HSU := Lib.hid (Sl.of_own hown1 HRU.out)
  have HC1 := Lib.hid hcells1
  have HP1 := Lib.hid hp1
  have HG1 := Lib.hid hg1'
  clear hown1 hp1 hcells1 hg1 hg1'
  go_wp2_with fail
  refine (HSP.out _).mono ?_
  rintro e w2 ⟨v2, rfl, hown2, _, hp2⟩
  rw [HLP.out] at hown2
  have HO2 := Lib.hid (owns_lower hown2 HP1.out.size)
  have HB2 := Lib.hid (own_block_ge hown2)
  have HP2 := Lib.hid (HP1.out.trans' hp2)
  have HSU2 := Lib.hid (HSU.out.past hp2)
  clear hown2 hp2 HC1
  go_wp2_with (at_builtin; refine wpList_append_own _ rfl _ _ 25 rfl w.heap.size 5 i8 (.int .u8 0) 1 1 Tryz.underlying25 hi8 hz80 hz81 hz82 rfl (by decide) _ n _ rfl HO2.out ⟨g1, 0, none⟩ (n + 32) c1 (us.map (Value.int .u8)) rfl (by rw [List.length_map, HLU.out, Nat.mul_one]) HSU2.out.cells (bytes_one us) ha1 ha2 HP2.out.size ?_)
  intro v3 w3 hown3 hgrow3 _
  have HO3 : Hid (w3.ownsRow w.heap.size 5 1 v3 (n + (n + 32)) ((xs ++ us).map (Value.int .u8)) ∧ Past w w3 ∧ Sl w3 (some ⟨g1, 0, none⟩) (n + 32) c1 us) := Lib.hid (by
    rw [List.map_append]
    exact ⟨hown3, HP2.out.grown hgrow3 HP2.out.size (own_block_ge HO2.out), HSU2.out.far hgrow3 (fun e => absurd (HB2.out _ e.symm) (Nat.not_le.2 HG1.out))⟩)
  clear hown3 hgrow3
  go_wp2_with fail
  refine ((HSH.out _ _ _ HO3.out.2.2)).mono ?_
  rintro e w4 ⟨B4, c4, rfl, hS4, hp4⟩
  obtain ⟨ad4, rfl, hcells4⟩ := hS4.src (by decide)
  have HO4 := Lib.hid (own_past15 HO3.out.1 hp4)
  have HP4 := Lib.hid (HO3.out.2.1.trans' hp4)
  have HC4 := Lib.hid hcells4
  clear hS4 hp4 hcells4
  go_wp2_with (at_builtin; refine wpList_append_own _ rfl _ _ 25 rfl w.heap.size 5 i8 (.int .u8 0) 1 1 Tryz.underlying25 hi8 hz80 hz81 hz82 rfl (by decide) _ (n + (n + 32)) _ rfl HO4.out ad4 32 c4 (hs.map (Value.int .u8)) rfl (by rw [List.length_map, HSHL.out]) HC4.out (bytes_one hs) hb1 hb2 HP4.out.size ?_)
  intro v5 w5 hown5 hgrow5 _
  have HO5 : Hid (w5.ownsRow w.heap.size 5 1 v5 (n + (n + 32) + 32) ((xs ++ us ++ hs).map (Value.int .u8)) ∧ Past w w5) := Lib.hid (by
    simp only [List.map_append, List.append_assoc]
    exact ⟨hown5, HP4.out.grown hgrow5 HP4.out.size (own_block_ge HO4.out)⟩)
  clear hown5 hgrow5
  go_wp2_with fail
  refine (HSQ.out _).mono ?_
  rintro e w6 ⟨v6, rfl, hown6, _, hp6⟩
  rw [HLQ.out] at hown6
  obtain ⟨g6, c6, rfl, hg6, hg6', hcells6⟩ := own_some hown6 (by decide)
  have HO6 := Lib.hid (own_past15 HO5.out.1 hp6)
  have HP6 := Lib.hid (HO5.out.2.trans' hp6)
  have HC6 := Lib.hid hcells6
  clear hown6 hp6 hcells6 hg6 hg6'
  go_wp2_with (at_builtin; refine wpList_append_own _ rfl _ _ 25 rfl w.heap.size 5 i8 (.int .u8 0) 1 1 Tryz.underlying25 hi8 hz80 hz81 hz82 rfl (by decide) _ (n + (n + 32) + 32) _ rfl HO6.out ⟨g6, 0, none⟩ 32 c6 (ys.map (Value.int .u8)) rfl (by rw [List.length_map, HLQ.out]) HC6.out (bytes_one ys) hc1 hc2 HP6.out.size ?_)
  intro v7 w7 hown7 hgrow7 _
  have HO7 : Hid (w7.ownsRow w.heap.size 5 1 v7 vs.length (vs.map (Value.int .u8)) ∧ Past w w7) := Lib.hid (by
    rw [HLV.out, HPB.out]
    simp only [List.map_append, List.append_assoc]
    exact ⟨hown7, HP6.out.grown hgrow7 HP6.out.size (own_block_ge HO6.out)⟩)
  clear hown7 hgrow7
  go_wp2_with fail
  go_ret
  exact ⟨_, rfl, HO7.out.1, HRG.out, HO7.out.2⟩
end Go.Proofs.YthbnaoifiggdnaaGreatDoor
