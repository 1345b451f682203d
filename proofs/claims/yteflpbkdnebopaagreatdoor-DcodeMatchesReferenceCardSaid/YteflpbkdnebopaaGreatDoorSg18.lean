/- Words of the stages before that this seat shares: parts of bytes, errors, what a call owns, told. -/
import Derived.Test.YteflpbkdnebopaaGreatDoorR15A
import Derived.Test.YteflpbkdnebopaaGreatDoorArr
import Derived.Test.YteflpbkdnebopaaGreatDoorImp5A
import Derived.Test.YteflpbkdnebopaaGreatDoorPm13G
import Derived.Test.YteflpbkdnebopaaGreatDoorErrM2
import Derived.Deep.RegionHeld
import Derived.OwnWalk
import Derived.IntWalk
namespace Go.Proofs.YteflpbkdnebopaaGreatDoor
open Go.RowKit
set_option linter.unusedVariables false
set_option maxRecDepth 100000

theorem cut3 (A : Option Addr) (n c L H m : Nat) (h1 : L + m = H) (h2 : H ≤ c) (w : World) :
    (Instr.slice 25 (.slice A n c) (some (.int .i64 (L : Int))) (some (.int .i64 (H : Int))) (some (.int .i64 (H : Int)))).run Tryz.prog w = .ok (.slice (if m = 0 then A else A.map (·.add L)) m m) w := by
  rw [run_slice_lhm w 25 A n c Tryz.underlying25 .i64 .i64 .i64 (L : Int) (H : Int) (H : Int) (by omega) (by omega) (Int.le_refl _) (by omega)]
  have hs : (sizeOf (Tryz.prog.elem 25)).run Tryz.prog w = .ok 1 w := by kernel_rfl
  rw [hs]
  simp only [Result.andThen, sliced, Int.toNat_natCast, Nat.mul_one]
  obtain rfl : H = L + m := h1.symm
  rw [Nat.add_sub_cancel_left]
  by_cases h : m = 0
  · rw [if_pos h, if_pos (by omega)]
  · rw [if_neg h, if_neg (by omega)]
theorem cutAt3 (A : Option Addr) (n c L H m : Nat) (h1 : L + m = H) (h2 : H ≤ c) (w : World) :
    (Instr.sliceAt 25 (.slice A n c) (some (.int .i64 (L : Int))) (some (.int .i64 (H : Int))) (some (.int .i64 (H : Int)))).run Tryz.prog w = .ok (.slice (if m = 0 then A else A.map (·.add L)) m m) w := by
  rw [run_sliceAt_slice w 25 _ _ _ _ Tryz.underlying25]
  exact cut3 A n c L H m h1 h2 w
theorem Sl.cut3 {w : World} {b o n c : Nat} {xs : List Int} (h : Sl w (some ⟨b, o, none⟩) n c xs) {L H m : Nat} (hm : L + m = H) (hH : H ≤ n) (h0 : 0 < m) : Sl w (some ⟨b, o + L, none⟩) m m (seg xs L m) := by
  have := h.cut (i := L) (m := m) (by omega)
  rw [if_neg (by omega), Option.map_some, add_none] at this
  exact this
theorem Sl.pre {w : World} {A : Option Addr} {n c : Nat} {xs : List Int} (h : Sl w A n c xs) {m : Nat} (hm : m ≤ n) : Sl w A m c (seg xs 0 m) := by
  have hl := h.len
  have hcp := h.cap
  refine ⟨seg_len (by omega), by omega, h.big, fun hm0 => ?_, seg_rng 0 m h.rng, h.nil0⟩
  obtain ⟨b, o, e, hc⟩ := h.bytes (by omega)
  refine ⟨b, o, e, fun i hi => ?_⟩
  rw [hc i (by omega), seg_getD xs 0 m i hi, Nat.zero_add]
theorem Sl.pre3 {w : World} {A : Option Addr} {n c : Nat} {xs : List Int} (h : Sl w A n c xs) {m : Nat} (hm : m ≤ n) (h0 : 0 < m) : Sl w A m m (seg xs 0 m) := by
  have h1 := h.pre hm
  have h2 := h.cap
  have h3 := h.big
  exact ⟨h1.len, Nat.le_refl _, by omega, h1.bytes, h1.rng, fun e => by
    obtain ⟨b, o, e2, _⟩ := h.bytes (by omega)
    rw [e] at e2
    cases e2⟩
def resC (r : Int × Int) : Array Value := #[.int .i64 r.1, .int .i64 r.2]
theorem inf15 (r : Int × Int) : (Tryz.prog.info? 37).map (·.size) = some (resC r).size := by
  have h : (Tryz.prog.info? 37).map (·.size) = some 2 := by kernel_rfl
  exact h
theorem cutlh (A : Option Addr) (n c L H m d : Nat) (h1 : L + m = H) (h2 : H ≤ c) (h3 : L + d = c) (w : World) :
    (Instr.slice 25 (.slice A n c) (some (.int .i64 (L : Int))) (some (.int .i64 (H : Int))) none).run Tryz.prog w = .ok (.slice (if c = L then A else A.map (·.add L)) m d) w := by
  rw [run_slice_lh w 25 A n c Tryz.underlying25 .i64 .i64 (L : Int) (H : Int) (by omega) (by omega) (by omega)]
  have hs : (sizeOf (Tryz.prog.elem 25)).run Tryz.prog w = .ok 1 w := by kernel_rfl
  rw [hs]
  simp only [Result.andThen, sliced, Int.toNat_natCast, Nat.mul_one]
  obtain rfl : H = L + m := h1.symm
  obtain rfl : d = c - L := by omega
  rw [Nat.add_sub_cancel_left]
theorem cutAtlh (A : Option Addr) (n c L H m d : Nat) (h1 : L + m = H) (h2 : H ≤ c) (h3 : L + d = c) (w : World) :
    (Instr.sliceAt 25 (.slice A n c) (some (.int .i64 (L : Int))) (some (.int .i64 (H : Int))) none).run Tryz.prog w = .ok (.slice (if c = L then A else A.map (·.add L)) m d) w := by
  rw [run_sliceAt_slice w 25 _ _ _ _ Tryz.underlying25]
  exact cutlh A n c L H m d h1 h2 h3 w
/-- A part of two indexes, its address told by a name alone. -/
theorem Sl.lh {w : World} {A : Option Addr} {n c : Nat} {xs : List Int} (h : Sl w A n c xs) {L m d : Nat} (hm : L + m ≤ n) (hd : L + d = c) :
    ∃ B, (∀ w' : World, (Instr.slice 25 (.slice A n c) (some (.int .i64 (L : Int))) (some (.int .i64 ((L + m : Nat) : Int))) none).run Tryz.prog w' = .ok (.slice B m d) w') ∧
      (∀ w' : World, (Instr.sliceAt 25 (.slice A n c) (some (.int .i64 (L : Int))) (some (.int .i64 ((L + m : Nat) : Int))) none).run Tryz.prog w' = .ok (.slice B m d) w') ∧ Sl w B m d (seg xs L m) := by
  have hcp := h.cap
  refine ⟨_, fun w' => cutlh A n c L (L + m) m d rfl (by omega) hd w', fun w' => cutAtlh A n c L (L + m) m d rfl (by omega) hd w', ?_⟩
  have := h.cut2 (i := L) (m := m) hm
  rw [show c - L = d by omega] at this
  exact this
theorem Sl.at2 {w : World} {b o n c : Nat} {xs : List Int} (h : Sl w (some ⟨b, o, none⟩) n c xs) {L H m : Nat} (hm : L + m = H) (hH : H ≤ n) (hc : ¬ c = L) : Sl w (some ⟨b, o + L, none⟩) (H - L) (c - L) (seg xs L m) := by
  have := h.cut2 (i := L) (m := m) (by omega)
  rw [if_neg hc, Option.map_some, add_none] at this
  rw [show H - L = m by omega]
  exact this
theorem own_past15 {w w' : World} {base : Nat} {e : TypeId} {size : Nat} {v : Value} {n : Nat} {xs : List Value} (h : w.ownsRow base e size v n xs) (hp : Past w w') : w'.ownsRow base e size v n xs :=
  h.kept (only_of_past hp (some w.heap.size)) (by
    cases hv : v.ownBlock with
    | none => exact .inl rfl
    | some g =>
      refine .inr fun e1 => ?_
      have := (h.lt g hv).2
      injection e1 with e1
      omega)
theorem own_some {w : World} {base : Nat} {e : TypeId} {v : Value} {n : Nat} {xs : List Value} (h : w.ownsRow base e 1 v n xs) (hn : 0 < n) :
    ∃ g c, v = .slice (some ⟨g, 0, none⟩) n c ∧ base ≤ g ∧ g < w.heap.size ∧ ∀ j u, xs[j]? = some u → w.cell? ((⟨g, 0, none⟩ : Addr).add j) = some u := by
  rcases h.2 with ⟨_, h2⟩ | ⟨g, cap, cur, h1, h2, h3⟩
  · omega
  · subst h1
    exact ⟨g, cap, rfl, h2, (h.lt g rfl).2, h.cells rfl⟩
theorem bytes_one (xs : List Int) : ∀ u ∈ xs.map (Value.int .u8), u.oneCell' = true := by
  intro u hu
  obtain ⟨x, _, rfl⟩ := List.mem_map.1 hu
  rfl
/-- What Public returns. -/
def w32 (x : Int) : Int := x % 4294967296
theorem rsp_any (s n : Int) (k r : Nat) (w : World) (hn : n = ((3 * k + r : Nat) : Int)) (hs : 0 ≤ s ∧ s < 4294967296) (hk : 3 * k ≤ 2000) (hr : r < 3) :
    Calls Tryz.prog 21 #[.int .u32 s, .int .i64 n] w (OwnB (spB s k r) w) := by
  subst hn
  exact rspread15_any s k r w hs hk hr
theorem w32_rng (x : Int) : 0 ≤ w32 x ∧ w32 x < 4294967296 := by unfold w32; omega
theorem w32_wrap (x : Int) : IntKind.u32.wrap x = w32 x := by rw [IntKind.wrap_u32]; rfl
theorem Sl.src {w : World} {A : Option Addr} {n c : Nat} {xs : List Int} (h : Sl w A n c xs) (hn : 0 < n) : ∃ ad, A = some ad ∧ ∀ j u, (xs.map (Value.int .u8))[j]? = some u → w.cell? (ad.add j) = some u := by
  obtain ⟨b, o, rfl, _⟩ := h.bytes hn
  exact ⟨_, rfl, h.cells⟩
theorem Sl.far {w w' : World} {ad : Addr} {n c : Nat} {xs : List Int} {row : Option Nat} (h : Sl w (some ad) n c xs) (hg : w.grownBy w' row) (hne : some ad.block ≠ row) : Sl w' (some ad) n c xs :=
  ⟨h.len, h.cap, h.big, fun hn => by
    obtain ⟨b, o, e, hc⟩ := h.bytes hn
    injection e with e
    subst e
    exact ⟨b, o, rfl, fun i hi => hg.cell (hc i hi) hne⟩, h.rng, h.nil0⟩
/-- What all functions of package kcode want of the library's variables. -/
def Glob15 (w : World) : Prop := Glob13 w ∧ GlobE w
theorem Glob15.past {w w' : World} (h : Glob15 w) (hp : Past w w') : Glob15 w' := ⟨h.1.past hp, h.2.past hp⟩
/-- The error of a code and an offset; none for the code 0. -/
def errV (r : Int × Int) : Value := if r.1 = 0 then .nilIface else (Ch.flt r.1 r.2).val
theorem errV_zero (x : Int) : errV (0, x) = .nilIface := rfl
theorem errV_pos {c a : Int} (h : c ≠ 0) : errV (c, a) = (Ch.flt c a).val := by unfold errV; rw [if_neg h]
theorem seg_left (A B : List Int) {m : Nat} (h : A.length = m) : seg (A ++ B) 0 m = A := by
  unfold seg
  rw [List.drop_zero, ← h, List.take_left]
theorem seg_mid (A B C : List Int) {a m : Nat} (ha : A.length = a) (hm : B.length = m) : seg (A ++ B ++ C) a m = B := by
  unfold seg
  rw [List.append_assoc, ← ha, List.drop_left, ← hm, List.take_left]
/-- An error that a key can have. -/
def ErrOk (R : Int × Int) : Prop := (R.1 = 0 ∧ R.2 = 0) ∨ (R.1 ≠ 0 ∧ 0 ≤ R.2 ∧ R.2 ≤ 1000000)
set_option maxHeartbeats 1000000 in
theorem told_any (R : Int × Int) (w : World) (hR : ErrOk R) (hG : GlobE w) :
    Calls Tryz.prog 11 #[errV R, .agg (resC R)] w fun e w' => e = .returned (.bool true) ∧ Past w w' := by
  obtain ⟨c, a⟩ := R
  obtain ⟨g, hg⟩ : ∃ g, w.heap.size = g := ⟨_, rfl⟩
  obtain ⟨w1, hw1⟩ : ∃ W, w.alloc (.cells (resC (c, a)) 37) = W := ⟨_, rfl⟩
  have hp1 : Past w w1 := by rw [← hw1]; exact (Below.refl _ _).alloc (Nat.le_refl _) _
  have hr1 : Row w1 g 37 (resC (c, a)) := by rw [← hw1, ← hg]; exact Row.new _ _ _
  have HP1 := Lib.hid hp1
  have HR1 := Lib.hid hr1
  have HW1 := Lib.hid hw1
  have HGG := Lib.hid (hG.past hp1)
  rcases hR with ⟨h1, h2⟩ | ⟨h1, h2, h3⟩
  · simp only at h1 h2
    subst h1 h2
    rw [errV_zero]
    have c0 : w1.cell? ⟨g, 0, none⟩ = some (.int .i64 0) := by rw [hr1.cell]; rfl
    clear hw1 hp1 hr1 hG
    go_enter Tryz.func11, Tryz.ntmps11
    go_upto_region 1 with (fail)
    try rw [HW1.out]
    try rw [hg]
    clear HW1 hg
    go_wp2_with fail
    go_ret
    exact ⟨rfl, HP1.out⟩
  · simp only at h1 h2 h3
    have c0 : w1.cell? ⟨g, 0, none⟩ = some (.int .i64 c) := by rw [hr1.cell]; rfl
    have c1 : w1.cell? ⟨g, 1, none⟩ = some (.int .i64 a) := by rw [hr1.cell]; rfl
    have HC := Lib.hid (code_any (.flt c a) w1 trivial HGG.out)
    have HA := Lib.hid (fun w h => at_any (.flt c a) w trivial h)
    have hat : atVal (.flt c a) = .tuple #[.int .i64 a, .bool true] := by
      show Value.tuple #[.int .i64 (wrap64 (a + 0)), .bool true] = _
      rw [Int.add_zero, IntWalk.wrap64_in _ (by omega)]
    rw [hat] at HA
    change Hid (Calls _ _ _ _ fun e w' => e = .returned (.tuple #[.int .i64 c, .bool true]) ∧ _) at HC
    rw [errV_pos h1]
    obtain ⟨V, hV⟩ : ∃ V, (Ch.flt c a).val = V := ⟨_, rfl⟩
    rw [hV] at HC HA ⊢
    have hcc : (c == c) = true := by simp
    have haa : (a == a) = true := by simp
    clear hw1 hp1 hr1 hG hV h2 h3 hat
    go_enter Tryz.func11, Tryz.ntmps11
    go_upto_region 1 with (fail)
    try rw [HW1.out]
    try rw [hg]
    clear HW1 hg
    go_wp2_with fail
    refine HC.out.mono ?_
    rintro e w2 ⟨rfl, hp2⟩
    have HP2 := Lib.hid (HP1.out.trans' hp2)
    have HR2 := Lib.hid (HR1.out.past hp2)
    have HG2 := Lib.hid (HGG.out.past hp2)
    clear hp2 c0 c1
    go_wp2_with fail
    refine (HA.out _ HG2.out).mono ?_
    rintro e w3 ⟨rfl, hp3⟩
    have HP3 := Lib.hid (HP2.out.trans' hp3)
    have d0 : w3.cell? ⟨g, 0, none⟩ = some (.int .i64 c) := by rw [(HR2.out.past hp3).cell]; rfl
    have d1 : w3.cell? ⟨g, 1, none⟩ = some (.int .i64 a) := by rw [(HR2.out.past hp3).cell]; rfl
    clear hp3
    go_wp2_with fail
    go_ret
    exact ⟨rfl, HP3.out⟩
theorem row3 (w : World) (a b c : Int) (ha : 0 ≤ a ∧ a < 256) (hb : 0 ≤ b ∧ b < 256) (hc : 0 ≤ c ∧ c < 256) : Sl (w.alloc (.cells #[.int .u8 a, .int .u8 b, .int .u8 c] 5)) (some ⟨w.heap.size, 0, none⟩) 3 3 [a, b, c] :=
  Sl.of_own (World.ownsRow_lit w #[.int .u8 a, .int .u8 b, .int .u8 c] 3 (Nat.le_refl _) (by unfold maxLen; omega) rfl) (by
    intro x hx
    simp at hx
    omega)
theorem errV_shape (R : Int × Int) : errV R = .nilIface ∨ ∃ t v, errV R = .iface t v := by
  unfold errV
  split
  · exact .inl rfl
  · exact .inr ⟨_, _, rfl⟩
theorem made32 (n : Nat) : madeCells #[.int .u32 0] n = arr .u32 n fun _ => 0 := by
  refine arr_of _ (size_madeCells _ _) fun i hi => ?_
  simp [madeCells, hi, Nat.mod_one]
theorem LM.slK {k : IntKind} {w : World} {g : Nat} {t : TypeId} {n : Nat} {f : Nat → Int} (h : LM k w g t n f) (ls : List Int) (hl : ls.length = n) (hx : ∀ i, i < n → ls.getD i 0 = f i) (hb : n ≤ maxLen) : SlK k w (some ⟨g, 0, none⟩) n n ls :=
  ⟨hl, Nat.le_refl _, hb, fun _ => ⟨g, 0, rfl, fun i hi => by rw [Nat.zero_add, h.at i hi, hx i hi]⟩, fun e => by cases e⟩
end Go.Proofs.YteflpbkdnebopaaGreatDoor
