/- The sponge of package hash in memory: 200 bytes, its rate, how many bytes of the block are used, and how many permutations its output has had. -/
import Derived.Test.YtamgbkadiobklaaSp7A
import Derived.Test.YtamgbkadiobklaaImp6E
import Derived.Test.YtamgbkadiobklaaJoin7
import Derived.Deep.MidRow
namespace Go.Proofs.Ytamgbkadiobklaa
open Go.RowKit

/-- The cells of a sponge. -/
def spg (f : Nat → Int) (R U T : Nat) : Array Value := arr .u8 200 f ++ #[.int .i64 (R : Int), .int .i64 (U : Int), .int .i64 (T : Int)]
section
variable (f : Nat → Int) (R U T : Nat)
theorem spg_size : (spg f R U T).size = 203 := by simp [spg, arr_size]
theorem spg_byte (i : Nat) (h : i < 200) : (spg f R U T)[i]? = some (.int .u8 (f i)) := by
  unfold spg
  rw [Array.getElem?_append_left (by rw [arr_size]; exact h), arr_get _ _ _ _ h]
theorem spg_num (i : Nat) : (spg f R U T)[200 + i]? = (#[Value.int .i64 (R : Int), .int .i64 (U : Int), .int .i64 (T : Int)] : Array Value)[i]? := by
  unfold spg
  rw [Array.getElem?_append_right (by rw [arr_size]; omega), arr_size, Nat.add_sub_cancel_left]
theorem spg_rate : (spg f R U T)[200]? = some (.int .i64 (R : Int)) := spg_num f R U T 0
theorem spg_used : (spg f R U T)[201]? = some (.int .i64 (U : Int)) := spg_num f R U T 1
theorem spg_turns : (spg f R U T)[202]? = some (.int .i64 (T : Int)) := spg_num f R U T 2
theorem spg_one : (spg f R U T).all (·.oneCell') = true := by
  unfold spg
  rw [Array.all_append, arr_one]
  simp [Value.oneCell']
theorem spg_of {cs : Array Value} (hs : cs.size = 203) (hb : ∀ i, i < 200 → cs[i]? = some (.int .u8 (f i))) (hr : cs[200]? = some (.int .i64 (R : Int))) (hu : cs[201]? = some (.int .i64 (U : Int))) (ht : cs[202]? = some (.int .i64 (T : Int))) : cs = spg f R U T := by
  refine Array.ext (by rw [spg_size, hs]) fun i h1 h2 => ?_
  have e : cs[i]? = (spg f R U T)[i]? := by
    by_cases h : i < 200
    · rw [hb i h, spg_byte _ _ _ _ i h]
    · by_cases e0 : i = 200
      · subst e0; rw [hr, spg_rate]
      · by_cases e1 : i = 201
        · subst e1; rw [hu, spg_used]
        · obtain rfl : i = 202 := by omega
          rw [ht, spg_turns]
  rw [Array.getElem?_eq_getElem h1, Array.getElem?_eq_getElem h2] at e
  exact Option.some.inj e
theorem spg_set (i : Nat) (v : Int) (h : i < 200) : (spg f R U T).setIfInBounds i (.int .u8 v) = spg (upd f i v) R U T := by
  refine spg_of _ _ _ _ (by simp [spg_size]) (fun j hj => ?_) ?_ ?_ ?_
  · by_cases e : j = i
    · subst e
      rw [Array.getElem?_setIfInBounds_self_of_lt (by rw [spg_size]; omega), upd_at]
    · rw [Array.getElem?_setIfInBounds_ne (by omega), spg_byte _ _ _ _ j hj, upd_ne f v e]
  · rw [Array.getElem?_setIfInBounds_ne (by omega), spg_rate]
  · rw [Array.getElem?_setIfInBounds_ne (by omega), spg_used]
  · rw [Array.getElem?_setIfInBounds_ne (by omega), spg_turns]
theorem spg_setU (V : Nat) : (spg f R U T).setIfInBounds 201 (.int .i64 (V : Int)) = spg f R V T := by
  refine spg_of _ _ _ _ (by simp [spg_size]) (fun j hj => ?_) ?_ ?_ ?_
  · rw [Array.getElem?_setIfInBounds_ne (by omega), spg_byte _ _ _ _ j hj]
  · rw [Array.getElem?_setIfInBounds_ne (by omega), spg_rate]
  · rw [Array.getElem?_setIfInBounds_self_of_lt (by rw [spg_size]; omega)]
  · rw [Array.getElem?_setIfInBounds_ne (by omega), spg_turns]
theorem spg_setT (V : Nat) : (spg f R U T).setIfInBounds 202 (.int .i64 (V : Int)) = spg f R U V := by
  refine spg_of _ _ _ _ (by simp [spg_size]) (fun j hj => ?_) ?_ ?_ ?_
  · rw [Array.getElem?_setIfInBounds_ne (by omega), spg_byte _ _ _ _ j hj]
  · rw [Array.getElem?_setIfInBounds_ne (by omega), spg_rate]
  · rw [Array.getElem?_setIfInBounds_ne (by omega), spg_used]
  · rw [Array.getElem?_setIfInBounds_self_of_lt (by rw [spg_size]; omega)]
end

/-- Block g is a sponge. -/
abbrev SP (w : World) (g : Nat) (t : TypeId) (f : Nat → Int) (R U T : Nat) : Prop := Row w g t (spg f R U T)
section
variable {w w' : World} {g : Nat} {t : TypeId} {f : Nat → Int} {R U T : Nat}
theorem SP.byte (h : SP w g t f R U T) (i : Nat) (hi : i < 200) : w.cell? ⟨g, i, none⟩ = some (.int .u8 (f i)) := by rw [Row.cell h, spg_byte _ _ _ _ i hi]
theorem SP.rate (h : SP w g t f R U T) : w.cell? ⟨g, 200, none⟩ = some (.int .i64 (R : Int)) := by rw [Row.cell h, spg_rate]
theorem SP.used (h : SP w g t f R U T) : w.cell? ⟨g, 201, none⟩ = some (.int .i64 (U : Int)) := by rw [Row.cell h, spg_used]
theorem SP.turns (h : SP w g t f R U T) : w.cell? ⟨g, 202, none⟩ = some (.int .i64 (T : Int)) := by rw [Row.cell h, spg_turns]
theorem SP.put (h : SP w g t f R U T) (i : Nat) (hi : i < 200) (v : Int) : SP (w.setCell ⟨g, i, none⟩ (.int .u8 v)) g t (upd f i v) R U T := by
  have := Row.set h i (.int .u8 v)
  rwa [spg_set _ _ _ _ i v hi] at this
theorem SP.putU (h : SP w g t f R U T) (V : Nat) : SP (w.setCell ⟨g, 201, none⟩ (.int .i64 (V : Int))) g t f R V T := by
  have := Row.set h 201 (.int .i64 (V : Int))
  rwa [spg_setU] at this
theorem SP.putT (h : SP w g t f R U T) (V : Nat) : SP (w.setCell ⟨g, 202, none⟩ (.int .i64 (V : Int))) g t f R U V := by
  have := Row.set h 202 (.int .i64 (V : Int))
  rwa [spg_setT] at this
theorem row_setCells (t : TypeId) : ∀ (vs : List Value) (o : Nat) (w : World) (cs : Array Value), Row w g t cs →
    ∃ cs', Row (w.setCells g o vs) g t cs' ∧ cs'.size = cs.size ∧ (∀ j, j < o → cs'[j]? = cs[j]?) ∧ (∀ j, o + vs.length ≤ j → cs'[j]? = cs[j]?) ∧ ∀ j v, vs[j]? = some v → o + j < cs.size → cs'[o + j]? = some v
  | [], o, w, cs, h => ⟨cs, h, rfl, fun _ _ => rfl, fun _ _ => rfl, fun j v hv => by simp at hv⟩
  | u :: vs, o, w, cs, h => by
    obtain ⟨cs', h1, h2, h3, h4, h5⟩ := row_setCells t vs (o + 1) (w.setCell ⟨g, o, none⟩ u) _ (Row.set h o u)
    have hs : (cs.setIfInBounds o u).size = cs.size := by simp
    refine ⟨cs', h1, by rw [h2, hs], fun j hj => ?_, fun j hj => ?_, fun j v hv hj => ?_⟩
    · rw [h3 j (by omega), Array.getElem?_setIfInBounds_ne (by omega)]
    · rw [List.length_cons] at hj
      rw [h4 j (by omega), Array.getElem?_setIfInBounds_ne (by omega)]
    · cases j with
      | zero =>
        simp only [List.getElem?_cons_zero, Option.some.injEq] at hv
        subst hv
        rw [Nat.add_zero] at hj ⊢
        rw [h3 o (by omega), Array.getElem?_setIfInBounds_self_of_lt hj]
      | succ j =>
        have := h5 j v (by simpa using hv) (by rw [hs]; omega)
        rw [← this]
        congr 1
        omega
theorem SP.putAll (h : SP w g t f R U T) (f' : Nat → Int) (l : List Value) (hl : arr .u8 200 f' = ⟨l⟩) : SP (w.setCells g 0 l) g t f' R U T := by
  obtain ⟨cs', h1, h2, h3, h4, h5⟩ := row_setCells t l 0 w _ h
  have hz := arr_size .u8 200 f'
  have hg := fun i hi => arr_get .u8 200 f' i hi
  rw [hl] at hz hg
  have hll : l.length = 200 := hz
  have e : cs' = spg f' R U T := spg_of _ _ _ _ (by rw [h2, spg_size]) (fun i hi => by
      have := h5 i (.int .u8 (f' i)) (by have := hg i hi; simpa using this) (by rw [spg_size]; omega)
      rwa [Nat.zero_add] at this)
    (by rw [h4 200 (by omega), spg_rate]) (by rw [h4 201 (by omega), spg_used]) (by rw [h4 202 (by omega), spg_turns])
  rwa [e] at h1
theorem SP.range (h : SP w g t f R U T) (l : List Value) (hl : arr .u8 200 f = ⟨l⟩) : w.rangeAt g 0 l := fun j v hj => by
  have hz := arr_size .u8 200 f
  rw [hl] at hz
  have hll : l.length = 200 := hz
  have hjl : j < 200 := by
    rw [← hll]
    exact (List.getElem?_eq_some_iff.1 hj).1
  have hg := arr_get .u8 200 f j hjl
  rw [hl] at hg
  have hg' : l[j]? = some (.int .u8 (f j)) := by simpa using hg
  rw [Nat.zero_add, SP.byte h j hjl, ← hg', hj]
theorem SP.there (h : SP w g t f R U T) : w.there g 0 200 := fun j hj => by
  rw [Nat.zero_add]
  exact ⟨by rw [SP.byte h j hj]; rfl, Row.fr h j⟩
end
theorem only_setCells {a : World} {g : Nat} : ∀ (vs : List Value) (o : Nat) (w : World), a.grownBy w (some g) → a.grownBy (w.setCells g o vs) (some g)
  | [], _, _, h => h
  | u :: vs, o, _, h => only_setCells vs (o + 1) _ (only_setCell h (.inl rfl) u)

/-- What a call does to a sponge. -/
def SPs (w w' : World) (g : Nat) (t : TypeId) (f : Nat → Int) (R U T : Nat) : Prop := SP w' g t f R U T ∧ w.grownBy w' (some g)

set_option maxHeartbeats 2000000 in
theorem hperm_any (S : Nat → Lane) (g : Nat) (t : TypeId) (R U T : Nat) (w : World) (h : SP w g t (kbyte S) R U T) (hT : T ≤ 1000000000) :
    Calls Try.prog 28 #[.pointer (some ⟨g, 0, none⟩)] w fun e w' => e = .returned (.tuple #[]) ∧ SPs w w' g t (kbyte (rperm S)) R 0 (T + 1) := by
  have HF := Lib.hid (fun w => pfrom_any S w)
  have HM := Lib.hid (fun w => pperm_any S w)
  have HB := Lib.hid (fun w => pbytes_any (ppm S) w)
  rw [rperm_ppm S] at HM HB
  obtain ⟨l0, hl0⟩ : ∃ l, arr .u8 200 (kbyte S) = ⟨l⟩ := ⟨_, rfl⟩
  obtain ⟨l1, hl1⟩ : ∃ l, arr .u8 200 (kbyte (rperm S)) = ⟨l⟩ := ⟨_, rfl⟩
  have hz1 := arr_size .u8 200 (kbyte (rperm S))
  have ho1 := arr_one .u8 200 (kbyte (rperm S))
  have hz0 := arr_size .u8 200 (kbyte S)
  have HL1 := Lib.hid hl1
  try unfold fl at HF
  try unfold fl at HM
  try unfold fl at HB
  rw [hl1] at HB hz1 ho1
  rw [hl0] at HF hz0
  have hr0 := SP.range h l0 hl0
  have hi0 : (Try.prog.info? 45).map (·.size) = some l0.length := by
    rw [show l0.length = 200 from hz0]
    kernel_rfl
  have hi1 : (Try.prog.info? 45).map (·.size) = some (⟨l1⟩ : Array Value).size := by
    rw [hz1]
    kernel_rfl
  have H := Lib.hid h
  clear h hl0 hl1
  generalize arr .u64 25 (fun i => ln (S i)) = c0 at *
  generalize arr .u64 25 (fun i => ln (rperm S i)) = c1 at *
  go_enter Try.func28, Try.ntmps28
  go_wp2_with (refine wpList_load_mid rfl 45 _ rfl g 0 rfl l0 _ hr0 Try.underlying45 rfl hi0 ?_)
  refine (HF.out _).mono ?_
  rintro e w1 ⟨rfl, hp1⟩
  have HP1 := Lib.hid hp1
  clear hp1 hr0
  go_wp2_with fail
  refine (HM.out _).mono ?_
  rintro e w2 ⟨rfl, hp2⟩
  have HP2 := Lib.hid (HP1.out.trans' hp2)
  clear hp2 HP1
  go_wp2_with fail
  refine (HB.out _).mono ?_
  rintro e w3 ⟨rfl, hp3⟩
  have H3 : Hid (SPs w w3 g t (kbyte S) R U T) := Lib.hid ⟨Row.past H.out (HP2.out.trans' hp3), only_of_past (HP2.out.trans' hp3) _⟩
  clear hp3 HP2 H HF HM HB
  have ht3 : w3.there g 0 (⟨l1⟩ : Array Value).size := by
    rw [hz1]
    exact SP.there H3.out.1
  have H4 : Hid (SPs w (w3.setCells g 0 l1) g t (kbyte (rperm S)) R U T) := Lib.hid ⟨SP.putAll H3.out.1 _ l1 HL1.out, only_setCells l1 0 _ H3.out.2⟩
  obtain ⟨w4, hw4⟩ : ∃ w4, w3.setCells g 0 l1 = w4 := ⟨_, rfl⟩
  have HW4 := Lib.hid hw4
  rw [hw4] at H4
  clear hw4 H3
  have k1 : w4.cell? ⟨g, 201, none⟩ = some (.int .i64 (U : Int)) := SP.used H4.out.1
  have f1 : w4.frozen? ⟨g, 201, none⟩ = false := Row.fr H4.out.1 201
  have k2 : w4.cell? ⟨g, 202, none⟩ = some (.int .i64 (T : Int)) := SP.turns H4.out.1
  have f2 : w4.frozen? ⟨g, 202, none⟩ = false := Row.fr H4.out.1 202
  have H6 : Hid (SPs w ((w4.setCell ⟨g, 201, none⟩ (.int .i64 0)).setCell ⟨g, 202, none⟩ (.int .i64 ((T : Int) + 1))) g t (kbyte (rperm S)) R 0 (T + 1)) :=
    Lib.hid ⟨SP.putT (SP.putU H4.out.1 0) (T + 1), only_setCell (only_setCell H4.out.2 (.inl rfl) _) (.inl rfl) _⟩
  clear H4
  go_wp2_with (first | (refine wpList_store_mid rfl 45 _ _ rfl g 0 _ rfl rfl ht3 hi1 ho1 ?_; rw [show (⟨l1⟩ : Array Value).toList = l1 from rfl, HW4.out]))
  go_end0
  exact ⟨rfl, H6.out⟩

end Go.Proofs.Ytamgbkadiobklaa
