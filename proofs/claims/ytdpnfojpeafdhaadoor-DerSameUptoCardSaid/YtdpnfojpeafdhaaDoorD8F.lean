/- The encoding of a valid node, Valid and Encode. -/
import Derived.Test.YtdpnfojpeafdhaaDoorD8E
import Derived.Test.YtdpnfojpeafdhaaDoorP8
namespace Go.Proofs.YtdpnfojpeafdhaaDoor
open Go.RowKit
set_option linter.unusedVariables false

theorem Joined.out {w w' : World} {ys : List Int} {e : Ending} (h : Joined w ys e w') : ∃ A c, e = .returned (.slice A ys.length c) ∧ Sl w' A ys.length c ys ∧ Past w w' := by
  obtain ⟨A, c, he, hs, hp, _⟩ := h
  exact ⟨A, c, he, hs, hp⟩
/-- The tag, the length and the contents, joined. -/
def Enc (w : World) (ys : List Int) (e : Ending) (w' : World) : Prop := ∃ A c, e = .returned (.slice A ys.length c) ∧ Sl w' A ys.length c ys ∧ Past w w'
theorem info24 : (Tryd.prog.info? 22).map (fun i => (i.zero, i.size, i.bytes)) = some (some (.slice none 0 0), 1, 24) := by kernel_rfl
/-- What the loop over the kids has written: the encodings of the first ones. -/
structure Kd (w wx : World) (g : Nat) (m i : Nat) (V : Nat → Option Addr) (C : Nat → Nat) (X : Nat → List Int) : Prop where
  past : Past w wx
  own : wx.ownsRow w.heap.size 22 1 (.slice (some ⟨g, 0, none⟩) m m) m (((List.range i).map fun j => Value.slice (V j) (X j).length (C j)) ++ List.replicate (m - i) (.slice none 0 0))
  sls : ∀ j, j < i → Sl wx (V j) (X j).length (C j) (X j)
theorem txtL_cat (ks : List T) : ∀ i, i ≤ ks.length → txtL (ks.take i) [] = cat (fun j => txt (ks.getD j default)) i
  | 0, _ => rfl
  | i + 1, h => by rw [take_next ks i (by omega), txtL_snoc, txtL_cat ks i (by omega), cat_succ]


abbrev tagO (tag : Int) : Obj := .cells #[.int .u8 tag] 5
/-- What the call of Join hands back: the bytes tx. -/
def JoinP (w : World) (tx : List Int) (Z : Nat) (e : Ending) (w' : World) : Prop := ∃ A c, e = .returned (.slice A Z c) ∧ Sl w' A Z c tx ∧ Past w w'
/-- The two calls at the end, in both orders. -/
structure Tl (w wx : World) (tag : Int) (A3 : Option Addr) (L c3 q Z : Nat) (tx : List Int) : Prop where
  e1 : Calls Tryd.prog 49 #[.int .i64 (L : Int)] (wx.alloc (.cells #[.int .u8 tag] 5)).drew fun e w2 => ∃ A2 c2, e = .returned (.slice A2 q c2) ∧
    Calls Tryd.prog 48 #[.slice (some ⟨w2.heap.size, 0, none⟩) 3 3] (w2.alloc (.cells #[.slice (some ⟨wx.heap.size, 0, none⟩) 1 1, .slice A2 q c2, .slice A3 L c3] 22)) (JoinP w tx Z)
  e2 : Calls Tryd.prog 49 #[.int .i64 (L : Int)] wx.drew fun e w2 => ∃ A2 c2, e = .returned (.slice A2 q c2) ∧ Past wx w2 ∧
    Calls Tryd.prog 48 #[.slice (some ⟨w2.heap.size + 1, 0, none⟩) 3 3] ((w2.alloc (.cells #[.int .u8 tag] 5)).alloc (.cells #[.slice (some ⟨w2.heap.size, 0, none⟩) 1 1, .slice A2 q c2, .slice A3 L c3] 22)) (JoinP w tx Z)
theorem enc_tail {w wx : World} {tag : Int} {A3 : Option Addr} {L c3 : Nat} {ys : List Int} (hs : Sl wx A3 L c3 ys) (hp : Past w wx) (ht : 0 ≤ tag ∧ tag < 256) (hL : L ≤ 10000000) : Tl w wx tag A3 L c3 (lenB L).length (headB tag ys).length (headB tag ys) := by
  have hl := hs.len
  subst hl
  have hlb : (lenB ys.length).length ≤ 5 := by
    rw [lenB_len]
    have := furN_le ys.length (by omega)
    omega
  have e1 : headB tag ys = [tag] ++ (lenB ys.length ++ ys) := rfl
  have hsz : (cat (fun i => if i = 0 then [tag] else if i = 1 then lenB ys.length else ys) 3).length ≤ 140737488355328 := by
    rw [cat_three]
    simp only [List.length_append, List.length_cons, List.length_nil]
    omega
  constructor
  · refine (elen_any ys.length (by omega) _).mono ?_
    intro e w2 hj
    obtain ⟨A2, c2, rfl, hs2, hp2⟩ := hj.out
    refine ⟨A2, c2, rfl, ?_⟩
    have hp3 : Past wx w2 := Past.trans' ((past_alloc8 wx _).drewN 1) hp2
    have hs0 : Sl w2 (some ⟨wx.heap.size, 0, none⟩) 1 1 [tag] := Sl.past (w := (wx.alloc (.cells #[.int .u8 tag] 5)).drew) ((sl_one wx 5 tag ht).drewN 1) hp2
    have hpa := past_alloc8 w2 (.cells #[.slice (some ⟨wx.heap.size, 0, none⟩) 1 1, .slice A2 (lenB ys.length).length c2, .slice A3 ys.length c3] 22)
    have h := join_any _ 3 3 _ _ _ _ (Sls.three (xs := [tag]) (ys := lenB ys.length) (zs := ys) (Row.new w2 22 #[.slice (some ⟨wx.heap.size, 0, none⟩) 1 1, .slice A2 (lenB ys.length).length c2, .slice A3 ys.length c3]) (hs0.past hpa) (hs2.past hpa) ((hs.past hp3).past hpa)) (by omega) hsz
    rw [cat_three, ← e1] at h
    refine h.mono ?_
    intro e w4 hj
    obtain ⟨A4, c4, rfl, hs4, hp4⟩ := hj.out
    exact ⟨A4, c4, rfl, hs4, (hp.trans' hp3).trans' (hpa.trans' hp4)⟩
  · refine (elen_any ys.length (by omega) _).mono ?_
    intro e w2 hj
    obtain ⟨A2, c2, rfl, hs2, hp2⟩ := hj.out
    refine ⟨A2, c2, rfl, Past.trans' (Past.drewN (Below.refl _ wx) 1) hp2, ?_⟩
    have hp3 : Past wx w2 := Past.trans' (Past.drewN (Below.refl _ wx) 1) hp2
    have hpt := past_alloc8 w2 (.cells #[.int .u8 tag] 5)
    have hs0 := sl_one w2 5 tag ht
    have e2 : w2.heap.size + 1 = (w2.alloc (.cells #[.int .u8 tag] 5)).heap.size := by simp
    have hpa := past_alloc8 (w2.alloc (.cells #[.int .u8 tag] 5)) (.cells #[.slice (some ⟨w2.heap.size, 0, none⟩) 1 1, .slice A2 (lenB ys.length).length c2, .slice A3 ys.length c3] 22)
    have h := join_any _ 3 3 _ _ _ _ (Sls.three (xs := [tag]) (ys := lenB ys.length) (zs := ys) (Row.new (w2.alloc (.cells #[.int .u8 tag] 5)) 22 #[.slice (some ⟨w2.heap.size, 0, none⟩) 1 1, .slice A2 (lenB ys.length).length c2, .slice A3 ys.length c3]) (hs0.past hpa) ((hs2.past hpt).past hpa) (((hs.past hp3).past hpt).past hpa)) (by omega) hsz
    rw [cat_three, ← e1, ← e2] at h
    refine h.mono ?_
    intro e w4 hj
    obtain ⟨A4, c4, rfl, hs4, hp4⟩ := hj.out
    exact ⟨A4, c4, rfl, hs4, ((hp.trans' hp3).trans' hpt).trans' (hpa.trans' hp4)⟩

set_option maxHeartbeats 4000000 in
set_option maxRecDepth 100000 in
theorem enc_leaf {tag : Int} {A K : Option Addr} {n c m d : Nat} {bytes : List Int} (w : World) (ht : 0 ≤ tag ∧ tag < 256) (hb : Sl w A n c bytes) (hn : n ≤ 10000000) (hsim : simB tag = true) :
    Calls Tryd.prog 30 #[.agg #[.int .u8 tag, .slice A n c, .slice K m d]] w (JoinP w (headB tag bytes) (headB tag bytes).length) := by
  have HC := Lib.hid (fun w => isComposed_any tag w ht.1 ht.2)
  rw [hsim] at HC
  have HR : Hid (Past w (w.alloc (.cells #[.int .u8 tag, .slice A n c, .slice K m d] 26)) ∧ Row (w.alloc (.cells #[.int .u8 tag, .slice A n c, .slice K m d] 26)) w.heap.size 26 #[.int .u8 tag, .slice A n c, .slice K m d]) := ⟨past_alloc8 _ _, Row.new _ _ _⟩
  have HT := Lib.hid (enc_tail (hb.past HR.out.1) HR.out.1 ht hn)
  clear hb hsim hn ht
  generalize headB tag bytes = tx at *
  generalize tx.length = Z at *
  go_enter Tryd.func30, Tryd.ntmps30
  go_wp2_with fail
  generalize w.alloc (.cells #[.int .u8 tag, .slice A n c, .slice K m d] 26) = w1 at *
  have f0 : w1.cell? ⟨w.heap.size, 0, none⟩ = some (.int .u8 tag) := HR.out.2.cell 0
  have f0d : w1.drew.cell? ⟨w.heap.size, 0, none⟩ = some (.int .u8 tag) := HR.out.2.cell 0
  have f1 : w1.cell? ⟨w.heap.size, 1, none⟩ = some (.slice A n c) := HR.out.2.cell 1
  generalize w.heap.size = g at *
  refine (HC.out _).mono ?_
  rintro e w2 ⟨rfl, rfl⟩
  generalize (lenB n).length = q at *
  go_wp2_with fail
  go_region_law (first
    | (go_simp; go_at_call 49; (with_reducible refine HT.out.e1.mono ?_); rintro e w3 ⟨A2, c2, rfl, hj⟩; have HJ := Lib.hid hj; clear hj)
    | (go_simp; go_at_call 49; (with_reducible refine HT.out.e2.mono ?_); rintro e w3 ⟨A2, c2, rfl, hq, hj⟩; have f0e : w3.cell? ⟨g, 0, none⟩ = some (.int .u8 tag) := (HR.out.2.past hq).cell 0; have HJ := Lib.hid hj; clear hj hq)
    | (go_simp; go_at_call 48; (with_reducible refine HJ.out.mono ?_); rintro e w4 ⟨A4, c4, rfl, hs4, hp4⟩; have H4 := Lib.hid (And.intro hs4 hp4); clear hs4 hp4))
  all_goals
    go_wp2_with fail
    go_ret
    exact ⟨A4, c4, rfl, H4.out.1, H4.out.2⟩


theorem leaf_of {tag : Int} {bs : List Int} {ks : List T} (h : shp (.node tag bs ks) = true) (hs : simB tag = true) : ks = [] := by
  have h1 : (okB tag bs ks && shpL ks) = true := h
  rw [okB_has, hasB, if_pos hs] at h1
  simp at h1
  exact h1.1.2
theorem comp_of {tag : Int} {bs : List Int} {ks : List T} (h : shp (.node tag bs ks) = true) (hs : simB tag = false) : bs = [] ∧ shpL ks = true := by
  have h1 : (okB tag bs ks && shpL ks) = true := h
  rw [okB_has, hasB, if_neg (by rw [hs]; decide)] at h1
  simp at h1
  exact ⟨h1.1.2, h1.2⟩
theorem shpL_in (ks : List T) (i : Nat) (h : i < ks.length) (hs : shpL ks = true) : shp (ks.getD i default) = true := by
  cases hk : shp (ks.getD i default) with
  | true => rfl
  | false => rw [shpL_at ks i h hk] at hs; cases hs
/-- The cells of the list of encodings, with one more of them. -/
theorem cells_next (i m : Nat) (h : i < m) (V : Nat → Option Addr) (C : Nat → Nat) (X : Nat → List Int) (A : Option Addr) (c : Nat) :
    (((List.range i).map fun j => Value.slice (V j) (X j).length (C j)) ++ List.replicate (m - i) (Value.slice none 0 0)).set i (Value.slice A (X i).length c) =
      ((List.range (i + 1)).map fun j => Value.slice ((fun j => if j = i then A else V j) j) (X j).length ((fun j => if j = i then c else C j) j)) ++ List.replicate (m - (i + 1)) (Value.slice none 0 0) := by
  have e : m - i = (m - (i + 1)) + 1 := by omega
  rw [e, List.replicate_succ, List.set_append_right _ _ (by simp), List.range_succ, List.map_append, List.append_assoc]
  have e2 : ((List.range i).map fun j => Value.slice (V j) (X j).length (C j)) = (List.range i).map fun j => Value.slice ((fun j => if j = i then A else V j) j) (X j).length ((fun j => if j = i then c else C j) j) := by
    refine List.map_congr_left fun j hj => ?_
    have : j < i := List.mem_range.1 hj
    simp only [if_neg (show ¬ j = i by omega)]
  rw [← e2]
  simp

theorem Kd.start {w w2 : World} {g m : Nat} {X : Nat → List Int} (hp : Past w w2) (hown : w2.ownsRow w.heap.size 22 1 (.slice (some ⟨g, 0, none⟩) m m) m (madeCells (Value.slice none 0 0).cells (m * 1)).toList) : Kd w w2 g m 0 (fun _ => none) (fun _ => 0) X := by
  refine ⟨hp, ?_, fun j hj => absurd hj (by omega)⟩
  have e : (madeCells (Value.slice none 0 0).cells (m * 1)).toList = ((List.range 0).map fun j => Value.slice ((fun _ => none : Nat → Option Addr) j) (X j).length ((fun _ => 0 : Nat → Nat) j)) ++ List.replicate (m - 0) (Value.slice none 0 0) := by
    simp [Value.cells, toList_madeCells_one]
  rw [← e]
  exact hown
/-- A kid's encoding is made, and stored. -/
theorem Kd.push {w wx wy : World} {g m i : Nat} {V : Nat → Option Addr} {C : Nat → Nat} {X : Nat → List Int} (h : Kd w wx g m i V C X) (hi : i < m) (hp : Past wx wy) {A : Option Addr} {c : Nat} (hs : Sl wy A (X i).length c (X i)) (hg : w.heap.size ≤ g) :
    Kd w (wy.setCell ⟨g, i, none⟩ (.slice A (X i).length c)) g m (i + 1) (fun j => if j = i then A else V j) (fun j => if j = i then c else C j) X := by
  have ho := own_past h.own hp
  have hcl : ∃ v, wy.cell? ⟨g, i, none⟩ = some v ∧ ∀ x, v ≠ .int .u8 x := by
    refine ⟨.slice none 0 0, ?_, fun x e => by cases e⟩
    rw [ho.cellAt i (by omega), List.getElem?_append_right (by simp), List.length_map, List.length_range, Nat.sub_self, List.getElem?_replicate, if_pos (by omega)]
  obtain ⟨v, hc, hv⟩ := hcl
  have hst := (ho.stored i (.slice A (X i).length c)).1
  refine ⟨Below.setCell (h.past.trans' hp) hg _, ?_, fun j hj => ?_⟩
  · rw [← cells_next i m hi]
    exact hst
  · by_cases hji : j = i
    · subst hji
      simp only [if_pos]
      exact hs.setCell hc hv
    · simp only [if_neg hji]
      exact ((h.sls j (by omega)).past hp).setCell hc hv
theorem Kd.sls' {w wx : World} {g m : Nat} {V : Nat → Option Addr} {C : Nat → Nat} {X : Nat → List Int} (h : Kd w wx g m m V C X) (hm : m ≤ 1000000000) : Sls wx (some ⟨g, 0, none⟩) m m V C X := by
  refine ⟨Nat.le_refl _, by unfold maxLen; omega, fun e => absurd e (by simp), fun _ => ⟨g, 0, rfl, fun i hi => ⟨?_, h.sls i hi⟩⟩⟩
  have hc := h.own.cellAt i (by omega)
  rw [Nat.zero_add, hc, List.getElem?_append_left (by simpa using hi)]
  simp [hi]


end Go.Proofs.YtdpnfojpeafdhaaDoor
