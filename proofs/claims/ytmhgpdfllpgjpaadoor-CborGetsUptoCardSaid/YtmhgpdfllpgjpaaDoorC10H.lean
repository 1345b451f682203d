/- The encoding of an item, whose order of keys is checked with it. -/
import Derived.Test.YtmhgpdfllpgjpaaDoorC10MB
import Derived.Maps.AppendAt
import Derived.Deep.Cut
import Derived.Deep.DeepCutAuto
namespace Go.Proofs.YtmhgpdfllpgjpaaDoor
open Go.RowKit
set_option linter.unusedVariables false

theorem Sl.far {w w' : World} {A : Option Addr} {n c : Nat} {xs : List Int} {row : Option Nat} (h : Sl w A n c xs) (hg : w.grownBy w' row) (hb : ∀ b o, A = some ⟨b, o, none⟩ → 0 < n → some b ≠ row) : Sl w' A n c xs :=
  ⟨h.len, h.cap, h.big, fun hn => by
    obtain ⟨b, o, rfl, hc⟩ := h.bytes hn
    exact ⟨b, o, rfl, fun i hi => hg.cell (hc i hi) (hb b o rfl hn)⟩, h.rng, h.nil0⟩
theorem Sl.old {w : World} {A : Option Addr} {n c : Nat} {xs : List Int} (h : Sl w A n c xs) : ∀ b o, A = some ⟨b, o, none⟩ → 0 < n → b < w.heap.size := by
  intro b o e hn
  obtain ⟨b', o', e', hc⟩ := h.bytes hn
  subst e
  injection e' with e'
  injection e' with e1 e2
  subst e1
  exact cell_lt (hc 0 hn)
theorem info24 : (Tryd.prog.info? 22).map (fun i => (i.zero, i.size, i.bytes)) = some (some (.slice none 0 0), 1, 24) := by kernel_rfl
/-- Parts that a call makes one by one: a list of slices of bytes. -/
structure Pt (base : Nat) (w wx : World) (v : Value) (i : Nat) (V : Nat → Option Addr) (C : Nat → Nat) (X : Nat → List Int) : Prop where
  past : Past w wx
  own : wx.ownsRow base 22 1 v i ((List.range i).map fun j => Value.slice (V j) (X j).length (C j))
  sls : ∀ j, j < i → Sl wx (V j) (X j).length (C j) (X j)
  far : ∀ j, j < i → ∀ b o, V j = some ⟨b, o, none⟩ → 0 < (X j).length → some b ≠ v.ownBlock
  ge : w.heap.size ≤ base
theorem Pt.later {base : Nat} {w wx wy : World} {v : Value} {i : Nat} {V : Nat → Option Addr} {C : Nat → Nat} {X : Nat → List Int} (h : Pt base w wx v i V C X) (hp : Past wx wy) : Pt base w wy v i V C X :=
  ⟨h.past.trans' hp, own_past h.own hp, fun j hj => (h.sls j hj).past hp, h.far, h.ge⟩
theorem Pt.push {base : Nat} {w wx wy w7 : World} {v v' : Value} {i : Nat} {V : Nat → Option Addr} {C : Nat → Nat} {X : Nat → List Int} (h : Pt base w wx v i V C X) (hp : Past wx wy) {A : Option Addr} {c : Nat} (hs : Sl wy A (X i).length c (X i))
    (hf : ∀ b o, A = some ⟨b, o, none⟩ → 0 < (X i).length → wx.heap.size ≤ b)
    (hown : w7.ownsRow base 22 1 v' (i + 1) (((List.range i).map fun j => Value.slice (V j) (X j).length (C j)) ++ [.slice A (X i).length c])) (hgrow : wy.grownBy w7 v.ownBlock) (hat : v'.ownBlock = v.ownBlock ∨ v'.ownBlock = some wy.heap.size) :
    Pt base w w7 v' (i + 1) (fun j => if j = i then A else V j) (fun j => if j = i then c else C j) X := by
  have h2 := h.later hp
  have hfar : ∀ b o, A = some ⟨b, o, none⟩ → 0 < (X i).length → some b ≠ v.ownBlock := fun b o e h0 he => by
    have h1 := hf b o e h0
    have := (h.own.lt b he.symm).2
    omega
  refine ⟨?_, ?_, fun j hj => ?_, fun j hj b o e h0 => ?_, h.ge⟩
  · exact h2.past.grown hgrow h2.past.size fun g hg => Nat.le_trans h.ge (own_block_ge h.own g hg)
  · rw [List.range_succ, List.map_append]
    have e2 : ((List.range i).map fun j => Value.slice ((fun j => if j = i then A else V j) j) (X j).length ((fun j => if j = i then c else C j) j)) = (List.range i).map fun j => Value.slice (V j) (X j).length (C j) := by
      refine List.map_congr_left fun j hj => ?_
      have : j < i := List.mem_range.1 hj
      simp only [if_neg (show ¬ j = i by omega)]
    rw [e2]
    simpa using hown
  · by_cases hji : j = i
    · subst hji
      simp only [if_pos]
      exact hs.far hgrow hfar
    · simp only [if_neg hji]
      exact (h2.sls j (by omega)).far hgrow (h2.far j (by omega))
  · by_cases hji : j = i
    · subst hji
      simp only [if_pos] at e
      rcases hat with ha | ha
      · rw [ha]
        exact hfar b o e h0
      · rw [ha]
        have := hs.old b o e h0
        intro h; injection h with h; omega
    · simp only [if_neg hji] at e
      rcases hat with ha | ha
      · rw [ha]
        exact h2.far j (by omega) b o e h0
      · rw [ha]
        have := (h2.sls j (by omega)).old b o e h0
        intro h; injection h with h; omega
theorem Pt.sls' {base : Nat} {w wx : World} {K : Option Addr} {m d : Nat} {V : Nat → Option Addr} {C : Nat → Nat} {X : Nat → List Int} (h : Pt base w wx (.slice K m d) m V C X) (hm : 0 < m) : Sls wx K m d V C X := by
  rcases h.own.2 with ⟨e1, e2⟩ | ⟨g, cap, cur, e1, e2, e3, e4, e5, e6, e7⟩
  · omega
  · injection e1 with a1 a2 a3
    subst a1 a3
    refine ⟨e4, e5, (fun e => by cases e), fun _ => ⟨g, 0, rfl, fun i hi => ⟨?_, h.sls i hi⟩⟩⟩
    have hc := h.own.cells (g := g) rfl i (Value.slice (V i) (X i).length (C i)) (by simp [hi])
    rw [← add_none]
    exact hc
theorem Pt.two {base : Nat} {w wx : World} {A0 A1 : Option Addr} {c0 c1 : Nat} {xs ys : List Int} {X : Nat → List Int} (hp : Past w wx) (hge : w.heap.size ≤ base) (hb : base ≤ wx.heap.size) (hx0 : X 0 = xs) (hx1 : X 1 = ys) (h0 : Sl wx A0 xs.length c0 xs) (h1 : Sl wx A1 ys.length c1 ys) :
    Pt base w (wx.alloc (.cells #[.slice A0 xs.length c0, .slice A1 ys.length c1] 22)) (.slice (some ⟨wx.heap.size, 0, none⟩) 2 2) 2 (fun j => if j = 0 then A0 else A1) (fun j => if j = 0 then c0 else c1) X := by
  have hpa := past_alloc8 wx (.cells #[.slice A0 xs.length c0, .slice A1 ys.length c1] 22)
  refine ⟨hp.trans' hpa, ?_, fun j hj => ?_, fun j hj b o e h => ?_, hge⟩
  · have h := World.ownsRow_lit (base := base) (e := 22) (size := 1) wx #[.slice A0 xs.length c0, .slice A1 ys.length c1] 2 hb (by unfold maxLen; omega) rfl
    have e : ((List.range 2).map fun j => Value.slice ((fun j => if j = 0 then A0 else A1) j) (X j).length ((fun j => if j = 0 then c0 else c1) j)) = [.slice A0 xs.length c0, .slice A1 ys.length c1] := by
      simp [List.range_succ, hx0, hx1]
    rw [e]
    exact h
  · have : j = 0 ∨ j = 1 := by omega
    rcases this with rfl | rfl
    · simp only [hx0, if_pos]
      exact h0.past hpa
    · simp only [hx1]
      exact h1.past hpa
  · have hl : b < wx.heap.size := by
      have : j = 0 ∨ j = 1 := by omega
      rcases this with rfl | rfl
      · exact h0.old b o (by simpa using e) (by rw [hx0] at h; exact h)
      · exact h1.old b o (by simpa using e) (by rw [hx1] at h; exact h)
    intro he
    have he' : some b = some wx.heap.size := he
    injection he' with he'
    omega

/-- The parts of an encoding. -/
def partX (fr bs : List Int) (ks : List T) (j : Nat) : List Int := if j = 0 then fr else if j = 1 then bs else txt (ks.getD (j - 2) default)
theorem partX_cat (fr bs : List Int) (ks : List T) : ∀ i, i ≤ ks.length → cat (partX fr bs ks) (i + 2) = txtL (ks.take i) (fr ++ bs)
  | 0, _ => by simp [cat, List.range_succ, partX, txtL]
  | i + 1, h => by
    rw [take_next ks i (by omega), txtL_snoc, cat_succ, partX_cat fr bs ks i (by omega)]
    congr 1
theorem partX_kid (fr bs : List Int) (ks : List T) (i : Nat) : partX fr bs ks (i + 2) = txt (ks.getD i default) := by
  unfold partX
  rw [if_neg (by omega), if_neg (by omega)]
  try rfl
/-- The place of the last key ahead of kid i among the parts. -/
def keyAt (i : Nat) : Nat := 2 + (i - 1) / 2 * 2
/-- The key before: nothing at first. -/
def BefIs (kd : Int) (i : Nat) (s : Value) (V : Nat → Option Addr) (C : Nat → Nat) (X : Nat → List Int) : Prop :=
  kd = 5 → (i = 0 → s = .slice none 0 0) ∧ (0 < i → s = .slice (V (keyAt i)) (X (keyAt i)).length (C (keyAt i)))
theorem txt_ne (t : T) : 0 < (txt t).length := by
  cases t with
  | node kd nm bs ks =>
    have h := txtL_le ks (headB kd.toNat (numOf kd nm bs.length ks.length) ++ bs)
    have e := headB_len kd.toNat (numOf kd nm bs.length ks.length)
    rw [List.length_append, e] at h
    have : txt (.node kd nm bs ks) = txtL ks (headB kd.toNat (numOf kd nm bs.length ks.length) ++ bs) := rfl
    rw [this]
    omega
theorem befB_nil (ys : List Int) (h : 0 < ys.length) : befB [] ys = true := by
  cases ys with
  | nil => simp at h
  | cons y ys => rfl

/-- What encoding hands back. -/
def EncQ (t : T) (w : World) (e : Ending) (w' : World) : Prop :=
  (shp t = true → ∃ A c, e = .returned (.tuple #[.slice A (txt t).length c, .bool true]) ∧ Sl w' A (txt t).length c (txt t) ∧ Past w w' ∧ ∀ b o, A = some ⟨b, o, none⟩ → 0 < (txt t).length → w.heap.size ≤ b) ∧
  (shp t = false → e = .returned (.tuple #[.slice none 0 0, .bool false]) ∧ Past w w')
theorem shp_has {kd nm : Int} {bs : List Int} {ks : List T} (h : hasB kd nm bs ks.length = true) : shp (.node kd nm bs ks) = (shpL ks && (!decide (kd = 5) || ordN ks ks.length)) := by
  have h1 : shp (.node kd nm bs ks) = (hasB kd nm bs ks.length && shpL ks && (!decide (kd = 5) || ordN ks ks.length)) := rfl
  rw [h1, h, Bool.true_and]
theorem shp_fail_kid {kd nm : Int} {bs : List Int} {ks : List T} (h : hasB kd nm bs ks.length = true) (i : Nat) (hi : i < ks.length) (hf : shp (ks.getD i default) = false) : shp (.node kd nm bs ks) = false := by
  rw [shp_has h, shpL_at ks i hi hf, Bool.false_and]
theorem shp_fail_ord {kd nm : Int} {bs : List Int} {ks : List T} (h : hasB kd nm bs ks.length = true) (i : Nat) (hi : i < ks.length) (h5 : kd = 5) (hf : ordAt ks i = false) : shp (.node kd nm bs ks) = false := by
  rw [shp_has h, ordN_at ks _ i hi hf, decide_eq_true h5]
  exact Bool.and_false _
theorem has_kind {kd nm : Int} {bs : List Int} {m : Nat} (h : hasB kd nm bs m = true) : 0 ≤ kd ∧ kd ≤ 5 := by
  by_cases hk : 0 ≤ kd ∧ kd ≤ 5
  · exact hk
  · rw [hasB_no kd nm bs m hk] at h
    cases h

set_option maxHeartbeats 8000000 in
set_option maxRecDepth 100000 in
theorem encoding_any {w0 : World} (hBr : Bru w0) {v : Value} {t : T} (h : InM w0 v t) : ∀ w, Past w0 w → cnt t ≤ 2000000 → shw t = true →
    Calls Tryd.prog 37 #[v] w (EncQ t w) := by
  induction h with
  | mk v0 v1 v2 v3 ht hu hb hl hm hd h0 hc hk ih =>
    rename_i kd nm A n c bytes K m d kids
    intro w hw hn hsh
    have htx := txt_len (.node kd nm bytes kids)
    have hcn : cntL kids (1 + bytes.length) ≤ 2000000 := hn
    have hbl := hb.len
    have hmb : m ≤ 2000000 ∧ n ≤ 2000000 := by
      have := len_cntL kids (1 + bytes.length)
      omega
    have hsw : hasB kd nm bytes kids.length = true ∧ shwL kids = true := by
      have h1 : (hasB kd nm bytes kids.length && shwL kids) = true := hsh
      simpa using h1
    obtain ⟨k, hkd⟩ : ∃ k : Nat, kd = (k : Int) := ⟨kd.toNat, by have := has_kind hsw.1; omega⟩
    have hk5 : k ≤ 5 := by have := has_kind hsw.1; omega
    have hnum : numOf kd nm n m < 18446744073709551616 := by
      unfold numOf
      split
      · omega
      split
      · omega
      split
      · omega
      · omega
    have HHS := Lib.hid hsw.1
    have HSW := Lib.hid hsw.2
    have HTXT : Hid (txt (.node kd nm bytes kids) = txtL kids (headB k (numOf kd nm n m) ++ bytes)) := Lib.hid (by
      show txtL kids (headB kd.toNat (numOf kd nm bytes.length kids.length) ++ bytes) = _
      rw [hbl, hl, hkd]
      rfl)
    have HTX : Hid ((txt (.node kd nm bytes kids)).length ≤ 18000000) := Lib.hid (by omega)
    have HN : Hid (cntL kids (1 + bytes.length) ≤ 2000000) := hn
    have HIH := Lib.hid ih
    have HKS : Hid (Ks w0 K m v0 v1 v2 v3 kids) := Lib.hid ⟨hl, hc, fun i hi => (hk i hi).shape⟩
    have HL := Lib.hid hl
    have HR := Lib.hid (box1 w #[.int .i64 kd, .int .u64 nm, .slice A n c, .slice K m d])
    have HW := Lib.hid hw
    have HB := Lib.hid hb
    have HBr := Lib.hid hBr
    obtain ⟨fr, hfr⟩ : ∃ fr, headB k (numOf kd nm n m) = fr := ⟨_, rfl⟩
    rw [hfr] at HTXT
    have HNU := Lib.hid (fun w1 => number_any kd nm A n c K m d w1 hu.1 (by omega) (by omega))
    have HHD := Lib.hid (fun w1 (hp : Past w0 w1) => head_any k (numOf kd nm n m) (by omega) hnum w1 (hBr.past hp))
    rw [hfr, ← hkd] at HHD
    obtain ⟨i0, hi0, hz0, hz1, hz2⟩ := info_parts info24
    obtain ⟨X, hX⟩ : ∃ X, partX fr bytes kids = X := ⟨_, rfl⟩
    have HXK : Hid (∀ i, X (i + 2) = txt (kids.getD i default)) := Lib.hid fun i => by rw [← hX, partX_kid]
    have HX01 : Hid (X 0 = fr ∧ X 1 = bytes) := Lib.hid (by rw [← hX]; exact ⟨rfl, rfl⟩)
    have HCAT : Hid (∀ i, i ≤ m → cat X (i + 2) = txtL (kids.take i) (fr ++ bytes)) := Lib.hid fun i hi => by rw [← hX, partX_cat _ _ _ i (by omega)]
    clear hn ih hc hl hk hb ht hu hw htx hcn hsw hsh hnum hfr hX hBr hkd
    generalize numOf kd nm n m = num at *
    go_enter Tryd.func37, Tryd.ntmps37
    go_wp2_with fail
    generalize w.alloc (.cells #[.int .i64 kd, .int .u64 nm, .slice A n c, .slice K m d] 27) = w1 at *
    obtain ⟨g, hg⟩ : ∃ g, w.heap.size = g := ⟨_, rfl⟩
    have HG := Lib.hid hg
    obtain ⟨hR1, hR2⟩ := HR.out
    rw [hg] at hR2 ⊢
    clear hg
    have hlt1 := hR2.lt
    have HQ1 : Hid (Past w w1.drew ∧ Row w1.drew g 27 #[.int .i64 kd, .int .u64 nm, .slice A n c, .slice K m d] ∧ g < w1.drew.heap.size) := Lib.hid ⟨hR1.drewN 1, hR2, hlt1⟩
    have f0 : w1.drew.cell? ⟨g, 0, none⟩ = some (.int .i64 kd) := HQ1.out.2.1.cell 0
    have f1 : w1.drew.cell? ⟨g, 1, none⟩ = some (.int .u64 nm) := HQ1.out.2.1.cell 1
    have f2 : w1.drew.cell? ⟨g, 2, none⟩ = some (.slice A n c) := HQ1.out.2.1.cell 2
    have f3 : w1.drew.cell? ⟨g, 3, none⟩ = some (.slice K m d) := HQ1.out.2.1.cell 3
    have HNU1 := Lib.hid (HNU.out w1.drew)
    clear hR1 hR2 HR HNU hlt1
    obtain ⟨fl, hflen⟩ : ∃ fl, fr.length = fl := ⟨_, rfl⟩
    have HFL := Lib.hid hflen
    rw [hflen] at HHD
    clear hflen
    go_upto_region 1 with (fail)
    go_cut [4] (fun s4 wx => ∃ (pb c4 : Nat) (A4 : Option Addr), s4 = .slice (some ⟨pb, 0, none⟩) 2 2 ∧ Hid (Pt (g + 1) w wx (.slice (some ⟨pb, 0, none⟩) 2 2) 2 (fun j => if j = 0 then A4 else A) (fun j => if j = 0 then c4 else c) X ∧ Row wx g 27 #[.int .i64 kd, .int .u64 nm, .slice A n c, .slice K m d]))
    case first =>
      go_region_law (first
        | (go_simp; go_at_call 55; (with_reducible refine HNU1.out.mono ?_); rintro e w3 ⟨rfl, hp3⟩; have H3 : Hid (Past w w3 ∧ Row w3 g 27 #[.int .i64 kd, .int .u64 nm, .slice A n c, .slice K m d] ∧ g < w3.heap.size) := Lib.hid ⟨HQ1.out.1.trans' hp3, HQ1.out.2.1.past hp3, Nat.lt_of_lt_of_le HQ1.out.2.2 hp3.size⟩; have g0 : w3.cell? ⟨g, 0, none⟩ = some (.int .i64 kd) := H3.out.2.1.cell 0; have g2 : w3.cell? ⟨g, 2, none⟩ = some (.slice A n c) := H3.out.2.1.cell 2; clear hp3)
        | (go_simp; go_at_call 56; (with_reducible refine (HHD.out _ (HW.out.trans' H3.out.1)).mono ?_); rintro e w4 ⟨A4, c4, rfl, hs4, hp4, hf4⟩; have H4 : Hid (Past w w4 ∧ Row w4 g 27 #[.int .i64 kd, .int .u64 nm, .slice A n c, .slice K m d] ∧ Sl w4 A4 fl c4 fr ∧ g < w4.heap.size) := Lib.hid ⟨H3.out.1.trans' hp4, H3.out.2.1.past hp4, hs4, Nat.lt_of_lt_of_le H3.out.2.2 hp4.size⟩; have k2 : w4.cell? ⟨g, 2, none⟩ = some (.slice A n c) := H4.out.2.1.cell 2; clear hs4 hp4 hf4))
      all_goals
        obtain ⟨w5, hw5⟩ : ∃ w5, w5 = w4.alloc (.cells #[.slice A4 fl c4, .slice A n c] 22) := ⟨_, rfl⟩
        obtain ⟨pb, hpb⟩ : ∃ pb, w4.heap.size = pb := ⟨_, rfl⟩
        have hP0 : Pt (g + 1) w w5 (.slice (some ⟨pb, 0, none⟩) 2 2) 2 (fun j => if j = 0 then A4 else A) (fun j => if j = 0 then c4 else c) X := by
          have hfl := HFL.out
          subst hfl
          subst hbl
          subst hpb
          rw [hw5]
          exact Pt.two H4.out.1 (by have := HG.out; omega) (by have := H4.out.2.2.2; omega) HX01.out.1 HX01.out.2 H4.out.2.2.1 (HB.out.past (HW.out.trans' H4.out.1))
        have HP0 : Hid (Pt (g + 1) w w5 (.slice (some ⟨pb, 0, none⟩) 2 2) 2 (fun j => if j = 0 then A4 else A) (fun j => if j = 0 then c4 else c) X ∧ Row w5 g 27 #[.int .i64 kd, .int .u64 nm, .slice A n c, .slice K m d]) := Lib.hid ⟨hP0, by rw [hw5]; exact H4.out.2.1.alloc _⟩
        rw [← hw5, hpb]
        clear hw5 hpb hP0 H3 H4 f0 f1 f2 g0 g2 k2 HNU1 HHD HQ1
        go_wp2_with fail
        go_meet
        case rel => exact ⟨_, _, _, rfl, HP0⟩
    case rest =>
      obtain ⟨pb, c4, A4, rfl, HP0⟩ := hcut
      have f3w : wc.cell? ⟨g, 3, none⟩ = some (.slice K m d) := HP0.out.2.cell 3
      clear f0 f1 f2 f3 HNU1 HHD HQ1
      go_wp2_with fail
      go_loopg [4, 5, 6, 7, 8, 9, 21] m (fun q s4 s5 _ _ _ _ s21 wx => ∃ (i dd : Nat) (K' : Option Addr) (V : Nat → Option Addr) (C : Nat → Nat) (b5 : Value), i ≤ m ∧ q = m - i ∧ s4 = .slice K' (i + 2) dd ∧ s5 = b5 ∧ s21 = .int .i64 (i : Int) ∧ Hid (BefIs kd i b5 V C X) ∧ Hid (shpL (kids.take i) = true ∧ (kd = 5 → ordN kids i = true)) ∧ Hid (Pt (g + 1) w wx (.slice K' (i + 2) dd) (i + 2) V C X ∧ Row wx g 27 #[.int .i64 kd, .int .u64 nm, .slice A n c, .slice K m d]))
      case atStart => exact ⟨0, 2, _, _, _, _, Nat.zero_le _, rfl, rfl, rfl, rfl, Lib.hid fun _ => ⟨fun _ => rfl, fun h => absurd h (Nat.lt_irrefl 0)⟩, Lib.hid ⟨rfl, fun _ => rfl⟩, HP0⟩
      case round =>
        clear HP0 f3w
        obtain ⟨i, dd, K', V, C, s5, hi, hgk, rfl, hs5, rfl, HBF, HOK, HP⟩ := hrel
        have hs5' := hs5.symm
        subst hs5'
        clear hs5
        have HGK := Lib.hid hgk
        clear hgk
        by_cases hlt : i < m
        · obtain ⟨b, o, rfl⟩ := HKS.out.addr (by omega)
          have hpp := HW.out.trans' HP.out.1.past
          obtain ⟨kkd, knm, kA, kn, kc, kK, km, kdd, ⟨e0, e1, e2, e3⟩, c0, c1, c2, c3⟩ := HKS.out.at hpp hlt
          have hck := cnt_kid kids (1 + bytes.length) i (by rw [HL.out]; exact hlt)
          have hkc := fun wz (hz : Past wr wz) => HIH.out i hlt wz (hpp.trans' hz) (by have := HN.out; omega) (shwL_in kids i (by rw [HL.out]; exact hlt) HSW.out)
          rw [e0, e1, e2, e3] at hkc
          clear e0 e1 e2 e3
          have HK := Lib.hid hkc
          clear hpp hck hkc
          have hi0' : (0 : Int) ≤ (i : Int) := by omega
          have him : (i : Int) < (m : Int) := by omega
          go_wp2_with fail
          refine (HK.out _ (past_alloc8 wr _)).mono ?_
          rintro e w6 ⟨hq1, hq2⟩
          have HK2 := Lib.hid (And.intro hq1 hq2)
          clear HK c0 c1 c2 c3 hq1 hq2
          cases hok : shp (kids.getD i default) with
          | false =>
            have HF : Hid (shp (.node kd nm bytes kids) = false) := Lib.hid (shp_fail_kid HHS.out i (by rw [HL.out]; exact hlt) hok)
            obtain ⟨rfl, hp6⟩ := HK2.out.2 hok
            have HP6 : Hid (Past w w6) := Lib.hid (HP.out.1.past.trans' ((past_alloc8 wr _).trans' hp6))
            clear HK2 hp6
            go_wp2_with fail
            go_ret2
            exact ⟨fun h => (by rw [HF.out] at h; cases h), fun _ => ⟨rfl, HP6.out⟩⟩
          | true =>
            obtain ⟨A6, c6, rfl, hs6, hp6, hf6⟩ := HK2.out.1 hok
            have HSHN : Hid (shpL (kids.take (i + 1)) = true) := Lib.hid (by
              rw [take_next kids i (by rw [HL.out]; exact hlt), shpL_snoc, HOK.out.1, hok]
              rfl)
            have hxi := HXK.out i
            rw [← hxi] at hs6 hf6 ⊢
            have HXI := Lib.hid hxi
            have hp66 := (past_alloc8 wr (.cells #[.int .i64 kkd, .int .u64 knm, .slice kA kn kc, .slice kK km kdd] 27)).trans' hp6
            have H6 : Hid (Past wr w6 ∧ Sl w6 A6 (X (i + 2)).length c6 (X (i + 2)) ∧ (∀ b o, A6 = some ⟨b, o, none⟩ → 0 < (X (i + 2)).length → wr.heap.size ≤ b)) := Lib.hid ⟨hp66, hs6, fun b o e h0 => by have := hf6 b o e h0; simp at this; omega⟩
            have HP6 := Lib.hid (And.intro (HP.out.1.later hp66) (HP.out.2.past hp66))
            clear HK2 hs6 hp6 hf6 hxi hp66 hok
            have f0 : w6.cell? ⟨g, 0, none⟩ = some (.int .i64 kd) := HP6.out.2.cell 0
            obtain ⟨xl, hxl⟩ : ∃ xl, (X (i + 2)).length = xl := ⟨_, rfl⟩
            have HXL := Lib.hid hxl
            rw [hxl]
            clear hxl hi0'
            by_cases h5 : kd = 5
            · subst h5
              have her : (i : Int).tmod 2 = ((i % 2 : Nat) : Int) := by rw [Int.tmod_eq_emod_of_nonneg (by omega)]; omega
              have hew : IntKind.i64.wrap ((i % 2 : Nat) : Int) = ((i % 2 : Nat) : Int) := by rw [IntKind.wrap_i64]; omega
              by_cases hev : i % 2 = 0
              · have heb : (((i % 2 : Nat) : Int) == 0) = true := by rw [hev]; rfl
                have hbf : ∃ BA bl bc bx, s5 = .slice BA bl bc ∧ Sl w6 BA bl bc bx ∧ (befB bx (txt (kids.getD i default)) = ordAt kids i) := by
                  by_cases hi00 : i = 0
                  · refine ⟨none, 0, 0, [], (HBF.out rfl).1 hi00, Sl.nil _, ?_⟩
                    rw [befB_nil _ (txt_ne _)]
                    unfold ordAt
                    rw [decide_eq_false (by omega)]
                    rfl
                  · refine ⟨_, _, _, _, (HBF.out rfl).2 (by omega), HP6.out.1.sls _ (by unfold keyAt; omega), ?_⟩
                    have e1 : keyAt i = (i - 2) + 2 := by unfold keyAt; omega
                    rw [e1, HXK.out (i - 2)]
                    unfold ordAt
                    rw [decide_eq_true (by omega)]
                    rfl
                obtain ⟨BA, bl, bc, bx, rfl, hbs, hbo⟩ := hbf
                have hsl := H6.out.2.1
                rw [HXL.out] at hsl
                have HAS := Lib.hid (ascend_any hbs hsl)
                rw [HXI.out, hbo] at HAS
                have HEV := Lib.hid hev
                clear hbs hbo hsl hev
                go_wp2_with fail
                refine HAS.out.mono ?_
                rintro e w7 ⟨rfl, rfl⟩
                cases hoa : ordAt kids i with
                | false =>
                  have HF : Hid (shp (.node 5 nm bytes kids) = false) := Lib.hid (shp_fail_ord HHS.out i (by rw [HL.out]; exact hlt) rfl hoa)
                  clear hoa HAS
                  go_wp2_with fail
                  go_ret2
                  exact ⟨fun h => (by rw [HF.out] at h; cases h), fun _ => ⟨rfl, HP6.out.1.past⟩⟩
                | true =>
                  have HON : Hid (shpL (kids.take (i + 1)) = true ∧ ((5 : Int) = 5 → ordN kids (i + 1) = true)) := Lib.hid ⟨HSHN.out, fun _ => by
                    show (ordN kids i && ordAt kids i) = true
                    rw [hoa, HOK.out.2 (by first | rfl | trivial)]
                    rfl⟩
                  have HBN : Hid (BefIs 5 (i + 1) (.slice A6 xl c6) (fun j => if j = i + 2 then A6 else V j) (fun j => if j = i + 2 then c6 else C j) X) := Lib.hid fun _ => ⟨fun h => absurd h (by omega), fun _ => by
                    have e1 : keyAt (i + 1) = i + 2 := by have := HEV.out; unfold keyAt; omega
                    rw [e1]
                    show _ = Value.slice (if i + 2 = i + 2 then A6 else V (i + 2)) (X (i + 2)).length (if i + 2 = i + 2 then c6 else C (i + 2))
                    rw [if_pos rfl, if_pos rfl, HXL.out]⟩
                  clear hoa HAS HBF HOK
                  obtain ⟨cl, hcl⟩ : ∃ cl, ((List.range (i + 2)).map fun j => Value.slice (V j) (X j).length (C j)) = cl := ⟨_, rfl⟩
                  have hown0 := HP6.out.1.own
                  rw [hcl] at hown0
                  have HCL := Lib.hid hcl
                  have HOW := Lib.hid hown0
                  clear hcl hown0
                  have hoL := HP6.out.1.own.lt
                  go_wp2_with (at_builtin; refine wpList_append_own_at _ rfl _ _ 101 rfl (g + 1) 22 i0 _ 1 24 Tryd.underlying101 hi0 hz0 hz1 hz2 rfl (by decide) (.slice K' (i + 2) dd) (i + 2) cl rfl (HOW.out.alloc _) ⟨w6.heap.size, 0, none⟩ 1 1 [.slice A6 xl c6] rfl rfl (cell_one_new w6 _ _) ?b2 ?b3 ?b4 ?b5 ?_)
                  case b2 => simp [Value.oneCell']
                  case b3 => unfold maxLen; omega
                  case b4 => omega
                  case b5 => have := HP6.out.2.lt; simp; omega
                  intro v' w8 hown hgrow _ hat
                  obtain ⟨K2, d2, rfl⟩ := own_slice hown
                  have hfr8 : ∀ kb, (Value.slice K' (i + 2) dd).ownBlock = some kb → g < kb := fun kb hk => by have := (hoL kb hk).1; omega
                  have HN8 : Hid (Pt (g + 1) w w8 (.slice K2 (i + 2 + 1) d2) (i + 2 + 1) (fun j => if j = i + 2 then A6 else V j) (fun j => if j = i + 2 then c6 else C j) X ∧ Row w8 g 27 #[.int .i64 5, .int .u64 nm, .slice A n c, .slice (some ⟨b, o, none⟩) m d]) := by
                    have hxl := HXL.out
                    subst hxl
                    have hcl := HCL.out
                    subst hcl
                    refine Lib.hid ⟨?_, ?_⟩
                    · exact HP.out.1.push (H6.out.1.trans' (past_alloc8 w6 (.cells #[.slice A6 (X (i + 2)).length c6] 22))) (H6.out.2.1.past (past_alloc8 _ _)) H6.out.2.2 hown hgrow (by rw [World.size_alloc]; exact hat)
                    · exact (HP6.out.2.alloc _).grown hgrow (fun e => by have := hfr8 g e.symm; omega)
                  clear hown hgrow hat hfr8 hoL HP6 H6 HP HSHN f0 HOW HCL
                  go_wp2_with fail
                  go_roundg (m - (i + 1))
                  case rel => exact ⟨i + 1, d2, K2, _, _, _, by omega, rfl, rfl, rfl, by go_num, HBN, HON, HN8⟩
                  case measure => have := HGK.out; omega
              · have heb : (((i % 2 : Nat) : Int) == 0) = false := by simp; omega
                have HON : Hid (shpL (kids.take (i + 1)) = true ∧ ((5 : Int) = 5 → ordN kids (i + 1) = true)) := Lib.hid ⟨HSHN.out, fun _ => by
                  show (ordN kids i && ordAt kids i) = true
                  rw [HOK.out.2 (by first | rfl | trivial)]
                  unfold ordAt
                  rw [decide_eq_false (by omega)]
                  rfl⟩
                have HBN : Hid (BefIs 5 (i + 1) s5 (fun j => if j = i + 2 then A6 else V j) (fun j => if j = i + 2 then c6 else C j) X) := Lib.hid fun _ => ⟨fun h => absurd h (by omega), fun _ => by
                  have e1 : keyAt (i + 1) = keyAt i := by unfold keyAt; omega
                  have e2 : ¬ keyAt i = i + 2 := by unfold keyAt; omega
                  rw [e1]
                  show _ = Value.slice (if keyAt i = i + 2 then A6 else V (keyAt i)) (X (keyAt i)).length (if keyAt i = i + 2 then c6 else C (keyAt i))
                  rw [if_neg e2, if_neg e2]
                  exact (HBF.out rfl).2 (by omega)⟩
                clear hev HBF HOK
                obtain ⟨cl, hcl⟩ : ∃ cl, ((List.range (i + 2)).map fun j => Value.slice (V j) (X j).length (C j)) = cl := ⟨_, rfl⟩
                have hown0 := HP6.out.1.own
                rw [hcl] at hown0
                have HCL := Lib.hid hcl
                have HOW := Lib.hid hown0
                clear hcl hown0
                have hoL := HP6.out.1.own.lt
                go_wp2_with (at_builtin; refine wpList_append_own_at _ rfl _ _ 101 rfl (g + 1) 22 i0 _ 1 24 Tryd.underlying101 hi0 hz0 hz1 hz2 rfl (by decide) (.slice K' (i + 2) dd) (i + 2) cl rfl (HOW.out.alloc _) ⟨w6.heap.size, 0, none⟩ 1 1 [.slice A6 xl c6] rfl rfl (cell_one_new w6 _ _) ?b2 ?b3 ?b4 ?b5 ?_)
                case b2 => simp [Value.oneCell']
                case b3 => unfold maxLen; omega
                case b4 => omega
                case b5 => have := HP6.out.2.lt; simp; omega
                intro v' w8 hown hgrow _ hat
                obtain ⟨K2, d2, rfl⟩ := own_slice hown
                have hfr8 : ∀ kb, (Value.slice K' (i + 2) dd).ownBlock = some kb → g < kb := fun kb hk => by have := (hoL kb hk).1; omega
                have HN8 : Hid (Pt (g + 1) w w8 (.slice K2 (i + 2 + 1) d2) (i + 2 + 1) (fun j => if j = i + 2 then A6 else V j) (fun j => if j = i + 2 then c6 else C j) X ∧ Row w8 g 27 #[.int .i64 5, .int .u64 nm, .slice A n c, .slice (some ⟨b, o, none⟩) m d]) := by
                  have hxl := HXL.out
                  subst hxl
                  have hcl := HCL.out
                  subst hcl
                  refine Lib.hid ⟨?_, ?_⟩
                  · exact HP.out.1.push (H6.out.1.trans' (past_alloc8 w6 (.cells #[.slice A6 (X (i + 2)).length c6] 22))) (H6.out.2.1.past (past_alloc8 _ _)) H6.out.2.2 hown hgrow (by rw [World.size_alloc]; exact hat)
                  · exact (HP6.out.2.alloc _).grown hgrow (fun e => by have := hfr8 g e.symm; omega)
                clear hown hgrow hat hfr8 hoL HP6 H6 HP HSHN f0 HOW HCL
                go_wp2_with fail
                go_roundg (m - (i + 1))
                case rel => exact ⟨i + 1, d2, K2, _, _, _, by omega, rfl, rfl, rfl, by go_num, HBN, HON, HN8⟩
                case measure => have := HGK.out; omega
            · have h5b : (kd == 5) = false := by simpa using h5
              have HON : Hid (shpL (kids.take (i + 1)) = true ∧ (kd = 5 → ordN kids (i + 1) = true)) := Lib.hid ⟨HSHN.out, fun h => absurd h h5⟩
              have HBN : Hid (BefIs kd (i + 1) s5 (fun j => if j = i + 2 then A6 else V j) (fun j => if j = i + 2 then c6 else C j) X) := Lib.hid fun h => absurd h h5
              clear h5 HBF HOK
              obtain ⟨cl, hcl⟩ : ∃ cl, ((List.range (i + 2)).map fun j => Value.slice (V j) (X j).length (C j)) = cl := ⟨_, rfl⟩
              have hown0 := HP6.out.1.own
              rw [hcl] at hown0
              have HCL := Lib.hid hcl
              have HOW := Lib.hid hown0
              clear hcl hown0
              have hoL := HP6.out.1.own.lt
              go_wp2_with (at_builtin; refine wpList_append_own_at _ rfl _ _ 101 rfl (g + 1) 22 i0 _ 1 24 Tryd.underlying101 hi0 hz0 hz1 hz2 rfl (by decide) (.slice K' (i + 2) dd) (i + 2) cl rfl (HOW.out.alloc _) ⟨w6.heap.size, 0, none⟩ 1 1 [.slice A6 xl c6] rfl rfl (cell_one_new w6 _ _) ?b2 ?b3 ?b4 ?b5 ?_)
              case b2 => simp [Value.oneCell']
              case b3 => unfold maxLen; omega
              case b4 => omega
              case b5 => have := HP6.out.2.lt; simp; omega
              intro v' w8 hown hgrow _ hat
              obtain ⟨K2, d2, rfl⟩ := own_slice hown
              have hfr8 : ∀ kb, (Value.slice K' (i + 2) dd).ownBlock = some kb → g < kb := fun kb hk => by have := (hoL kb hk).1; omega
              have HN8 : Hid (Pt (g + 1) w w8 (.slice K2 (i + 2 + 1) d2) (i + 2 + 1) (fun j => if j = i + 2 then A6 else V j) (fun j => if j = i + 2 then c6 else C j) X ∧ Row w8 g 27 #[.int .i64 kd, .int .u64 nm, .slice A n c, .slice (some ⟨b, o, none⟩) m d]) := by
                have hxl := HXL.out
                subst hxl
                have hcl := HCL.out
                subst hcl
                refine Lib.hid ⟨?_, ?_⟩
                · exact HP.out.1.push (H6.out.1.trans' (past_alloc8 w6 (.cells #[.slice A6 (X (i + 2)).length c6] 22))) (H6.out.2.1.past (past_alloc8 _ _)) H6.out.2.2 hown hgrow (by rw [World.size_alloc]; exact hat)
                · exact (HP6.out.2.alloc _).grown hgrow (fun e => by have := hfr8 g e.symm; omega)
              clear hown hgrow hat hfr8 hoL HP6 H6 HP HSHN f0 HOW HCL
              go_wp2_with fail
              go_roundg (m - (i + 1))
              case rel => exact ⟨i + 1, d2, K2, _, _, _, by omega, rfl, rfl, rfl, by go_num, HBN, HON, HN8⟩
              case measure => have := HGK.out; omega
        · obtain rfl : i = m := by omega
          have HT : Hid (kids.take i = kids) := Lib.hid (List.take_of_length_le (by rw [HL.out]; exact Nat.le_refl _))
          have HSH : Hid (shp (.node kd nm bytes kids) = true) := Lib.hid (by
            rw [shp_has HHS.out, ← HT.out, HOK.out.1, HT.out, HL.out]
            by_cases h5 : kd = 5
            · rw [HOK.out.2 h5]
              simp
            · rw [decide_eq_false h5]
              rfl)
          have hct : cat X (i + 2) = txt (.node kd nm bytes kids) := by rw [HCAT.out i (Nat.le_refl _), HT.out, HTXT.out]
          have hj := join_any _ (i + 2) dd _ _ _ wr (HP.out.1.sls' (by omega)) (by omega) (by rw [hct]; have := HTX.out; omega)
          rw [hct] at hj
          have HJ := Lib.hid hj
          have HPP := Lib.hid HP.out.1.past
          clear hj hct HP HBF HOK HCAT
          obtain ⟨tx, htx⟩ : ∃ tx, txt (.node kd nm bytes kids) = tx := ⟨_, rfl⟩
          rw [htx] at HJ
          have HTE := Lib.hid htx
          clear htx
          go_wp2_with fail
          refine HJ.out.mono ?_
          rintro e w8 ⟨A8, c8, rfl, hs8, hp8, hf8⟩
          have H8 : Hid (Sl w8 A8 tx.length c8 tx ∧ Past w w8 ∧ ∀ b o, A8 = some ⟨b, o, none⟩ → 0 < tx.length → w.heap.size ≤ b) := Lib.hid ⟨hs8, HPP.out.trans' hp8, fun b o e h0 => by
            obtain ⟨gg, hg, hlt8, _⟩ := hf8 h0
            rw [hg] at e
            injection e with e
            injection e with e1 e2
            have := HPP.out.size
            omega⟩
          clear hs8 hp8 hf8 HJ
          obtain ⟨tl, htl⟩ : ∃ tl, tx.length = tl := ⟨_, rfl⟩
          rw [htl]
          have HTL := Lib.hid htl
          clear htl
          go_wp2_with fail
          go_ret2
          refine ⟨fun _ => ?_, fun h => (by rw [HSH.out] at h; cases h)⟩
          have htl := HTL.out
          subst htl
          rw [HTE.out]
          exact ⟨A8, c8, rfl, H8.out.1, H8.out.2.1, H8.out.2.2⟩

end Go.Proofs.YtmhgpdfllpgjpaaDoor
