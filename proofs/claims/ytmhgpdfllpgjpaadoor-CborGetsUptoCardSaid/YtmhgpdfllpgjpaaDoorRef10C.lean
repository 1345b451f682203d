/- The reference's encoding of an item. -/
import Derived.Test.YtmhgpdfllpgjpaaDoorRef10B
import Derived.Deep.AppendLies
import Derived.Deep.Cut
import Derived.Deep.RegionLaw
namespace Go.Proofs.YtmhgpdfllpgjpaaDoor
open Go.RowKit
set_option linter.unusedVariables false

/-- append of bytes to bytes of the call's own, at a step of a region that draws its order. -/
theorem step_append_sl {P : Program} {w : World} {ops : Array Oper} {o : Oper} {a : Act} {K : Act → World → Prop} {Q : Exit → Act → World → Prop} {E : Prop} (hgd : o.guard = none) (s x : Operand) (t e : TypeId)
    (ho : o.op = .call { callee := .builtin .append, args := #[s, x], argTypes := #[t, t] }) (ht : P.underlying t = some (.slice e))
    (h8 : (P.info? e).map (fun i => (i.zero, i.size, i.bytes)) = some (some (.int .u8 0), 1, 1))
    (base : Nat) (v : Value) (n : Nat) (xs : List Int) (hs : a.eval s = v) (hown : w.ownsRow base e 1 v n (xs.map (Value.int .u8)))
    (A : Option Addr) (m c : Nat) (ys : List Int) (hx : a.eval x = .slice A m c) (hsl : Sl w A m c ys) (hbig : n + m ≤ 140737488355328) (hbase : base ≤ w.heap.size)
    (h : ∀ v' w', w'.ownsRow base e 1 v' (n + m) ((xs ++ ys).map (Value.int .u8)) → w.grownBy w' v.ownBlock → K (a.put o.dst v') w') : if Region.wanted o (yielded ops a.tmps) = true then Oper.wp P o a w K Q else E := by
  obtain ⟨i, hi, hz, hsz, hby⟩ := info_parts h8
  have hw : Region.wanted o (yielded ops a.tmps) = true := by simp [Region.wanted, hgd]
  rw [if_pos hw]
  cases A with
  | none =>
    have hc := hsl.nil0 rfl
    have hm : m = 0 := by have := hsl.cap; omega
    subst hc hm
    have hy : ys = [] := List.eq_nil_of_length_eq_zero hsl.len
    subst hy
    have hrun := run_append_owned_none (P := P) (w := w) base t o.type e i 1 ht hi v n _ hown
    have hk := h v w (by simpa using hown) (World.grownBy.refl w _)
    unfold Oper.wp
    simp [execOp, ho, resolve, invoke, builtin, hs, hx, hrun, Result.andThen]
    exact hk
  | some ad =>
    refine wp_append_own w s x t ho base e i (.int .u8 0) 1 1 ht hi hz hsz hby rfl (by decide) v n _ hs hown ad m c (ys.map (Value.int .u8)) hx (by simp [hsl.len]) hsl.cells
      (by intro u hu; obtain ⟨y, _, rfl⟩ := List.mem_map.1 hu; rfl) (by unfold maxLen; omega) (by omega) hbase ?_
    intro v' w' h1 h2 _
    rw [← List.map_append] at h1
    exact h v' w' h1 h2

/-- The number in an item's head. -/
def numOf (kd nm : Int) (n m : Nat) : Nat := if kd = 2 ∨ kd = 3 then n else if kd = 4 then m else if kd = 5 then m / 2 else nm.toNat
mutual
def txt : T → List Int
  | .node kd nm bs ks => txtL ks (headB kd.toNat (numOf kd nm bs.length ks.length) ++ bs)
def txtL : List T → List Int → List Int
  | [], a => a
  | k :: ks, a => txtL ks (a ++ txt k)
end
/- Whether all kinds are from 0 to 5. -/
mutual
def kok : T → Bool
  | .node kd _ _ ks => decide (0 ≤ kd ∧ kd ≤ 5) && kokL ks
def kokL : List T → Bool
  | [] => true
  | k :: ks => kok k && kokL ks
end
theorem kokL_at : ∀ (ks : List T) (i : Nat), i < ks.length → kokL ks = true → kok (ks.getD i default) = true
  | [], i, h, _ => by simp at h
  | k :: ks, i, h, hk => by
    simp only [kokL, Bool.and_eq_true] at hk
    cases i with
    | zero => exact hk.1
    | succ i => exact kokL_at ks i (by simpa using h) hk.2
theorem txtL_snoc (t : T) : ∀ (ks : List T) (a : List Int), txtL (ks ++ [t]) a = txtL ks a ++ txt t
  | [], a => by simp [txtL]
  | k :: ks, a => by simp only [List.cons_append, txtL]; exact txtL_snoc t ks _
theorem txtL_app : ∀ (ks ls : List T) (a : List Int), txtL (ks ++ ls) a = txtL ls (txtL ks a)
  | [], ls, a => by simp [txtL]
  | k :: ks, ls, a => by simp only [List.cons_append, txtL]; exact txtL_app ks ls _
theorem txtL_le : ∀ (ks : List T) (a : List Int), a.length ≤ (txtL ks a).length
  | [], a => by simp [txtL]
  | k :: ks, a => by
    have := txtL_le ks (a ++ txt k)
    rw [List.length_append] at this
    simp only [txtL]
    omega
theorem txt_kid (ks : List T) (a : List Int) (i : Nat) (h : i < ks.length) : (txtL (ks.take i) a).length + (txt (ks.getD i default)).length ≤ (txtL ks a).length := by
  rw [← List.length_append, ← txtL_snoc, ← take_next ks i h]
  have := txtL_app (ks.take (i + 1)) (ks.drop (i + 1)) a
  rw [List.take_append_drop] at this
  rw [this]
  exact txtL_le _ _

/-- What the loop over the kids keeps: the bytes so far, in memory of its own. -/
structure Cw (w wx : World) (g bb : Nat) (kd nm : Int) (A : Option Addr) (n c : Nat) (K : Option Addr) (m d : Nat) (hh bytes : List Int) (kids : List T) (i : Nat) (A4 : Option Addr) (L c4 : Nat) : Prop where
  own : wx.ownsRow bb 5 1 (.slice A4 L c4) L ((txtL (kids.take i) (hh ++ bytes)).map (Value.int .u8))
  past : Past w wx
  row : Row wx g 34 #[.int .i64 kd, .int .u64 nm, .slice A n c, .slice K m d]
  len : (txtL (kids.take i) (hh ++ bytes)).length = L
  rng : ∀ x ∈ txtL (kids.take i) (hh ++ bytes), 0 ≤ x ∧ x < 256
  lt : g < bb
  big : bb ≤ wx.heap.size
  ge : w.heap.size ≤ bb
section
variable {w wx wy : World} {g bb : Nat} {kd nm : Int} {A : Option Addr} {n c : Nat} {K : Option Addr} {m d : Nat} {hh bytes : List Int} {kids : List T} {i : Nat} {A4 A6 : Option Addr} {L c4 c6 : Nat}
theorem Cw.later (h : Cw w wx g bb kd nm A n c K m d hh bytes kids i A4 L c4) (hp : Past wx wy) : Cw w wy g bb kd nm A n c K m d hh bytes kids i A4 L c4 :=
  ⟨own_past h.own hp, h.past.trans' hp, h.row.past hp, h.len, h.rng, h.lt, Nat.le_trans h.big hp.size, h.ge⟩
theorem Cw.push (h : Cw w wx g bb kd nm A n c K m d hh bytes kids i A4 L c4) {ys : List Int} (hs : txtL (kids.take (i + 1)) (hh ++ bytes) = txtL (kids.take i) (hh ++ bytes) ++ ys) (hr : ∀ x ∈ ys, 0 ≤ x ∧ x < 256)
    (hown : wy.ownsRow bb 5 1 (.slice A6 (L + ys.length) c6) (L + ys.length) ((txtL (kids.take i) (hh ++ bytes) ++ ys).map (Value.int .u8))) (hg : wx.grownBy wy (Value.slice A4 L c4).ownBlock) : Cw w wy g bb kd nm A n c K m d hh bytes kids (i + 1) A6 (L + ys.length) c6 := by
  have hlt := h.lt
  refine ⟨by rw [hs]; exact hown, past_push h.past h.ge h.own hg, h.row.grown hg fun e => ?_, by rw [hs, List.length_append, h.len], fun x hx => ?_, h.lt, Nat.le_trans h.big hg.size, h.ge⟩
  · have := own_block_ge h.own g e.symm
    omega
  · rw [hs] at hx
    rcases List.mem_append.1 hx with hx | hx
    · exact h.rng x hx
    · exact hr x hx
theorem Cw.fin (h : Cw w wx g bb kd nm A n c K m d hh bytes kids m A4 L c4) (hl : kids.length = m) : Sl wx A4 L c4 (txtL kids (hh ++ bytes)) ∧ (txtL kids (hh ++ bytes)).length = L := by
  have h1 := Sl.of_own h.own h.rng
  have h2 := h.len
  rw [List.take_of_length_le (by omega)] at h1 h2
  exact ⟨h1, h2⟩
end
set_option maxHeartbeats 4000000 in
set_option maxRecDepth 100000 in
theorem rcode_any {w0 : World} {v : Value} {t : T} (h : InM w0 v t) : ∀ w, Past w0 w → cnt t ≤ 1000000000 → (txt t).length ≤ 10000000 → kok t = true →
    Calls Tryd.prog 21 #[v] w fun e w' => ∃ A c, e = .returned (.slice A (txt t).length c) ∧ Sl w' A (txt t).length c (txt t) ∧ Past w w' := by
  induction h with
  | mk v0 v1 v2 v3 ht hu hb hl hm hd h0 hc hk ih =>
    rename_i kd nm A n c bytes K m d kids
    intro w hw hn htx hko
    have hbl := hb.len
    have hko' : decide (0 ≤ kd ∧ kd ≤ 5) = true ∧ kokL kids = true := by
      have : (decide (0 ≤ kd ∧ kd ≤ 5) && kokL kids) = true := hko
      simpa using this
    obtain ⟨hk0, hk5⟩ := of_decide_eq_true hko'.1
    have hn' : cntL kids (1 + n) ≤ 1000000000 := by rw [← hbl]; exact hn
    have hmb : m ≤ 1000000000 ∧ n ≤ 1000000000 := by
      have := len_cntL kids (1 + n)
      omega
    obtain ⟨hmb, hnb⟩ := hmb
    obtain ⟨q, hq⟩ : ∃ q, numOf kd nm n m = q := ⟨_, rfl⟩
    have hqb : q < 18446744073709551616 := by
      rw [← hq]
      unfold numOf
      repeat' split
      all_goals omega
    obtain ⟨kn, hkn⟩ : ∃ kn : Nat, kd = (kn : Int) := ⟨kd.toNat, by omega⟩
    have HQ := Lib.hid hq
    have hT : txt (.node kd nm bytes kids) = txtL kids (headB kn q ++ bytes) := by
      show txtL kids (headB kd.toNat (numOf kd nm bytes.length kids.length) ++ bytes) = _
      rw [hbl, hl, hq, hkn, Int.toNat_natCast]
    have HT := Lib.hid hT
    rw [hT] at htx ⊢
    have HTX := Lib.hid htx
    have HN := Lib.hid hn'
    have HIH := Lib.hid ih
    have HKO := Lib.hid hko'.2
    have HC := Lib.hid hc
    have HL := Lib.hid hl
    have HB := Lib.hid hb
    have HR : Hid (Past w (w.alloc (.cells #[.int .i64 kd, .int .u64 nm, .slice A n c, .slice K m d] 34)) ∧ Row (w.alloc (.cells #[.int .i64 kd, .int .u64 nm, .slice A n c, .slice K m d] 34)) w.heap.size 34 #[.int .i64 kd, .int .u64 nm, .slice A n c, .slice K m d]) := ⟨past_alloc8 _ _, Row.new _ _ _⟩
    have HW := Lib.hid hw
    have HHD := Lib.hid (fun w => rhead_any kn q (by omega) hqb w)
    have HHR := Lib.hid (headB_rng kn q (by omega))
    have hhl := headB_len kn q
    have hhs := hsz_le q
    have hku : kn ≤ 5 := by omega
    clear hn hn' ih hc hl hk hb ht hw hko hko' htx hT hbl
    have hk6 : kn = 0 ∨ kn = 1 ∨ kn = 2 ∨ kn = 3 ∨ kn = 4 ∨ kn = 5 := by omega
    clear hku
    rcases hk6 with rfl | rfl | rfl | rfl | rfl | rfl
    · have hkd : kd = 0 := hkn
      subst hkd
      have hnm : nm = (q : Int) := by rw [← HQ.out]; unfold numOf; rw [if_neg (by omega), if_neg (by omega), if_neg (by omega)]; omega
      subst hnm
      replace HHD : Hid (∀ w, Calls Tryd.prog 26 #[.int .i64 0, .int .u64 (q : Int)] w (HeadP (headB 0 q) w)) := HHD
      clear hkn HQ
      go_enter Tryd.func21, Tryd.ntmps21
      go_upto_region 8 with (fail)
      obtain ⟨w1, hw1⟩ : ∃ w1, w1 = w.alloc (.cells #[.int .i64 0, .int .u64 (q : Int), .slice A n c, .slice K m d] 34) := ⟨_, rfl⟩
      rw [← hw1] at HR ⊢
      clear hw1
      have hpd : Past w1 w1.drew := Past.drewN (Below.refl _ w1) 1
      have HB1 := Lib.hid (HB.out.past (HW.out.trans' HR.out.1))
      have d0 : w1.drew.cell? ⟨w.heap.size, 0, none⟩ = some (.int .i64 0) := HR.out.2.cell 0
      have d2 : w1.drew.cell? ⟨w.heap.size, 2, none⟩ = some (.slice A n c) := HR.out.2.cell 2
      have hdb : w1.drew.heap.size = w1.heap.size := rfl
      have HSB := Lib.hid HR.out.2.lt
      generalize hHH : headB 0 q = hh at *
      have HHE := Lib.hid hHH
      clear hHH
      generalize hhe : hh.length = hn at *
      have HHN := Lib.hid hhe
      clear hhe
      have hn9 : hn ≤ 9 := by omega
      clear hhl hhs
      go_region_law (first
        | (go_simp; go_at_call 26; (with_reducible refine (HHD.out w1.drew).mono ?_); rintro e2 w2 hhp; obtain ⟨A2, c2, rfl, hown2, hp2⟩ := hhp; rw [HHN.out] at hown2 ⊢; have hp2' := hpd.trans' hp2; have HH := Lib.hid (And.intro (own_mono hown2 (Nat.le_of_eq hdb.symm)) hp2'); have e2c : w2.cell? ⟨w.heap.size, 2, none⟩ = some (.slice A n c) := (HR.out.2.past hp2').cell 2; clear hown2 hp2 hp2')
        | (refine step_append_sl rfl _ _ 22 5 rfl Tryd.underlying22 info8 w1.heap.size (.slice A2 hn c2) hn hh rfl HH.out.1 A n c bytes rfl (HB1.out.past HH.out.2) (by omega) HH.out.2.size ?_; intro v' w3 hown hgrow; obtain ⟨A3, c3, hv⟩ := own_slice hown; subst hv; have H3 : Hid (w3.ownsRow w1.heap.size 5 1 (.slice A3 (hn + n) c3) (hn + n) ((hh ++ bytes).map (Value.int .u8)) ∧ Past w1 w3) := Lib.hid ⟨hown, past_push HH.out.2 (Nat.le_refl _) HH.out.1 hgrow⟩; clear hown hgrow))
      all_goals
        have H4 : Hid (Cw w w3 w.heap.size w1.heap.size 0 (q : Int) A n c K m d hh bytes kids 0 A3 (hn + n) c3) := by
          refine Lib.hid ⟨by rw [List.take_zero]; exact H3.out.1, HR.out.1.trans' H3.out.2, HR.out.2.past H3.out.2, ?_, ?_, HSB.out, H3.out.2.size, HR.out.1.size⟩
          · rw [List.take_zero]
            show (hh ++ bytes).length = _
            rw [List.length_append, HHN.out, HB.out.len]
          · intro x hx
            rw [List.take_zero] at hx
            rcases List.mem_append.1 hx with hx | hx
            · exact HHR.out x hx
            · exact HB.out.rng x hx
        clear H3 HH e2c d0 d2 hdb hpd HB1 HHD
        generalize w1.heap.size = bb at *
        generalize hg : w.heap.size = g at *
        clear hg
        have f3 : w3.cell? ⟨g, 3, none⟩ = some (.slice K m d) := H4.out.row.cell 3
        go_wp2_with fail
        go_loopg [4, 5] m (fun k s4 s5 wx => ∃ (i L c4 : Nat) (A4 : Option Addr), i ≤ m ∧ k = m - i ∧ s4 = .slice A4 L c4 ∧ s5 = .int .i64 (i : Int) ∧ Hid (Cw w wx g bb 0 (q : Int) A n c K m d hh bytes kids i A4 L c4))
        case atStart => exact ⟨0, _, _, _, Nat.zero_le _, rfl, rfl, rfl, H4⟩
        case round =>
          clear H4 f3
          obtain ⟨i, L, c4, A4, hi, hgk, rfl, rfl, HQ⟩ := hrel
          have HGK := Lib.hid hgk
          clear hgk
          have f3 : wr.cell? ⟨g, 3, none⟩ = some (.slice K m d) := HQ.out.row.cell 3
          by_cases hlt : i < m
          · obtain ⟨b, o, rfl, hcell⟩ := HC.out (by omega)
            have hpp := HW.out.trans' HQ.out.past
            obtain ⟨c0, c1, c2, c3'⟩ := kid_cells (hcell i hlt) hpp
            have hck := cnt_kid kids (1 + n) i (by rw [HL.out]; exact hlt)
            have htk := txt_kid kids (hh ++ bytes) i (by rw [HL.out]; exact hlt)
            have hlen := HQ.out.len
            have hkc := HIH.out i hlt wr hpp (by have := HN.out; omega) (by have := HTX.out; omega) (kokL_at kids i (by rw [HL.out]; exact hlt) HKO.out)
            have hsum : L + (txt (kids.getD i default)).length ≤ 140737488355328 := by have := HTX.out; omega
            have HK := Lib.hid hkc
            have HSN : Hid (txtL (kids.take (i + 1)) (hh ++ bytes) = txtL (kids.take i) (hh ++ bytes) ++ txt (kids.getD i default)) := by
              show _ = _
              rw [take_next kids i (by rw [HL.out]; exact hlt), txtL_snoc]
            clear hcell hpp hck hkc htk hlen
            have hi0 : (0 : Int) ≤ (i : Int) := by omega
            have him : (i : Int) < (m : Int) := by omega
            generalize txt (kids.getD i default) = ys at *
            go_wp2_with fail
            refine HK.out.mono ?_
            rintro e w4 ⟨A5, c5, rfl, hsl, hp⟩
            have HQ4 := Lib.hid (HQ.out.later hp)
            have HSL := Lib.hid hsl
            have hbase : bb ≤ w4.heap.size := by have := HQ4.out.big; omega
            clear hp HQ HK hsl
            go_wp2_with (at_builtin; refine wpList_append_sl rfl _ _ 22 5 rfl Tryd.underlying22 info8 bb _ L _ rfl HQ4.out.own A5 ys.length c5 ys rfl HSL.out hsum hbase ?_; intro v5 w5 hown hgrow; obtain ⟨A6, c6, hv⟩ := own_slice hown; subst hv; have H5 := Lib.hid (HQ4.out.push HSN.out HSL.out.rng hown hgrow); clear hown hgrow)
            go_roundg (m - (i + 1))
            case rel => exact ⟨i + 1, _, c6, A6, by omega, rfl, rfl, by go_num, H5⟩
            case measure => have := HGK.out; omega
          · obtain rfl : i = m := by omega
            have hfin := HQ.out.fin HL.out
            have HF := Lib.hid hfin
            go_wp2_with fail
            go_ret
            rw [HHE.out]
            obtain ⟨hf1, hf2⟩ := HF.out
            rw [hf2]
            exact ⟨A4, c4, rfl, hf1, HQ.out.past⟩
    · have hkd : kd = 1 := hkn
      subst hkd
      have hnm : nm = (q : Int) := by rw [← HQ.out]; unfold numOf; rw [if_neg (by omega), if_neg (by omega), if_neg (by omega)]; omega
      subst hnm
      replace HHD : Hid (∀ w, Calls Tryd.prog 26 #[.int .i64 1, .int .u64 (q : Int)] w (HeadP (headB 1 q) w)) := HHD
      clear hkn HQ
      go_enter Tryd.func21, Tryd.ntmps21
      go_upto_region 8 with (fail)
      obtain ⟨w1, hw1⟩ : ∃ w1, w1 = w.alloc (.cells #[.int .i64 1, .int .u64 (q : Int), .slice A n c, .slice K m d] 34) := ⟨_, rfl⟩
      rw [← hw1] at HR ⊢
      clear hw1
      have hpd : Past w1 w1.drew := Past.drewN (Below.refl _ w1) 1
      have HB1 := Lib.hid (HB.out.past (HW.out.trans' HR.out.1))
      have d0 : w1.drew.cell? ⟨w.heap.size, 0, none⟩ = some (.int .i64 1) := HR.out.2.cell 0
      have d2 : w1.drew.cell? ⟨w.heap.size, 2, none⟩ = some (.slice A n c) := HR.out.2.cell 2
      have hdb : w1.drew.heap.size = w1.heap.size := rfl
      have HSB := Lib.hid HR.out.2.lt
      generalize hHH : headB 1 q = hh at *
      have HHE := Lib.hid hHH
      clear hHH
      generalize hhe : hh.length = hn at *
      have HHN := Lib.hid hhe
      clear hhe
      have hn9 : hn ≤ 9 := by omega
      clear hhl hhs
      go_region_law (first
        | (go_simp; go_at_call 26; (with_reducible refine (HHD.out w1.drew).mono ?_); rintro e2 w2 hhp; obtain ⟨A2, c2, rfl, hown2, hp2⟩ := hhp; rw [HHN.out] at hown2 ⊢; have hp2' := hpd.trans' hp2; have HH := Lib.hid (And.intro (own_mono hown2 (Nat.le_of_eq hdb.symm)) hp2'); have e2c : w2.cell? ⟨w.heap.size, 2, none⟩ = some (.slice A n c) := (HR.out.2.past hp2').cell 2; clear hown2 hp2 hp2')
        | (refine step_append_sl rfl _ _ 22 5 rfl Tryd.underlying22 info8 w1.heap.size (.slice A2 hn c2) hn hh rfl HH.out.1 A n c bytes rfl (HB1.out.past HH.out.2) (by omega) HH.out.2.size ?_; intro v' w3 hown hgrow; obtain ⟨A3, c3, hv⟩ := own_slice hown; subst hv; have H3 : Hid (w3.ownsRow w1.heap.size 5 1 (.slice A3 (hn + n) c3) (hn + n) ((hh ++ bytes).map (Value.int .u8)) ∧ Past w1 w3) := Lib.hid ⟨hown, past_push HH.out.2 (Nat.le_refl _) HH.out.1 hgrow⟩; clear hown hgrow))
      all_goals
        have H4 : Hid (Cw w w3 w.heap.size w1.heap.size 1 (q : Int) A n c K m d hh bytes kids 0 A3 (hn + n) c3) := by
          refine Lib.hid ⟨by rw [List.take_zero]; exact H3.out.1, HR.out.1.trans' H3.out.2, HR.out.2.past H3.out.2, ?_, ?_, HSB.out, H3.out.2.size, HR.out.1.size⟩
          · rw [List.take_zero]
            show (hh ++ bytes).length = _
            rw [List.length_append, HHN.out, HB.out.len]
          · intro x hx
            rw [List.take_zero] at hx
            rcases List.mem_append.1 hx with hx | hx
            · exact HHR.out x hx
            · exact HB.out.rng x hx
        clear H3 HH e2c d0 d2 hdb hpd HB1 HHD
        generalize w1.heap.size = bb at *
        generalize hg : w.heap.size = g at *
        clear hg
        have f3 : w3.cell? ⟨g, 3, none⟩ = some (.slice K m d) := H4.out.row.cell 3
        go_wp2_with fail
        go_loopg [4, 5] m (fun k s4 s5 wx => ∃ (i L c4 : Nat) (A4 : Option Addr), i ≤ m ∧ k = m - i ∧ s4 = .slice A4 L c4 ∧ s5 = .int .i64 (i : Int) ∧ Hid (Cw w wx g bb 1 (q : Int) A n c K m d hh bytes kids i A4 L c4))
        case atStart => exact ⟨0, _, _, _, Nat.zero_le _, rfl, rfl, rfl, H4⟩
        case round =>
          clear H4 f3
          obtain ⟨i, L, c4, A4, hi, hgk, rfl, rfl, HQ⟩ := hrel
          have HGK := Lib.hid hgk
          clear hgk
          have f3 : wr.cell? ⟨g, 3, none⟩ = some (.slice K m d) := HQ.out.row.cell 3
          by_cases hlt : i < m
          · obtain ⟨b, o, rfl, hcell⟩ := HC.out (by omega)
            have hpp := HW.out.trans' HQ.out.past
            obtain ⟨c0, c1, c2, c3'⟩ := kid_cells (hcell i hlt) hpp
            have hck := cnt_kid kids (1 + n) i (by rw [HL.out]; exact hlt)
            have htk := txt_kid kids (hh ++ bytes) i (by rw [HL.out]; exact hlt)
            have hlen := HQ.out.len
            have hkc := HIH.out i hlt wr hpp (by have := HN.out; omega) (by have := HTX.out; omega) (kokL_at kids i (by rw [HL.out]; exact hlt) HKO.out)
            have hsum : L + (txt (kids.getD i default)).length ≤ 140737488355328 := by have := HTX.out; omega
            have HK := Lib.hid hkc
            have HSN : Hid (txtL (kids.take (i + 1)) (hh ++ bytes) = txtL (kids.take i) (hh ++ bytes) ++ txt (kids.getD i default)) := by
              show _ = _
              rw [take_next kids i (by rw [HL.out]; exact hlt), txtL_snoc]
            clear hcell hpp hck hkc htk hlen
            have hi0 : (0 : Int) ≤ (i : Int) := by omega
            have him : (i : Int) < (m : Int) := by omega
            generalize txt (kids.getD i default) = ys at *
            go_wp2_with fail
            refine HK.out.mono ?_
            rintro e w4 ⟨A5, c5, rfl, hsl, hp⟩
            have HQ4 := Lib.hid (HQ.out.later hp)
            have HSL := Lib.hid hsl
            have hbase : bb ≤ w4.heap.size := by have := HQ4.out.big; omega
            clear hp HQ HK hsl
            go_wp2_with (at_builtin; refine wpList_append_sl rfl _ _ 22 5 rfl Tryd.underlying22 info8 bb _ L _ rfl HQ4.out.own A5 ys.length c5 ys rfl HSL.out hsum hbase ?_; intro v5 w5 hown hgrow; obtain ⟨A6, c6, hv⟩ := own_slice hown; subst hv; have H5 := Lib.hid (HQ4.out.push HSN.out HSL.out.rng hown hgrow); clear hown hgrow)
            go_roundg (m - (i + 1))
            case rel => exact ⟨i + 1, _, c6, A6, by omega, rfl, rfl, by go_num, H5⟩
            case measure => have := HGK.out; omega
          · obtain rfl : i = m := by omega
            have hfin := HQ.out.fin HL.out
            have HF := Lib.hid hfin
            go_wp2_with fail
            go_ret
            rw [HHE.out]
            obtain ⟨hf1, hf2⟩ := HF.out
            rw [hf2]
            exact ⟨A4, c4, rfl, hf1, HQ.out.past⟩
    · have hkd : kd = 2 := hkn
      subst hkd
      have hqn : q = n := by rw [← HQ.out]; unfold numOf; rw [if_pos (by omega)]
      subst hqn
      replace HHD : Hid (∀ w, Calls Tryd.prog 26 #[.int .i64 2, .int .u64 (q : Int)] w (HeadP (headB 2 q) w)) := HHD
      clear hkn HQ
      go_enter Tryd.func21, Tryd.ntmps21
      go_upto_region 8 with (fail)
      obtain ⟨w1, hw1⟩ : ∃ w1, w1 = w.alloc (.cells #[.int .i64 2, .int .u64 nm, .slice A q c, .slice K m d] 34) := ⟨_, rfl⟩
      rw [← hw1] at HR ⊢
      clear hw1
      have hpd : Past w1 w1.drew := Past.drewN (Below.refl _ w1) 1
      have HB1 := Lib.hid (HB.out.past (HW.out.trans' HR.out.1))
      have d0 : w1.drew.cell? ⟨w.heap.size, 0, none⟩ = some (.int .i64 2) := HR.out.2.cell 0
      have d2 : w1.drew.cell? ⟨w.heap.size, 2, none⟩ = some (.slice A q c) := HR.out.2.cell 2
      have hdb : w1.drew.heap.size = w1.heap.size := rfl
      have HSB := Lib.hid HR.out.2.lt
      generalize hHH : headB 2 q = hh at *
      have HHE := Lib.hid hHH
      clear hHH
      generalize hhe : hh.length = hn at *
      have HHN := Lib.hid hhe
      clear hhe
      have hn9 : hn ≤ 9 := by omega
      clear hhl hhs
      go_region_law (first
        | (go_simp; go_at_call 26; (with_reducible refine (HHD.out w1.drew).mono ?_); rintro e2 w2 hhp; obtain ⟨A2, c2, rfl, hown2, hp2⟩ := hhp; rw [HHN.out] at hown2 ⊢; have hp2' := hpd.trans' hp2; have HH := Lib.hid (And.intro (own_mono hown2 (Nat.le_of_eq hdb.symm)) hp2'); have e2c : w2.cell? ⟨w.heap.size, 2, none⟩ = some (.slice A q c) := (HR.out.2.past hp2').cell 2; clear hown2 hp2 hp2')
        | (refine step_append_sl rfl _ _ 22 5 rfl Tryd.underlying22 info8 w1.heap.size (.slice A2 hn c2) hn hh rfl HH.out.1 A q c bytes rfl (HB1.out.past HH.out.2) (by omega) HH.out.2.size ?_; intro v' w3 hown hgrow; obtain ⟨A3, c3, hv⟩ := own_slice hown; subst hv; have H3 : Hid (w3.ownsRow w1.heap.size 5 1 (.slice A3 (hn + q) c3) (hn + q) ((hh ++ bytes).map (Value.int .u8)) ∧ Past w1 w3) := Lib.hid ⟨hown, past_push HH.out.2 (Nat.le_refl _) HH.out.1 hgrow⟩; clear hown hgrow))
      all_goals
        have H4 : Hid (Cw w w3 w.heap.size w1.heap.size 2 nm A q c K m d hh bytes kids 0 A3 (hn + q) c3) := by
          refine Lib.hid ⟨by rw [List.take_zero]; exact H3.out.1, HR.out.1.trans' H3.out.2, HR.out.2.past H3.out.2, ?_, ?_, HSB.out, H3.out.2.size, HR.out.1.size⟩
          · rw [List.take_zero]
            show (hh ++ bytes).length = _
            rw [List.length_append, HHN.out, HB.out.len]
          · intro x hx
            rw [List.take_zero] at hx
            rcases List.mem_append.1 hx with hx | hx
            · exact HHR.out x hx
            · exact HB.out.rng x hx
        clear H3 HH e2c d0 d2 hdb hpd HB1 HHD
        generalize w1.heap.size = bb at *
        generalize hg : w.heap.size = g at *
        clear hg
        have f3 : w3.cell? ⟨g, 3, none⟩ = some (.slice K m d) := H4.out.row.cell 3
        go_wp2_with fail
        go_loopg [4, 5] m (fun k s4 s5 wx => ∃ (i L c4 : Nat) (A4 : Option Addr), i ≤ m ∧ k = m - i ∧ s4 = .slice A4 L c4 ∧ s5 = .int .i64 (i : Int) ∧ Hid (Cw w wx g bb 2 nm A q c K m d hh bytes kids i A4 L c4))
        case atStart => exact ⟨0, _, _, _, Nat.zero_le _, rfl, rfl, rfl, H4⟩
        case round =>
          clear H4 f3
          obtain ⟨i, L, c4, A4, hi, hgk, rfl, rfl, HQ⟩ := hrel
          have HGK := Lib.hid hgk
          clear hgk
          have f3 : wr.cell? ⟨g, 3, none⟩ = some (.slice K m d) := HQ.out.row.cell 3
          by_cases hlt : i < m
          · obtain ⟨b, o, rfl, hcell⟩ := HC.out (by omega)
            have hpp := HW.out.trans' HQ.out.past
            obtain ⟨c0, c1, c2, c3'⟩ := kid_cells (hcell i hlt) hpp
            have hck := cnt_kid kids (1 + q) i (by rw [HL.out]; exact hlt)
            have htk := txt_kid kids (hh ++ bytes) i (by rw [HL.out]; exact hlt)
            have hlen := HQ.out.len
            have hkc := HIH.out i hlt wr hpp (by have := HN.out; omega) (by have := HTX.out; omega) (kokL_at kids i (by rw [HL.out]; exact hlt) HKO.out)
            have hsum : L + (txt (kids.getD i default)).length ≤ 140737488355328 := by have := HTX.out; omega
            have HK := Lib.hid hkc
            have HSN : Hid (txtL (kids.take (i + 1)) (hh ++ bytes) = txtL (kids.take i) (hh ++ bytes) ++ txt (kids.getD i default)) := by
              show _ = _
              rw [take_next kids i (by rw [HL.out]; exact hlt), txtL_snoc]
            clear hcell hpp hck hkc htk hlen
            have hi0 : (0 : Int) ≤ (i : Int) := by omega
            have him : (i : Int) < (m : Int) := by omega
            generalize txt (kids.getD i default) = ys at *
            go_wp2_with fail
            refine HK.out.mono ?_
            rintro e w4 ⟨A5, c5, rfl, hsl, hp⟩
            have HQ4 := Lib.hid (HQ.out.later hp)
            have HSL := Lib.hid hsl
            have hbase : bb ≤ w4.heap.size := by have := HQ4.out.big; omega
            clear hp HQ HK hsl
            go_wp2_with (at_builtin; refine wpList_append_sl rfl _ _ 22 5 rfl Tryd.underlying22 info8 bb _ L _ rfl HQ4.out.own A5 ys.length c5 ys rfl HSL.out hsum hbase ?_; intro v5 w5 hown hgrow; obtain ⟨A6, c6, hv⟩ := own_slice hown; subst hv; have H5 := Lib.hid (HQ4.out.push HSN.out HSL.out.rng hown hgrow); clear hown hgrow)
            go_roundg (m - (i + 1))
            case rel => exact ⟨i + 1, _, c6, A6, by omega, rfl, rfl, by go_num, H5⟩
            case measure => have := HGK.out; omega
          · obtain rfl : i = m := by omega
            have hfin := HQ.out.fin HL.out
            have HF := Lib.hid hfin
            go_wp2_with fail
            go_ret
            rw [HHE.out]
            obtain ⟨hf1, hf2⟩ := HF.out
            rw [hf2]
            exact ⟨A4, c4, rfl, hf1, HQ.out.past⟩
    · have hkd : kd = 3 := hkn
      subst hkd
      have hqn : q = n := by rw [← HQ.out]; unfold numOf; rw [if_pos (by omega)]
      subst hqn
      replace HHD : Hid (∀ w, Calls Tryd.prog 26 #[.int .i64 3, .int .u64 (q : Int)] w (HeadP (headB 3 q) w)) := HHD
      clear hkn HQ
      go_enter Tryd.func21, Tryd.ntmps21
      go_upto_region 8 with (fail)
      obtain ⟨w1, hw1⟩ : ∃ w1, w1 = w.alloc (.cells #[.int .i64 3, .int .u64 nm, .slice A q c, .slice K m d] 34) := ⟨_, rfl⟩
      rw [← hw1] at HR ⊢
      clear hw1
      have hpd : Past w1 w1.drew := Past.drewN (Below.refl _ w1) 1
      have HB1 := Lib.hid (HB.out.past (HW.out.trans' HR.out.1))
      have d0 : w1.drew.cell? ⟨w.heap.size, 0, none⟩ = some (.int .i64 3) := HR.out.2.cell 0
      have d2 : w1.drew.cell? ⟨w.heap.size, 2, none⟩ = some (.slice A q c) := HR.out.2.cell 2
      have hdb : w1.drew.heap.size = w1.heap.size := rfl
      have HSB := Lib.hid HR.out.2.lt
      generalize hHH : headB 3 q = hh at *
      have HHE := Lib.hid hHH
      clear hHH
      generalize hhe : hh.length = hn at *
      have HHN := Lib.hid hhe
      clear hhe
      have hn9 : hn ≤ 9 := by omega
      clear hhl hhs
      go_region_law (first
        | (go_simp; go_at_call 26; (with_reducible refine (HHD.out w1.drew).mono ?_); rintro e2 w2 hhp; obtain ⟨A2, c2, rfl, hown2, hp2⟩ := hhp; rw [HHN.out] at hown2 ⊢; have hp2' := hpd.trans' hp2; have HH := Lib.hid (And.intro (own_mono hown2 (Nat.le_of_eq hdb.symm)) hp2'); have e2c : w2.cell? ⟨w.heap.size, 2, none⟩ = some (.slice A q c) := (HR.out.2.past hp2').cell 2; clear hown2 hp2 hp2')
        | (refine step_append_sl rfl _ _ 22 5 rfl Tryd.underlying22 info8 w1.heap.size (.slice A2 hn c2) hn hh rfl HH.out.1 A q c bytes rfl (HB1.out.past HH.out.2) (by omega) HH.out.2.size ?_; intro v' w3 hown hgrow; obtain ⟨A3, c3, hv⟩ := own_slice hown; subst hv; have H3 : Hid (w3.ownsRow w1.heap.size 5 1 (.slice A3 (hn + q) c3) (hn + q) ((hh ++ bytes).map (Value.int .u8)) ∧ Past w1 w3) := Lib.hid ⟨hown, past_push HH.out.2 (Nat.le_refl _) HH.out.1 hgrow⟩; clear hown hgrow))
      all_goals
        have H4 : Hid (Cw w w3 w.heap.size w1.heap.size 3 nm A q c K m d hh bytes kids 0 A3 (hn + q) c3) := by
          refine Lib.hid ⟨by rw [List.take_zero]; exact H3.out.1, HR.out.1.trans' H3.out.2, HR.out.2.past H3.out.2, ?_, ?_, HSB.out, H3.out.2.size, HR.out.1.size⟩
          · rw [List.take_zero]
            show (hh ++ bytes).length = _
            rw [List.length_append, HHN.out, HB.out.len]
          · intro x hx
            rw [List.take_zero] at hx
            rcases List.mem_append.1 hx with hx | hx
            · exact HHR.out x hx
            · exact HB.out.rng x hx
        clear H3 HH e2c d0 d2 hdb hpd HB1 HHD
        generalize w1.heap.size = bb at *
        generalize hg : w.heap.size = g at *
        clear hg
        have f3 : w3.cell? ⟨g, 3, none⟩ = some (.slice K m d) := H4.out.row.cell 3
        go_wp2_with fail
        go_loopg [4, 5] m (fun k s4 s5 wx => ∃ (i L c4 : Nat) (A4 : Option Addr), i ≤ m ∧ k = m - i ∧ s4 = .slice A4 L c4 ∧ s5 = .int .i64 (i : Int) ∧ Hid (Cw w wx g bb 3 nm A q c K m d hh bytes kids i A4 L c4))
        case atStart => exact ⟨0, _, _, _, Nat.zero_le _, rfl, rfl, rfl, H4⟩
        case round =>
          clear H4 f3
          obtain ⟨i, L, c4, A4, hi, hgk, rfl, rfl, HQ⟩ := hrel
          have HGK := Lib.hid hgk
          clear hgk
          have f3 : wr.cell? ⟨g, 3, none⟩ = some (.slice K m d) := HQ.out.row.cell 3
          by_cases hlt : i < m
          · obtain ⟨b, o, rfl, hcell⟩ := HC.out (by omega)
            have hpp := HW.out.trans' HQ.out.past
            obtain ⟨c0, c1, c2, c3'⟩ := kid_cells (hcell i hlt) hpp
            have hck := cnt_kid kids (1 + q) i (by rw [HL.out]; exact hlt)
            have htk := txt_kid kids (hh ++ bytes) i (by rw [HL.out]; exact hlt)
            have hlen := HQ.out.len
            have hkc := HIH.out i hlt wr hpp (by have := HN.out; omega) (by have := HTX.out; omega) (kokL_at kids i (by rw [HL.out]; exact hlt) HKO.out)
            have hsum : L + (txt (kids.getD i default)).length ≤ 140737488355328 := by have := HTX.out; omega
            have HK := Lib.hid hkc
            have HSN : Hid (txtL (kids.take (i + 1)) (hh ++ bytes) = txtL (kids.take i) (hh ++ bytes) ++ txt (kids.getD i default)) := by
              show _ = _
              rw [take_next kids i (by rw [HL.out]; exact hlt), txtL_snoc]
            clear hcell hpp hck hkc htk hlen
            have hi0 : (0 : Int) ≤ (i : Int) := by omega
            have him : (i : Int) < (m : Int) := by omega
            generalize txt (kids.getD i default) = ys at *
            go_wp2_with fail
            refine HK.out.mono ?_
            rintro e w4 ⟨A5, c5, rfl, hsl, hp⟩
            have HQ4 := Lib.hid (HQ.out.later hp)
            have HSL := Lib.hid hsl
            have hbase : bb ≤ w4.heap.size := by have := HQ4.out.big; omega
            clear hp HQ HK hsl
            go_wp2_with (at_builtin; refine wpList_append_sl rfl _ _ 22 5 rfl Tryd.underlying22 info8 bb _ L _ rfl HQ4.out.own A5 ys.length c5 ys rfl HSL.out hsum hbase ?_; intro v5 w5 hown hgrow; obtain ⟨A6, c6, hv⟩ := own_slice hown; subst hv; have H5 := Lib.hid (HQ4.out.push HSN.out HSL.out.rng hown hgrow); clear hown hgrow)
            go_roundg (m - (i + 1))
            case rel => exact ⟨i + 1, _, c6, A6, by omega, rfl, rfl, by go_num, H5⟩
            case measure => have := HGK.out; omega
          · obtain rfl : i = m := by omega
            have hfin := HQ.out.fin HL.out
            have HF := Lib.hid hfin
            go_wp2_with fail
            go_ret
            rw [HHE.out]
            obtain ⟨hf1, hf2⟩ := HF.out
            rw [hf2]
            exact ⟨A4, c4, rfl, hf1, HQ.out.past⟩
    · have hkd : kd = 4 := hkn
      subst hkd
      have hqm : q = m := by rw [← HQ.out]; unfold numOf; rw [if_neg (by omega), if_pos rfl]
      subst hqm
      replace HHD : Hid (∀ w, Calls Tryd.prog 26 #[.int .i64 4, .int .u64 (q : Int)] w (HeadP (headB 4 q) w)) := HHD
      clear hkn HQ
      go_enter Tryd.func21, Tryd.ntmps21
      go_upto_region 8 with (fail)
      obtain ⟨w1, hw1⟩ : ∃ w1, w1 = w.alloc (.cells #[.int .i64 4, .int .u64 nm, .slice A n c, .slice K q d] 34) := ⟨_, rfl⟩
      rw [← hw1] at HR ⊢
      clear hw1
      have hpd : Past w1 w1.drew := Past.drewN (Below.refl _ w1) 1
      have HB1 := Lib.hid (HB.out.past (HW.out.trans' HR.out.1))
      have d0 : w1.drew.cell? ⟨w.heap.size, 0, none⟩ = some (.int .i64 4) := HR.out.2.cell 0
      have d2 : w1.drew.cell? ⟨w.heap.size, 2, none⟩ = some (.slice A n c) := HR.out.2.cell 2
      have hdb : w1.drew.heap.size = w1.heap.size := rfl
      have HSB := Lib.hid HR.out.2.lt
      generalize hHH : headB 4 q = hh at *
      have HHE := Lib.hid hHH
      clear hHH
      generalize hhe : hh.length = hn at *
      have HHN := Lib.hid hhe
      clear hhe
      have hn9 : hn ≤ 9 := by omega
      clear hhl hhs
      go_region_law (first
        | (go_simp; go_at_call 26; (with_reducible refine (HHD.out w1.drew).mono ?_); rintro e2 w2 hhp; obtain ⟨A2, c2, rfl, hown2, hp2⟩ := hhp; rw [HHN.out] at hown2 ⊢; have hp2' := hpd.trans' hp2; have HH := Lib.hid (And.intro (own_mono hown2 (Nat.le_of_eq hdb.symm)) hp2'); have e2c : w2.cell? ⟨w.heap.size, 2, none⟩ = some (.slice A n c) := (HR.out.2.past hp2').cell 2; clear hown2 hp2 hp2')
        | (refine step_append_sl rfl _ _ 22 5 rfl Tryd.underlying22 info8 w1.heap.size (.slice A2 hn c2) hn hh rfl HH.out.1 A n c bytes rfl (HB1.out.past HH.out.2) (by omega) HH.out.2.size ?_; intro v' w3 hown hgrow; obtain ⟨A3, c3, hv⟩ := own_slice hown; subst hv; have H3 : Hid (w3.ownsRow w1.heap.size 5 1 (.slice A3 (hn + n) c3) (hn + n) ((hh ++ bytes).map (Value.int .u8)) ∧ Past w1 w3) := Lib.hid ⟨hown, past_push HH.out.2 (Nat.le_refl _) HH.out.1 hgrow⟩; clear hown hgrow))
      all_goals
        have H4 : Hid (Cw w w3 w.heap.size w1.heap.size 4 nm A n c K q d hh bytes kids 0 A3 (hn + n) c3) := by
          refine Lib.hid ⟨by rw [List.take_zero]; exact H3.out.1, HR.out.1.trans' H3.out.2, HR.out.2.past H3.out.2, ?_, ?_, HSB.out, H3.out.2.size, HR.out.1.size⟩
          · rw [List.take_zero]
            show (hh ++ bytes).length = _
            rw [List.length_append, HHN.out, HB.out.len]
          · intro x hx
            rw [List.take_zero] at hx
            rcases List.mem_append.1 hx with hx | hx
            · exact HHR.out x hx
            · exact HB.out.rng x hx
        clear H3 HH e2c d0 d2 hdb hpd HB1 HHD
        generalize w1.heap.size = bb at *
        generalize hg : w.heap.size = g at *
        clear hg
        have f3 : w3.cell? ⟨g, 3, none⟩ = some (.slice K q d) := H4.out.row.cell 3
        go_wp2_with fail
        go_loopg [4, 5] q (fun k s4 s5 wx => ∃ (i L c4 : Nat) (A4 : Option Addr), i ≤ q ∧ k = q - i ∧ s4 = .slice A4 L c4 ∧ s5 = .int .i64 (i : Int) ∧ Hid (Cw w wx g bb 4 nm A n c K q d hh bytes kids i A4 L c4))
        case atStart => exact ⟨0, _, _, _, Nat.zero_le _, rfl, rfl, rfl, H4⟩
        case round =>
          clear H4 f3
          obtain ⟨i, L, c4, A4, hi, hgk, rfl, rfl, HQ⟩ := hrel
          have HGK := Lib.hid hgk
          clear hgk
          have f3 : wr.cell? ⟨g, 3, none⟩ = some (.slice K q d) := HQ.out.row.cell 3
          by_cases hlt : i < q
          · obtain ⟨b, o, rfl, hcell⟩ := HC.out (by omega)
            have hpp := HW.out.trans' HQ.out.past
            obtain ⟨c0, c1, c2, c3'⟩ := kid_cells (hcell i hlt) hpp
            have hck := cnt_kid kids (1 + n) i (by rw [HL.out]; exact hlt)
            have htk := txt_kid kids (hh ++ bytes) i (by rw [HL.out]; exact hlt)
            have hlen := HQ.out.len
            have hkc := HIH.out i hlt wr hpp (by have := HN.out; omega) (by have := HTX.out; omega) (kokL_at kids i (by rw [HL.out]; exact hlt) HKO.out)
            have hsum : L + (txt (kids.getD i default)).length ≤ 140737488355328 := by have := HTX.out; omega
            have HK := Lib.hid hkc
            have HSN : Hid (txtL (kids.take (i + 1)) (hh ++ bytes) = txtL (kids.take i) (hh ++ bytes) ++ txt (kids.getD i default)) := by
              show _ = _
              rw [take_next kids i (by rw [HL.out]; exact hlt), txtL_snoc]
            clear hcell hpp hck hkc htk hlen
            have hi0 : (0 : Int) ≤ (i : Int) := by omega
            have him : (i : Int) < (q : Int) := by omega
            generalize txt (kids.getD i default) = ys at *
            go_wp2_with fail
            refine HK.out.mono ?_
            rintro e w4 ⟨A5, c5, rfl, hsl, hp⟩
            have HQ4 := Lib.hid (HQ.out.later hp)
            have HSL := Lib.hid hsl
            have hbase : bb ≤ w4.heap.size := by have := HQ4.out.big; omega
            clear hp HQ HK hsl
            go_wp2_with (at_builtin; refine wpList_append_sl rfl _ _ 22 5 rfl Tryd.underlying22 info8 bb _ L _ rfl HQ4.out.own A5 ys.length c5 ys rfl HSL.out hsum hbase ?_; intro v5 w5 hown hgrow; obtain ⟨A6, c6, hv⟩ := own_slice hown; subst hv; have H5 := Lib.hid (HQ4.out.push HSN.out HSL.out.rng hown hgrow); clear hown hgrow)
            go_roundg (q - (i + 1))
            case rel => exact ⟨i + 1, _, c6, A6, by omega, rfl, rfl, by go_num, H5⟩
            case measure => have := HGK.out; omega
          · obtain rfl : i = q := by omega
            have hfin := HQ.out.fin HL.out
            have HF := Lib.hid hfin
            go_wp2_with fail
            go_ret
            rw [HHE.out]
            obtain ⟨hf1, hf2⟩ := HF.out
            rw [hf2]
            exact ⟨A4, c4, rfl, hf1, HQ.out.past⟩
    · have hkd : kd = 5 := hkn
      subst hkd
      have hqm : q = m / 2 := by rw [← HQ.out]; unfold numOf; rw [if_neg (by omega), if_neg (by omega), if_pos rfl]
      have htd : Int.tdiv (m : Int) 2 = (q : Int) := by rw [Int.tdiv_eq_ediv_of_nonneg (by omega)]; omega
      have hqu : IntKind.u64.wrap (q : Int) = (q : Int) := by rw [IntKind.wrap_u64]; omega
      have hq64 : wrap64 (q : Int) = (q : Int) := by unfold wrap64; omega
      clear hqm
      replace HHD : Hid (∀ w, Calls Tryd.prog 26 #[.int .i64 5, .int .u64 (q : Int)] w (HeadP (headB 5 q) w)) := HHD
      clear hkn HQ
      go_enter Tryd.func21, Tryd.ntmps21
      go_upto_region 8 with (fail)
      obtain ⟨w1, hw1⟩ : ∃ w1, w1 = w.alloc (.cells #[.int .i64 5, .int .u64 nm, .slice A n c, .slice K m d] 34) := ⟨_, rfl⟩
      rw [← hw1] at HR ⊢
      clear hw1
      have hpd : Past w1 w1.drew := Past.drewN (Below.refl _ w1) 1
      have HB1 := Lib.hid (HB.out.past (HW.out.trans' HR.out.1))
      have d0 : w1.drew.cell? ⟨w.heap.size, 0, none⟩ = some (.int .i64 5) := HR.out.2.cell 0
      have d2 : w1.drew.cell? ⟨w.heap.size, 2, none⟩ = some (.slice A n c) := HR.out.2.cell 2
      have hdb : w1.drew.heap.size = w1.heap.size := rfl
      have HSB := Lib.hid HR.out.2.lt
      generalize hHH : headB 5 q = hh at *
      have HHE := Lib.hid hHH
      clear hHH
      generalize hhe : hh.length = hn at *
      have HHN := Lib.hid hhe
      clear hhe
      have hn9 : hn ≤ 9 := by omega
      clear hhl hhs
      go_region_law (first
        | (go_simp; go_at_call 26; (with_reducible refine (HHD.out w1.drew).mono ?_); rintro e2 w2 hhp; obtain ⟨A2, c2, rfl, hown2, hp2⟩ := hhp; rw [HHN.out] at hown2 ⊢; have hp2' := hpd.trans' hp2; have HH := Lib.hid (And.intro (own_mono hown2 (Nat.le_of_eq hdb.symm)) hp2'); have e2c : w2.cell? ⟨w.heap.size, 2, none⟩ = some (.slice A n c) := (HR.out.2.past hp2').cell 2; clear hown2 hp2 hp2')
        | (refine step_append_sl rfl _ _ 22 5 rfl Tryd.underlying22 info8 w1.heap.size (.slice A2 hn c2) hn hh rfl HH.out.1 A n c bytes rfl (HB1.out.past HH.out.2) (by omega) HH.out.2.size ?_; intro v' w3 hown hgrow; obtain ⟨A3, c3, hv⟩ := own_slice hown; subst hv; have H3 : Hid (w3.ownsRow w1.heap.size 5 1 (.slice A3 (hn + n) c3) (hn + n) ((hh ++ bytes).map (Value.int .u8)) ∧ Past w1 w3) := Lib.hid ⟨hown, past_push HH.out.2 (Nat.le_refl _) HH.out.1 hgrow⟩; clear hown hgrow))
      all_goals
        have H4 : Hid (Cw w w3 w.heap.size w1.heap.size 5 nm A n c K m d hh bytes kids 0 A3 (hn + n) c3) := by
          refine Lib.hid ⟨by rw [List.take_zero]; exact H3.out.1, HR.out.1.trans' H3.out.2, HR.out.2.past H3.out.2, ?_, ?_, HSB.out, H3.out.2.size, HR.out.1.size⟩
          · rw [List.take_zero]
            show (hh ++ bytes).length = _
            rw [List.length_append, HHN.out, HB.out.len]
          · intro x hx
            rw [List.take_zero] at hx
            rcases List.mem_append.1 hx with hx | hx
            · exact HHR.out x hx
            · exact HB.out.rng x hx
        clear H3 HH e2c d0 d2 hdb hpd HB1 HHD
        generalize w1.heap.size = bb at *
        generalize hg : w.heap.size = g at *
        clear hg
        have f3 : w3.cell? ⟨g, 3, none⟩ = some (.slice K m d) := H4.out.row.cell 3
        go_wp2_with fail
        go_loopg [4, 5] m (fun k s4 s5 wx => ∃ (i L c4 : Nat) (A4 : Option Addr), i ≤ m ∧ k = m - i ∧ s4 = .slice A4 L c4 ∧ s5 = .int .i64 (i : Int) ∧ Hid (Cw w wx g bb 5 nm A n c K m d hh bytes kids i A4 L c4))
        case atStart => exact ⟨0, _, _, _, Nat.zero_le _, rfl, rfl, rfl, H4⟩
        case round =>
          clear H4 f3
          obtain ⟨i, L, c4, A4, hi, hgk, rfl, rfl, HQ⟩ := hrel
          have HGK := Lib.hid hgk
          clear hgk
          have f3 : wr.cell? ⟨g, 3, none⟩ = some (.slice K m d) := HQ.out.row.cell 3
          by_cases hlt : i < m
          · obtain ⟨b, o, rfl, hcell⟩ := HC.out (by omega)
            have hpp := HW.out.trans' HQ.out.past
            obtain ⟨c0, c1, c2, c3'⟩ := kid_cells (hcell i hlt) hpp
            have hck := cnt_kid kids (1 + n) i (by rw [HL.out]; exact hlt)
            have htk := txt_kid kids (hh ++ bytes) i (by rw [HL.out]; exact hlt)
            have hlen := HQ.out.len
            have hkc := HIH.out i hlt wr hpp (by have := HN.out; omega) (by have := HTX.out; omega) (kokL_at kids i (by rw [HL.out]; exact hlt) HKO.out)
            have hsum : L + (txt (kids.getD i default)).length ≤ 140737488355328 := by have := HTX.out; omega
            have HK := Lib.hid hkc
            have HSN : Hid (txtL (kids.take (i + 1)) (hh ++ bytes) = txtL (kids.take i) (hh ++ bytes) ++ txt (kids.getD i default)) := by
              show _ = _
              rw [take_next kids i (by rw [HL.out]; exact hlt), txtL_snoc]
            clear hcell hpp hck hkc htk hlen
            have hi0 : (0 : Int) ≤ (i : Int) := by omega
            have him : (i : Int) < (m : Int) := by omega
            generalize txt (kids.getD i default) = ys at *
            go_wp2_with fail
            refine HK.out.mono ?_
            rintro e w4 ⟨A5, c5, rfl, hsl, hp⟩
            have HQ4 := Lib.hid (HQ.out.later hp)
            have HSL := Lib.hid hsl
            have hbase : bb ≤ w4.heap.size := by have := HQ4.out.big; omega
            clear hp HQ HK hsl
            go_wp2_with (at_builtin; refine wpList_append_sl rfl _ _ 22 5 rfl Tryd.underlying22 info8 bb _ L _ rfl HQ4.out.own A5 ys.length c5 ys rfl HSL.out hsum hbase ?_; intro v5 w5 hown hgrow; obtain ⟨A6, c6, hv⟩ := own_slice hown; subst hv; have H5 := Lib.hid (HQ4.out.push HSN.out HSL.out.rng hown hgrow); clear hown hgrow)
            go_roundg (m - (i + 1))
            case rel => exact ⟨i + 1, _, c6, A6, by omega, rfl, rfl, by go_num, H5⟩
            case measure => have := HGK.out; omega
          · obtain rfl : i = m := by omega
            have hfin := HQ.out.fin HL.out
            have HF := Lib.hid hfin
            go_wp2_with fail
            go_ret
            rw [HHE.out]
            obtain ⟨hf1, hf2⟩ := HF.out
            rw [hf2]
            exact ⟨A4, c4, rfl, hf1, HQ.out.past⟩

end Go.Proofs.YtmhgpdfllpgjpaaDoor
