/- The program's Encode. -/
import Derived.Test.YtclnoblcdaimiaaDoorJs11B
import Derived.Test.YtclnoblcdaimiaaDoorErrM1
import Derived.Lib.AppendStr
namespace Go.Proofs.YtclnoblcdaimiaaDoor
open Go.RowKit
set_option linter.unusedVariables false

theorem info8 : (Tryd.prog.info? 5).map (fun i => (i.zero, i.size, i.bytes)) = some (some (.int .u8 0), 1, 1) := by kernel_rfl
theorem own_block_ge {w : World} {base : Nat} {e : TypeId} {size : Nat} {v : Value} {n : Nat} {xs : List Value} (h : w.ownsRow base e size v n xs) : ∀ g, v.ownBlock = some g → base ≤ g := fun g hg => (h.lt g hg).1
theorem own_past {w w' : World} {base : Nat} {e : TypeId} {size : Nat} {v : Value} {n : Nat} {xs : List Value} (h : w.ownsRow base e size v n xs) (hp : Past w w') : w'.ownsRow base e size v n xs :=
  h.kept (only_of_past hp none) (by cases v.ownBlock <;> simp)
theorem past_push {w wr w2 : World} {v : Value} {base n sz : Nat} {e : TypeId} {xs : List Value} (hp : Past w wr) (hb : w.heap.size ≤ base) (ho : wr.ownsRow base e sz v n xs) (hg : wr.grownBy w2 v.ownBlock) : Past w w2 :=
  hp.grown hg hp.size (fun g hg => Nat.le_trans hb (own_block_ge ho g hg))
/-- append of a string to bytes of the call's own. -/
theorem wpList_append_slstr {P : Program} {w : World} {ops : Array Oper} {rest : List Oper} {o : Oper} {a : Act} {Q : Exit → Act → World → Prop} (hgd : o.guard = none) (s x : Operand) (t u e : TypeId)
    (ho : o.op = .call { callee := .builtin .append, args := #[s, x], argTypes := #[t, u] }) (ht : P.underlying t = some (.slice e)) (hu : P.underlying u = some .string)
    (h8 : (P.info? e).map (fun i => (i.zero, i.size, i.bytes)) = some (some (.int .u8 0), 1, 1))
    (base : Nat) (v : Value) (n : Nat) (xs : List Int) (hs : a.eval s = v) (hown : w.ownsRow base e 1 v n (xs.map (Value.int .u8)))
    (S : ByteArray) (hx : a.eval x = .string S) (hbig : n + S.size ≤ 140737488355328) (hbase : base ≤ w.heap.size)
    (h : ∀ v' w', w'.ownsRow base e 1 v' (n + S.size) ((xs ++ ints S).map (Value.int .u8)) → w.grownBy w' v.ownBlock → wpList P ops Q rest (a.put o.dst v') w') : wpList P ops Q (o :: rest) a w := by
  obtain ⟨i, hi, hz, hsz, hby⟩ := info_parts h8
  refine Lib.wpList_append_own_string w hgd s x t u ho base e i ht hu hi hz hsz hby v n _ hs hown S hx (by unfold maxLen; omega) hbig hbase ?_
  intro v' w' h1 h2 _
  rw [strCells_ints, ← List.map_append] at h1
  exact h v' w' h1 h2

theorem own_push {w wb w5 : World} {B g : Nat} {t : TypeId} {u4 v5 : Value} {xs : List Int} {cs : Array Value} (hq : wb.ownsRow B 5 1 u4 xs.length (xs.map (Value.int .u8))) (hp : Past w wb) (hlt : B < wb.heap.size) (hr : Row wb g t cs) (hne : ∀ k, u4.ownBlock = some k → k < g) (hwB : w.heap.size ≤ B)
    (hown : w5.ownsRow B 5 1 v5 (xs.length + 1) ((xs ++ [44]).map (Value.int .u8))) (hgrow : (wb.alloc (.cells #[.int .u8 44] 5)).grownBy w5 u4.ownBlock) :
    Hid (w5.ownsRow B 5 1 v5 (xs.length + 1) ((xs ++ [44]).map (Value.int .u8)) ∧ Past w w5 ∧ B < w5.heap.size ∧ Row w5 g t cs) := by
  have hp1 : Past w (wb.alloc (.cells #[.int .u8 44] 5)) := hp.trans' (past_alloc8 _ _)
  refine Lib.hid ⟨hown, past_push hp1 hwB (own_past hq (past_alloc8 _ _)) hgrow, ?_, ?_⟩
  · have := hgrow.size
    simp at this
    omega
  · refine Row.grown (hr.past (past_alloc8 _ _)) hgrow fun e => ?_
    have := hne g e.symm
    omega
/-- What Encode answers. -/
def EncP (l : List P2) (w : World) (e : Ending) (w' : World) : Prop :=
  (vldP l = true → ∃ A c, e = .returned (.tuple #[.slice A (textI l).length c, .nilIface]) ∧ Sl w' A (textI l).length c (textI l)) ∧
  (vldP l = false → e = .returned (.tuple #[.slice none 0 0, (Ch.code 12).val])) ∧ Past w w'

set_option maxHeartbeats 4000000 in
theorem encode11_any (A : Option Addr) (n c : Nat) (l : List P2) (w : World) (h : Ps w A n c l) (hs : lenL l ≤ 100000000) : Calls Tryd.prog 11 #[.slice A n c] w (EncP l w) := by
  have HP := Lib.hid h
  have HL := Lib.hid h.len
  have hbig : (n : Int) ≤ 9223372036854775807 := by
    have h1 := h.cap
    have h2 := h.big
    unfold maxLen at h2
    omega
  have HSZ := Lib.hid hs
  have HV := Lib.hid (valid11_any A n c l w h hs)
  clear h hs
  cases hv : vldP l with
  | false =>
    rw [hv] at HV
    have HVV := Lib.hid hv
    clear hv
    go_enter Tryd.func11, Tryd.ntmps11
    go_wp2_with fail
    refine HV.out.mono ?_
    rintro e w1 ⟨rfl, hp⟩
    have H1 := Lib.hid hp
    clear hp
    go_wp2_with fail
    go_ret2
    exact ⟨fun h => (by rw [HVV.out] at h; cases h), fun _ => rfl, H1.out⟩
  | true =>
    rw [hv] at HV
    have HVV := Lib.hid hv
    clear hv
    go_enter Tryd.func11, Tryd.ntmps11
    go_wp2_with fail
    refine HV.out.mono ?_
    rintro e w1 ⟨rfl, hp⟩
    have H1 := Lib.hid hp
    clear hp
    go_wp2_with fail
    have HO : Hid ((w1.alloc (.cells #[.int .u8 123] 5)).ownsRow w1.heap.size 5 1 (.slice (some ⟨w1.heap.size, 0, none⟩) 1 1) (ints (tP l 0)).length ((ints (tP l 0)).map (Value.int .u8)) ∧ Past w (w1.alloc (.cells #[.int .u8 123] 5)) ∧ w1.heap.size < (w1.alloc (.cells #[.int .u8 123] 5)).heap.size) :=
      Lib.hid ⟨own_one w1 5 123 rfl (Nat.le_refl _), H1.out.trans' (past_alloc8 _ _), by simp⟩
    obtain ⟨B, hB⟩ : ∃ B, w1.heap.size = B := ⟨_, rfl⟩
    rw [hB] at HO ⊢
    have HB : Hid (w.heap.size ≤ B) := Lib.hid (by rw [← hB]; exact H1.out.size)
    clear hB
    go_loopg [4, 5, 6, 14] n (fun q s4 s5 s6 s14 wx => ∃ i : Nat, i ≤ n ∧ q = n - i ∧ s14 = .int .i64 (i : Int) ∧ Hid (wx.ownsRow B 5 1 s4 (ints (tP l i)).length ((ints (tP l i)).map (Value.int .u8)) ∧ Past w wx ∧ B < wx.heap.size))
    case atStart => exact ⟨0, Nat.zero_le _, rfl, rfl, Lib.hid HO.out⟩
    case round =>
      clear HO
      obtain ⟨i, hi, hgk, rfl, HQ⟩ := hrel
      have HGK := Lib.hid hgk
      clear hgk
      by_cases hlt : i < n
      · have hli : (i : Int) < (n : Int) := by omega
        obtain ⟨b, o, rfl, hc⟩ := HP.out.cells (by omega)
        obtain ⟨f0, f1⟩ := hc i (by omega)
        rw [← Below.cell HQ.out.2.1 (cell_lt f0)] at f0
        rw [← Below.cell HQ.out.2.1 (cell_lt f1)] at f1
        have HLT := Lib.hid hlt
        have hi0 : (0 : Int) ≤ (i : Int) := by omega
        have hpl := plenN_le l i (by rw [HL.out]; exact hlt)
        have htl := tP_size_le l (i + 1) (by rw [HL.out]; exact hlt)
        have hte : tP l (i + 1) = pairB (commaB (tP l i) i) (l.getD i default) := rfl
        have hsz := HSZ.out
        obtain ⟨p, hp⟩ : ∃ p, l.getD i default = p := ⟨_, rfl⟩
        rw [hp] at f0 f1 hpl hte
        obtain ⟨a, b'⟩ := p
        have hpe : plenN (a, b') = 5 + a.size + b'.size := rfl
        have HE := Lib.hid (fun w => encoding_any a b' w (by omega))
        rw [pairB_eq] at hte
        obtain ⟨E, hE⟩ : ∃ E, encB (a, b') = E := ⟨_, rfl⟩
        rw [hE] at HE hte
        have htz : (tP l (i + 1)).size = (commaB (tP l i) i).size + E.size := by rw [hte, ByteArray.size_append]
        have hti : ints (tP l (i + 1)) = ints (commaB (tP l i) i) ++ ints E := by rw [hte, ints_append]
        have hcs := commaB_size (tP l i) i
        have hil := ints_len (tP l i)
        have HTI := Lib.hid hti
        have HTZ : Hid ((ints (tP l i)).length + 1 ≤ 100000001 ∧ (ints (commaB (tP l i) i)).length + E.size ≤ 100000000) := Lib.hid (by simp only [ints_len]; omega)
        obtain ⟨wb, hwb⟩ : ∃ wb, wb = wr.alloc (.cells #[.string a, .string b'] 54) := ⟨_, rfl⟩
        obtain ⟨g, hg⟩ : ∃ g, wr.heap.size = g := ⟨_, rfl⟩
        have hpb : Past wr wb := by rw [hwb]; exact past_alloc8 _ _
        have HQB : Hid (wb.ownsRow B 5 1 u4 (ints (tP l i)).length ((ints (tP l i)).map (Value.int .u8)) ∧ Past w wb ∧ B < wb.heap.size ∧ Row wb g 54 #[.string a, .string b']) := Lib.hid ⟨own_past HQ.out.1 hpb, HQ.out.2.1.trans' hpb, Nat.lt_of_lt_of_le HQ.out.2.2 hpb.size, by rw [hwb, ← hg]; exact Row.new _ _ _⟩
        have HNE : Hid (∀ k, u4.ownBlock = some k → k < g) := Lib.hid fun k hk => by rw [← hg]; exact (HQ.out.1.lt k hk).2
        have HWB := Lib.hid hwb
        have HGG := Lib.hid hg
        clear hc hlt hp hi hpl htl hte hsz hpe hE htz hti hcs hil hwb hg hpb HQ
        by_cases h0 : 0 < i
        · have h0i : (0 : Int) < (i : Int) := by omega
          have hce : ints (commaB (tP l i) i) = ints (tP l i) ++ [44] := by
            unfold commaB
            rw [if_pos h0, ints_append]
            rfl
          rw [hce] at HTI HTZ
          clear hce h0
          obtain ⟨xs, hxs⟩ : ∃ xs, ints (tP l i) = xs := ⟨_, rfl⟩
          rw [hxs] at HTI HTZ HQB
          clear hxs
          go_upto_region 7 with (fail)
          rw [← HWB.out]
          try rw [HGG.out]
          clear HWB HGG
          have hb1 : xs.length + 1 ≤ 140737488355328 := by have := HTZ.out; omega
          have hb2 : B ≤ (wb.alloc (.cells #[.int .u8 44] 5)).heap.size := by have := HQB.out.2.2.1; simp; omega
          go_wp2_with (at_builtin; refine wpList_append_sl rfl _ _ 22 5 rfl Tryd.underlying22 info8 B _ xs.length xs rfl (own_past HQB.out.1 (past_alloc8 _ _)) _ 1 1 [44] rfl (Sl.of_own (own_one wb 5 44 rfl (Nat.le_refl _)) (by simp)) hb1 hb2 ?_; intro v5 w5 hown hgrow; have H5 := own_push HQB.out.1 HQB.out.2.1 HQB.out.2.2.1 HQB.out.2.2.2 HNE.out HB.out hown hgrow; clear hown hgrow hb1 hb2 HQB; have x0 : w5.cell? ⟨g, 0, none⟩ = some (.string a) := H5.out.2.2.2.cell 0; have x1 : w5.cell? ⟨g, 1, none⟩ = some (.string b') := H5.out.2.2.2.cell 1)
          refine (HE.out _).mono ?_
          rintro e w6 ⟨rfl, hp⟩
          have H6 : Hid (w6.ownsRow B 5 1 v5 (xs.length + 1) ((xs ++ [44]).map (Value.int .u8)) ∧ Past w w6 ∧ B < w6.heap.size) := Lib.hid ⟨own_past H5.out.1 hp, H5.out.2.1.trans' hp, Nat.lt_of_lt_of_le H5.out.2.2.1 hp.size⟩
          clear hp H5 x0 x1
          have hb1 : xs.length + 1 + E.size ≤ 140737488355328 := by have := HTZ.out.2; rw [List.length_append] at this; simp only [List.length_cons, List.length_nil] at this; omega
          have hb2 : B ≤ w6.heap.size := by have := H6.out.2.2; omega
          go_wp2_with (at_builtin; refine wpList_append_slstr rfl _ _ 22 9 5 rfl Tryd.underlying22 Tryd.underlying9 info8 B _ (xs.length + 1) (xs ++ [44]) rfl H6.out.1 E rfl hb1 hb2 ?_; intro v7 w7 hown hgrow)
          have H7 : Hid (w7.ownsRow B 5 1 v7 (ints (tP l (i + 1))).length ((ints (tP l (i + 1))).map (Value.int .u8)) ∧ Past w w7 ∧ B < w7.heap.size) := by
            refine Lib.hid ⟨?_, past_push H6.out.2.1 HB.out H6.out.1 hgrow, ?_⟩
            · rw [HTI.out]
              have hl : ((xs ++ [44]) ++ ints E).length = xs.length + 1 + E.size := by rw [List.length_append, List.length_append, ints_len]; rfl
              rw [hl]
              exact hown
            · have := hgrow.size
              have := H6.out.2.2
              omega
          clear hown hgrow hb1 hb2 H6
          go_wp2_with fail
          go_roundg (n - (i + 1))
          case rel => exact ⟨i + 1, by have := HLT.out; omega, rfl, by go_num, H7⟩
          case measure => have := HGK.out; have := HLT.out; omega
        · have h0i : ¬ (0 : Int) < (i : Int) := by omega
          have hce : ints (commaB (tP l i) i) = ints (tP l i) := by
            unfold commaB
            rw [if_neg h0]
          rw [hce] at HTI HTZ
          clear hce h0
          obtain ⟨xs, hxs⟩ : ∃ xs, ints (tP l i) = xs := ⟨_, rfl⟩
          rw [hxs] at HTI HTZ HQB
          clear hxs
          go_upto_region 7 with (fail)
          rw [← HWB.out]
          try rw [HGG.out]
          clear HWB HGG
          have x0 : wb.cell? ⟨g, 0, none⟩ = some (.string a) := HQB.out.2.2.2.cell 0
          have x1 : wb.cell? ⟨g, 1, none⟩ = some (.string b') := HQB.out.2.2.2.cell 1
          go_wp2_with fail
          refine (HE.out _).mono ?_
          rintro e w6 ⟨rfl, hp⟩
          have H6 : Hid (w6.ownsRow B 5 1 u4 xs.length (xs.map (Value.int .u8)) ∧ Past w w6 ∧ B < w6.heap.size) := Lib.hid ⟨own_past HQB.out.1 hp, HQB.out.2.1.trans' hp, Nat.lt_of_lt_of_le HQB.out.2.2.1 hp.size⟩
          clear hp x0 x1 HQB
          have hb1 : xs.length + E.size ≤ 140737488355328 := by have := HTZ.out.2; omega
          have hb2 : B ≤ w6.heap.size := by have := H6.out.2.2; omega
          go_wp2_with (at_builtin; refine wpList_append_slstr rfl _ _ 22 9 5 rfl Tryd.underlying22 Tryd.underlying9 info8 B _ xs.length xs rfl H6.out.1 E rfl hb1 hb2 ?_; intro v7 w7 hown hgrow)
          have H7 : Hid (w7.ownsRow B 5 1 v7 (ints (tP l (i + 1))).length ((ints (tP l (i + 1))).map (Value.int .u8)) ∧ Past w w7 ∧ B < w7.heap.size) := by
            refine Lib.hid ⟨?_, past_push H6.out.2.1 HB.out H6.out.1 hgrow, ?_⟩
            · rw [HTI.out]
              have hl : (xs ++ ints E).length = xs.length + E.size := by simp [ints_len]
              rw [hl]
              exact hown
            · have := hgrow.size
              have := H6.out.2.2
              omega
          clear hown hgrow hb1 hb2 H6
          go_wp2_with fail
          go_roundg (n - (i + 1))
          case rel => exact ⟨i + 1, by have := HLT.out; omega, rfl, by go_num, H7⟩
          case measure => have := HGK.out; have := HLT.out; omega
      · obtain rfl : i = n := by omega
        have hli : ¬ (i : Int) < (i : Int) := by omega
        have hte : textI l = ints (tP l i) ++ [125] := by
          rw [← ints_textP]
          unfold textP
          rw [ints_append, HL.out]
          rfl
        have hsz := tP_size_le l i (by rw [HL.out]; exact Nat.le_refl _)
        have hs2 := HSZ.out
        have hil := ints_len (tP l i)
        have HTE := Lib.hid hte
        have hb1 : (ints (tP l i)).length + 1 ≤ 140737488355328 := by omega
        have HRG := Lib.hid (ints_all (tP l i))
        obtain ⟨xs, hxs⟩ : ∃ xs, ints (tP l i) = xs := ⟨_, rfl⟩
        rw [hxs] at HTE HQ hb1 HRG
        clear hlt hi hte hsz hs2 hil hxs
        have hb2 : B ≤ (wr.alloc (.cells #[.int .u8 125] 5)).heap.size := by have := HQ.out.2.2; simp; omega
        go_wp2_with (at_builtin; refine wpList_append_sl rfl _ _ 22 5 rfl Tryd.underlying22 info8 B _ xs.length xs rfl (own_past HQ.out.1 (past_alloc8 _ _)) _ 1 1 [125] rfl (Sl.of_own (own_one wr 5 125 rfl (Nat.le_refl _)) (by simp)) hb1 hb2 ?_; intro v5 w5 hown hgrow)
        have hpw : Past w w5 := past_push (HQ.out.2.1.trans' (past_alloc8 _ _)) HB.out (own_past HQ.out.1 (past_alloc8 _ _)) hgrow
        obtain ⟨A5, c5, rfl⟩ := own_slice hown
        go_ret2
        rw [show xs.length + 1 = (xs ++ [125]).length by simp, ← HTE.out] at hown ⊢
        exact ⟨fun _ => ⟨A5, c5, rfl, Sl.of_own hown (by rw [← ints_textP]; exact ints_all _)⟩, fun h => (by rw [HVV.out] at h; cases h), hpw⟩

end Go.Proofs.YtclnoblcdaimiaaDoor
