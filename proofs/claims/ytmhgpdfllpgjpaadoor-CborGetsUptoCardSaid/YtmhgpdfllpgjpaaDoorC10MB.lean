/- The program's comparison of two items. The size of an item's encoding, and whether an item is valid whatever the order of its keys. The head of an item as the program writes it: the word of a number, and how many zero bits its size ends with. -/
import Derived.Test.YtmhgpdfllpgjpaaDoorC10MA
import Derived.Test.YtmhgpdfllpgjpaaDoorWireM
import Derived.Test.YtmhgpdfllpgjpaaDoorRef10K
import Derived.Deep.RegionLaw
namespace Go.Proofs.YtmhgpdfllpgjpaaDoor
open Go.RowKit
set_option linter.unusedVariables false

/-- Kids that lie in memory: four cells each. -/
structure Ks (w0 : World) (K : Option Addr) (m : Nat) (v0 v1 v2 v3 : Nat → Value) (ks : List T) : Prop where
  len : ks.length = m
  cells : 0 < m → ∃ b o, K = some ⟨b, o, none⟩ ∧ ∀ i, i < m → w0.cell? ⟨b, o + i * 4, none⟩ = some (v0 i) ∧ w0.cell? ⟨b, o + i * 4 + 1, none⟩ = some (v1 i) ∧ w0.cell? ⟨b, o + i * 4 + 2, none⟩ = some (v2 i) ∧ w0.cell? ⟨b, o + i * 4 + 3, none⟩ = some (v3 i)
  shape : ∀ i, i < m → ∃ kd nm A n c K m d, v0 i = .int .i64 kd ∧ v1 i = .int .u64 nm ∧ v2 i = .slice A n c ∧ v3 i = .slice K m d
/-- A kid that is met: its four values, in the forms that they have, in a later world. -/
theorem Ks.at {w0 wr : World} {b o m : Nat} {v0 v1 v2 v3 : Nat → Value} {ks : List T} (h : Ks w0 (some ⟨b, o, none⟩) m v0 v1 v2 v3 ks) (hp : Past w0 wr) {i : Nat} (hi : i < m) :
    ∃ kd nm A n c K m d, (v0 i = .int .i64 kd ∧ v1 i = .int .u64 nm ∧ v2 i = .slice A n c ∧ v3 i = .slice K m d) ∧ wr.cell? ⟨b, o + i * 4, none⟩ = some (.int .i64 kd) ∧ wr.cell? ⟨b, o + i * 4 + 1, none⟩ = some (.int .u64 nm) ∧ wr.cell? ⟨b, o + i * 4 + 2, none⟩ = some (.slice A n c) ∧ wr.cell? ⟨b, o + i * 4 + 3, none⟩ = some (.slice K m d) := by
  obtain ⟨b', o', e, hc⟩ := h.cells (by omega)
  injection e with e
  injection e with e1 e2
  subst e1 e2
  obtain ⟨kd, nm, A, n, c, K, m', d, e0, e1, e2, e3⟩ := h.shape i hi
  obtain ⟨q0, q1, q2, q3⟩ := kid_cells (hc i hi) hp
  rw [e0] at q0
  rw [e1] at q1
  rw [e2] at q2
  rw [e3] at q3
  exact ⟨kd, nm, A, n, c, K, m', d, ⟨e0, e1, e2, e3⟩, q0, q1, q2, q3⟩
theorem Ks.addr {w0 : World} {K : Option Addr} {m : Nat} {v0 v1 v2 v3 : Nat → Value} {ks : List T} (h : Ks w0 K m v0 v1 v2 v3 ks) (hm : 0 < m) : ∃ b o, K = some ⟨b, o, none⟩ := by
  obtain ⟨b, o, e, _⟩ := h.cells hm
  exact ⟨b, o, e⟩
def SameP (p : Prop) (w : World) (e : Ending) (w' : World) : Prop := ∃ r : Bool, e = .returned (.bool r) ∧ (r = true ↔ p) ∧ Past w w'

set_option maxHeartbeats 2000000 in
set_option maxRecDepth 100000 in
theorem eqf_any {w0 : World} {K K' : Option Addr} {m m' d d' : Nat} {v0 v1 v2 v3 u0 u1 u2 u3 : Nat → Value} {ks ks' : List T} (hA : Ks w0 K m v0 v1 v2 v3 ks) (hB : Ks w0 K' m' u0 u1 u2 u3 ks') (hm : m ≤ 1000000000)
    (ih : ∀ i, i < m → i < m' → ∀ w, Past w0 w → Calls Tryd.prog 42 #[.agg #[v0 i, v1 i, v2 i, v3 i], .agg #[u0 i, u1 i, u2 i, u3 i]] w (SameP (ks.getD i default = ks'.getD i default) w)) (w : World) (hw : Past w0 w) :
    Calls Tryd.prog 61 #[.slice K m d, .slice K' m' d', .func (.func 42) #[] #[]] w (SameP (ks = ks') w) := by
  have HA := Lib.hid hA
  have HB := Lib.hid hB
  have HIH := Lib.hid ih
  have HW := Lib.hid hw
  have eg : ∀ args w, (callFunc 42 args).run Tryd.prog w = .ok (.enter 42 args) w := enters_of Tryd.func42 (by kernel_rfl) rfl
  clear hA hB ih hw
  by_cases hmm : m = m'
  · subst hmm
    go_enter Tryd.func61, Tryd.ntmps61
    go_wp2_with fail
    go_loopg [7, 8, 9, 17] m (fun k _ _ _ s17 wx => ∃ i : Nat, i ≤ m ∧ k = m - i ∧ s17 = .int .i64 (i : Int) ∧ Hid (∀ l, l < i → ks.getD l default = ks'.getD l default) ∧ Hid (Past w wx))
    case atStart => exact ⟨0, Nat.zero_le _, rfl, rfl, fun l hl => absurd hl (Nat.not_lt_zero _), Below.refl _ _⟩
    case round =>
      obtain ⟨i, hi, hgk, rfl, HE, HP⟩ := hrel
      have HGK := Lib.hid hgk
      clear hgk
      by_cases hlt : i < m
      · obtain ⟨b, o, rfl⟩ := HA.out.addr (by omega)
        obtain ⟨b', o', rfl⟩ := HB.out.addr (by omega)
        have hpp := HW.out.trans' HP.out
        obtain ⟨kd, nm, kA, kn, kc, kK, km, kdd, ⟨e0, e1, e2, e3⟩, c0, c1, c2, c3⟩ := HA.out.at hpp hlt
        obtain ⟨kd', nm', kA', kn', kc', kK', km', kdd', ⟨e0', e1', e2', e3'⟩, c4, c5, c6, c7⟩ := HB.out.at hpp hlt
        have hkc := fun wz (hz : Past wr wz) => HIH.out i hlt hlt wz (hpp.trans' hz)
        rw [e0, e1, e2, e3, e0', e1', e2', e3'] at hkc
        have d4 := Lib.cell?_alloc_some (.cells #[.int .i64 kd, .int .u64 nm, .slice kA kn kc, .slice kK km kdd] 27) c4
        have d5 := Lib.cell?_alloc_some (.cells #[.int .i64 kd, .int .u64 nm, .slice kA kn kc, .slice kK km kdd] 27) c5
        have d6 := Lib.cell?_alloc_some (.cells #[.int .i64 kd, .int .u64 nm, .slice kA kn kc, .slice kK km kdd] 27) c6
        have d7 := Lib.cell?_alloc_some (.cells #[.int .i64 kd, .int .u64 nm, .slice kA kn kc, .slice kK km kdd] 27) c7
        have HK := Lib.hid hkc
        clear hpp hkc e0 e1 e2 e3 e0' e1' e2' e3'
        have hi0 : (0 : Int) ≤ (i : Int) := by omega
        have him : (i : Int) < (m : Int) := by omega
        go_wp2_with fail
        refine (HK.out _ ((past_alloc8 wr _).trans' (past_alloc8 _ _))).mono ?_
        rintro e w2 ⟨r, rfl, hr, hp'⟩
        have HP2 : Hid (Past w w2) := HP.out.trans' (((past_alloc8 wr _).trans' (past_alloc8 _ _)).trans' hp')
        have HRR := Lib.hid hr
        clear hp' HP HK hr d4 d5 d6 d7 c0 c1 c2 c3 c4 c5 c6 c7
        cases r with
        | true =>
          have HE2 : Hid (∀ l, l < i + 1 → ks.getD l default = ks'.getD l default) := fun l hl => by
            by_cases he : l = i
            · subst he
              exact HRR.out.1 rfl
            · exact HE.out l (by omega)
          go_wp2_with fail
          go_roundg (m - (i + 1))
          case rel => exact ⟨i + 1, by omega, rfl, by go_num, HE2, HP2⟩
          case measure => have := HGK.out; omega
        | false =>
          have HF : Hid (¬ ks = ks') := fun h => by
            have h1 := HRR.out.2 (by rw [h])
            cases h1
          go_wp2_with fail
          go_ret
          exact ⟨false, rfl, ⟨(fun e => by cases e), fun e => absurd e HF.out⟩, HP2.out⟩
      · obtain rfl : i = m := by omega
        have hkk : Hid (ks = ks') := list_extT (by rw [HA.out.len, HB.out.len]) fun l hl => HE.out l (by rw [← HA.out.len]; exact hl)
        go_wp2_with fail
        go_ret
        exact ⟨true, rfl, ⟨fun _ => hkk.out, fun _ => rfl⟩, HP.out⟩
  · have HF : Hid (¬ ks = ks') := fun h => hmm (by rw [← HA.out.len, ← HB.out.len, h])
    have hne : ((m : Int) != (m' : Int)) = true := by simp; omega
    clear hmm
    go_enter Tryd.func61, Tryd.ntmps61
    go_wp2_with fail
    go_ret
    exact ⟨false, rfl, ⟨(fun e => by cases e), fun e => absurd e HF.out⟩, Below.refl _ _⟩

set_option maxHeartbeats 2000000 in
set_option maxRecDepth 100000 in
theorem csame_any {w0 : World} {v : Value} {t : T} (h : InM w0 v t) : ∀ v2 t2, InM w0 v2 t2 → ∀ w, Past w0 w → cnt t ≤ 1000000000 →
    Calls Tryd.prog 42 #[v, v2] w (SameP (t = t2) w) := by
  induction h with
  | mk v0 v1 v2 v3 ht hu hb hl hm hd h0 hc hk ih =>
    rename_i kd nm A n c bytes K m d kids
    intro vv tt hh w hw hn
    cases hh with
    | mk u0 u1 u2 u3 ht' hu' hb' hl' hm' hd' h0' hc' hk' =>
      rename_i kd' nm' A' n' c' bytes' K' m' d' kids'
      have hmb : m ≤ 1000000000 := by
        have := len_cntL kids (1 + bytes.length)
        have : cntL kids (1 + bytes.length) ≤ 1000000000 := hn
        omega
      have hEQ := eqf_any (w0 := w0) (d := d) (d' := d') ⟨hl, hc, fun i hi => (hk i hi).shape⟩ ⟨hl', hc', fun i hi => (hk' i hi).shape⟩ hmb (fun i h1 h2 w hp => ih i h1 _ _ (hk' i h2) w hp (by have := cnt_kid kids (1 + bytes.length) i (by rw [hl]; exact h1); have : cntL kids (1 + bytes.length) ≤ 1000000000 := hn; omega))
      have HEQ := Lib.hid hEQ
      have HSM := Lib.hid (fun w1 (hp : Past w0 w1) => same_any _ _ _ _ _ _ _ _ w1 (hb.past hp) (hb'.past hp))
      have HW := Lib.hid hw
      obtain ⟨wb, hwb⟩ : ∃ wb, wb = (w.alloc (.cells #[.int .i64 kd, .int .u64 nm, .slice A n c, .slice K m d] 27)).alloc (.cells #[.int .i64 kd', .int .u64 nm', .slice A' n' c', .slice K' m' d'] 27) := ⟨_, rfl⟩
      have HR : Hid (Past w wb ∧ Row wb w.heap.size 27 #[.int .i64 kd, .int .u64 nm, .slice A n c, .slice K m d] ∧ Row wb (w.heap.size + 1) 27 #[.int .i64 kd', .int .u64 nm', .slice A' n' c', .slice K' m' d']) := by
        rw [hwb]
        refine ⟨(past_alloc8 _ _).trans' (past_alloc8 _ _), (Row.new w _ _).alloc _, ?_⟩
        have := Row.new (w.alloc (.cells #[.int .i64 kd, .int .u64 nm, .slice A n c, .slice K m d] 27)) 27 #[.int .i64 kd', .int .u64 nm', .slice A' n' c', .slice K' m' d']
        simpa using this
      have f0 : wb.cell? ⟨w.heap.size, 0, none⟩ = some (.int .i64 kd) := HR.out.2.1.cell 0
      have f1 : wb.cell? ⟨w.heap.size, 1, none⟩ = some (.int .u64 nm) := HR.out.2.1.cell 1
      have f2 : wb.cell? ⟨w.heap.size, 2, none⟩ = some (.slice A n c) := HR.out.2.1.cell 2
      have f3 : wb.cell? ⟨w.heap.size, 3, none⟩ = some (.slice K m d) := HR.out.2.1.cell 3
      have f4 : wb.cell? ⟨w.heap.size + 1, 0, none⟩ = some (.int .i64 kd') := HR.out.2.2.cell 0
      have f5 : wb.cell? ⟨w.heap.size + 1, 1, none⟩ = some (.int .u64 nm') := HR.out.2.2.cell 1
      have f6 : wb.cell? ⟨w.heap.size + 1, 2, none⟩ = some (.slice A' n' c') := HR.out.2.2.cell 2
      have f7 : wb.cell? ⟨w.heap.size + 1, 3, none⟩ = some (.slice K' m' d') := HR.out.2.2.cell 3
      subst hwb
      clear hn ih hc hc' hl hl' hk hk' hb hb' ht ht' hu hu' hw hEQ
      by_cases e1 : kd = kd'
      · subst e1
        have e1b : (kd == kd) = true := by simp
        by_cases e2 : nm = nm'
        · subst e2
          have e2b : (nm == nm) = true := by simp
          go_enter Tryd.func42, Tryd.ntmps42
          go_wp2_with fail
          clear f0 f1 f4 f5
          generalize (w.alloc (.cells #[.int .i64 kd, .int .u64 nm, .slice A n c, .slice K m d] 27)).alloc (.cells #[.int .i64 kd, .int .u64 nm, .slice A' n' c', .slice K' m' d'] 27) = wb at *
          generalize hg : w.heap.size = g at *
          refine (HSM.out _ (HW.out.trans' HR.out.1)).mono ?_
          rintro e w2 ⟨rfl, rfl⟩
          cases hsb : sameB bytes bytes' with
          | false =>
            have HF : Hid (¬ T.node kd nm bytes kids = T.node kd nm bytes' kids') := fun h => by
              rw [(node_eq.1 h).2.2.1, sameB_refl] at hsb
              cases hsb
            go_wp2_with fail
            go_ret
            exact ⟨false, rfl, ⟨(fun e => by cases e), fun e => absurd e HF.out⟩, HR.out.1⟩
          | true =>
            have HBB := Lib.hid (sameB_true hsb)
            clear hsb
            go_wp2_with fail
            refine (HEQ.out _ (HW.out.trans' HR.out.1)).mono ?_
            rintro e w3 ⟨r, rfl, hr, hp⟩
            have HFF : Hid ((r = true ↔ T.node kd nm bytes kids = T.node kd nm bytes' kids') ∧ Past w w3) := ⟨hr.trans ⟨fun h => node_eq.2 ⟨rfl, rfl, HBB.out, h⟩, fun h => (node_eq.1 h).2.2.2⟩, HR.out.1.trans' hp⟩
            clear hr hp
            go_wp2_with fail
            go_ret
            exact ⟨r, by cases r <;> rfl, HFF.out.1, HFF.out.2⟩
        · have HF : Hid (¬ T.node kd nm bytes kids = T.node kd nm' bytes' kids') := fun h => e2 (node_eq.1 h).2.1
          have e2b : (nm == nm') = false := by simpa using e2
          clear e2
          go_enter Tryd.func42, Tryd.ntmps42
          go_wp2_with fail
          go_ret
          exact ⟨false, rfl, ⟨(fun e => by cases e), fun e => absurd e HF.out⟩, HR.out.1⟩
      · have HF : Hid (¬ T.node kd nm bytes kids = T.node kd' nm' bytes' kids') := fun h => e1 (node_eq.1 h).1
        have e1b : (kd == kd') = false := by simpa using e1
        clear e1
        go_enter Tryd.func42, Tryd.ntmps42
        go_wp2_with fail
        go_ret
        exact ⟨false, rfl, ⟨(fun e => by cases e), fun e => absurd e HF.out⟩, HR.out.1⟩

theorem psame_any {v v2 : Value} {t t2 : T} {w : World} (h : InM w v t) (h2 : InM w v2 t2) (hn : cnt t ≤ 1000000000) : Calls Tryd.prog 28 #[v, v2] w (SameP (t = t2) w) := by
  have H := Lib.hid (fun w1 (hp : Past w w1) => csame_any h v2 t2 h2 w1 hp hn)
  obtain ⟨kd, nm, A, n, c, K, m, d, rfl⟩ := h.agg
  obtain ⟨kd', nm', A', n', c', K', m', d', rfl⟩ := h2.agg
  have HP : Hid (Past w ((w.alloc (.cells #[.int .i64 kd, .int .u64 nm, .slice A n c, .slice K m d] 27)).alloc (.cells #[.int .i64 kd', .int .u64 nm', .slice A' n' c', .slice K' m' d'] 27))) := (past_alloc8 _ _).trans' (past_alloc8 _ _)
  have r0 := (Row.new w 27 #[.int .i64 kd, .int .u64 nm, .slice A n c, .slice K m d]).alloc (.cells #[.int .i64 kd', .int .u64 nm', .slice A' n' c', .slice K' m' d'] 27)
  have f0 := r0.cell 0
  have f1 := r0.cell 1
  have f2 := r0.cell 2
  have f3 := r0.cell 3
  clear h h2 hn r0
  go_enter Tryd.func28, Tryd.ntmps28
  go_wp2_with fail
  refine (H.out _ HP.out).mono ?_
  rintro e w2 ⟨r, rfl, hr, hp⟩
  have HF : Hid ((r = true ↔ t = t2) ∧ Past w w2) := ⟨hr, HP.out.trans' hp⟩
  clear hr hp
  go_wp2_with fail
  go_ret
  exact ⟨r, rfl, HF.out.1, HF.out.2⟩

end Go.Proofs.YtmhgpdfllpgjpaaDoor

namespace Go.Proofs.YtmhgpdfllpgjpaaDoor
open Go.RowKit
set_option linter.unusedVariables false

/- Whether all items are as defined, but for the order of keys. -/
mutual
def shw : T → Bool
  | .node kd nm bs ks => hasB kd nm bs ks.length && shwL ks
def shwL : List T → Bool
  | [] => true
  | k :: ks => shw k && shwL ks
end
theorem shwL_snoc (t : T) : ∀ ks : List T, shwL (ks ++ [t]) = (shwL ks && shw t)
  | [] => by simp [shwL]
  | k :: ks => by simp only [List.cons_append, shwL, shwL_snoc t ks, Bool.and_assoc]
theorem shwL_app : ∀ ks ls : List T, shwL (ks ++ ls) = (shwL ks && shwL ls)
  | [], ls => by simp [shwL]
  | k :: ks, ls => by simp only [List.cons_append, shwL, shwL_app ks ls, Bool.and_assoc]
theorem shwL_at (ks : List T) (i : Nat) (h : i < ks.length) (hf : shw (ks.getD i default) = false) : shwL ks = false := by
  rw [← List.take_append_drop (i + 1) ks, shwL_app, take_next ks i h, shwL_snoc, hf]
  simp
theorem shwL_in (ks : List T) (i : Nat) (h : i < ks.length) (hs : shwL ks = true) : shw (ks.getD i default) = true := by
  cases hk : shw (ks.getD i default) with
  | true => rfl
  | false => rw [shwL_at ks i h hk] at hs; cases hs
theorem depL_app : ∀ (a b : List T) (x : Nat), depL (a ++ b) x = depL b (depL a x)
  | [], b, x => by simp [depL]
  | k :: a, b, x => by simp only [List.cons_append, depL]; exact depL_app a b _
theorem depL_kid (ks : List T) (i : Nat) (h : i < ks.length) : max (depL (ks.take i) 1) (1 + dep (ks.getD i default)) ≤ depL ks 1 := by
  rw [← depL_snoc, ← take_next ks i h]
  have := depL_app (ks.take (i + 1)) (ks.drop (i + 1)) 1
  rw [List.take_append_drop] at this
  rw [this]
  exact depL_one _ _
/-- Whether a tree is valid below so many items, whatever the order of its keys. -/
def okA (above : Nat) (t : T) : Bool := decide (above + dep t ≤ 8 ∧ shw t = true ∧ (txt t).length ≤ 1048576)
/-- The head and the bytes of an item. -/
def frontB (kd nm : Int) (bs : List Int) (m : Nat) : List Int := headB kd.toNat (numOf kd nm bs.length m) ++ bs
theorem front_len (kd nm : Int) (bs : List Int) (m : Nat) : (frontB kd nm bs m).length = 1 + hsz (numOf kd nm bs.length m) + bs.length := by
  unfold frontB
  rw [List.length_append, headB_len]
theorem txt_front (kd nm : Int) (bs : List Int) (ks : List T) : txt (.node kd nm bs ks) = txtL ks (frontB kd nm bs ks.length) := rfl
/-- A kid that is not valid makes the item invalid. -/
theorem okA_kid (above : Nat) (kd nm : Int) (bs : List Int) (ks : List T) (i : Nat) (h : i < ks.length) (hk : okA (above + 1) (ks.getD i default) = false) : okA above (.node kd nm bs ks) = false := by
  refine decide_eq_false fun ⟨h1, h2, h3⟩ => of_decide_eq_false hk ⟨?_, ?_, ?_⟩
  · have h4 : depL ks 1 = dep (.node kd nm bs ks) := rfl
    have := depL_kid ks i h
    omega
  · have h5 : shw (.node kd nm bs ks) = (hasB kd nm bs ks.length && shwL ks) := rfl
    rw [h5, Bool.and_eq_true] at h2
    exact shwL_in ks i h h2.2
  · have := txt_kid ks (frontB kd nm bs ks.length) i h
    rw [txt_front] at h3
    omega

/-- What size hands back. -/
def SizeP (above : Nat) (t : T) (w : World) (e : Ending) (w' : World) : Prop :=
  (∃ k : Int, e = .returned (.tuple #[.int .i64 k, .bool (okA above t)]) ∧ (0 ≤ k ∧ k ≤ 18000000) ∧ (okA above t = true → k = ((txt t).length : Int))) ∧ Past w w'
/-- What the loop over the kids has found so far. -/
structure Sz (above : Nat) (fr : List Int) (kids : List T) (i : Nat) : Prop where
  shp : shwL (kids.take i) = true
  dep : above + depL (kids.take i) 1 ≤ 8
  len : i = 0 ∨ (txtL (kids.take i) fr).length ≤ 1048576

set_option maxHeartbeats 4000000 in
set_option maxRecDepth 100000 in
theorem size_any {w0 : World} {v : Value} {t : T} (h : InM w0 v t) : ∀ (above : Nat) (w : World), Past w0 w → above ≤ 8 → cnt t ≤ 2000000 →
    Calls Tryd.prog 36 #[v, .int .i64 (above : Int)] w (SizeP above t w) := by
  induction h with
  | mk v0 v1 v2 v3 ht hu hb hl hm hd h0 hc hk ih =>
    rename_i kd nm A n c bytes K m d kids
    intro above w hw hab hn
    have htx := txt_len (.node kd nm bytes kids)
    have hcn : cntL kids (1 + bytes.length) ≤ 2000000 := hn
    have hbl := hb.len
    have hmb : m ≤ 2000000 ∧ n ≤ 2000000 := by
      have := len_cntL kids (1 + bytes.length)
      omega
    have HTX : Hid ((txtL kids (frontB kd nm bytes m)).length ≤ 18000000) := Lib.hid (by rw [← hl, ← txt_front]; omega)
    have hfl := front_len kd nm bytes m
    rw [hbl] at hfl
    have hh8 := hsz_le (numOf kd nm n m)
    have HBL := Lib.hid hfl
    have HN : Hid (cntL kids (1 + bytes.length) ≤ 2000000) := hn
    have HIH := Lib.hid ih
    have HKS : Hid (Ks w0 K m v0 v1 v2 v3 kids) := Lib.hid ⟨hl, hc, fun i hi => (hk i hi).shape⟩
    have HL := Lib.hid hl
    have HR := Lib.hid (box1 w #[.int .i64 kd, .int .u64 nm, .slice A n c, .slice K m d])
    have HW := Lib.hid hw
    have HOB : Hid (shw (.node kd nm bytes kids) = (hasB kd nm bytes m && shwL kids)) := by
      show _ = _
      rw [show shw (.node kd nm bytes kids) = (hasB kd nm bytes kids.length && shwL kids) from rfl, hl]
    have HTT : Hid (txt (.node kd nm bytes kids) = txtL kids (frontB kd nm bytes m)) := Lib.hid (by rw [txt_front, hl])
    have HD : Hid (dep (T.node kd nm bytes kids) = depL kids 1) := rfl
    have HHI := Lib.hid (fun w1 (hp : Past w0 w1) => hasIts_any kd nm A n c K m d bytes w0 w1 hp hb hu.1 (by omega))
    have HNU := Lib.hid (fun w1 => number_any kd nm A n c K m d w1 hu.1 (by omega) (by omega))
    have HFU := Lib.hid (fun w1 => further10_any (numOf kd nm n m) w1)
    have HD1 := Lib.hid (depL_one kids 1)
    clear hn ih hc hl hk hb ht hu hw htx hbl hcn
    go_enter Tryd.func36, Tryd.ntmps36
    by_cases ha8 : above = 8
    · have hge : (8 : Int) ≤ (above : Int) := by omega
      have HF : Hid (okA above (.node kd nm bytes kids) = false) := decide_eq_false fun h => by have := HD.out; have := HD1.out; omega
      go_wp2_with fail
      go_ret2
      exact ⟨⟨0, by rw [HF.out]; rfl, by omega, fun e => by rw [HF.out] at e; cases e⟩, HR.out.1⟩
    have hge : ¬ (8 : Int) ≤ (above : Int) := by omega
    go_wp2_with fail
    generalize w.alloc (.cells #[.int .i64 kd, .int .u64 nm, .slice A n c, .slice K m d] 27) = w1 at *
    obtain ⟨hR1, hR2⟩ := HR.out
    generalize hg : w.heap.size = g at *
    have HG := Lib.hid hg
    clear hg
    have f0 : w1.cell? ⟨g, 0, none⟩ = some (.int .i64 kd) := hR2.cell 0
    have f1 : w1.cell? ⟨g, 1, none⟩ = some (.int .u64 nm) := hR2.cell 1
    have f2 : w1.cell? ⟨g, 2, none⟩ = some (.slice A n c) := hR2.cell 2
    have f3 : w1.cell? ⟨g, 3, none⟩ = some (.slice K m d) := hR2.cell 3
    have HRR := Lib.hid (And.intro hR1 hR2)
    clear hR1 hR2 HR
    go_wp2_with fail
    refine (HHI.out _ (HW.out.trans' HRR.out.1)).mono ?_
    rintro e w2 ⟨rfl, hp⟩
    have H2 : Hid (Past w w2 ∧ Row w2 g 27 #[.int .i64 kd, .int .u64 nm, .slice A n c, .slice K m d]) := ⟨HRR.out.1.trans' hp, HRR.out.2.past hp⟩
    clear hp HRR HHI f0 f1 f2 f3
    cases hhs : hasB kd nm bytes m with
    | false =>
      have HF : Hid (okA above (.node kd nm bytes kids) = false) := decide_eq_false fun h => by have := h.2.1; rw [HOB.out, hhs, Bool.false_and] at this; cases this
      go_wp2_with fail
      go_ret2
      exact ⟨⟨0, by rw [HF.out]; rfl, by omega, fun e => by rw [HF.out] at e; cases e⟩, H2.out.1⟩
    | true =>
      have HS : Hid (shw (.node kd nm bytes kids) = shwL kids) := by
        show _ = _
        rw [HOB.out, hhs]
        rfl
      clear HOB hhs
      have HNU2 := Lib.hid (HNU.out w2.drew)
      have HQ2 : Hid (Past w w2.drew ∧ Row w2.drew g 27 #[.int .i64 kd, .int .u64 nm, .slice A n c, .slice K m d]) := Lib.hid ⟨H2.out.1.drewN 1, H2.out.2⟩
      have f0 : w2.drew.cell? ⟨g, 0, none⟩ = some (.int .i64 kd) := HQ2.out.2.cell 0
      have f1 : w2.drew.cell? ⟨g, 1, none⟩ = some (.int .u64 nm) := HQ2.out.2.cell 1
      have f2 : w2.drew.cell? ⟨g, 2, none⟩ = some (.slice A n c) := HQ2.out.2.cell 2
      have f3 : w2.drew.cell? ⟨g, 3, none⟩ = some (.slice K m d) := HQ2.out.2.cell 3
      generalize hnum : numOf kd nm n m = num at *
      have HNUM := Lib.hid hnum
      clear hnum
      generalize hhz : hsz num = hh at *
      have HHZ := Lib.hid hhz
      clear hhz
      have hw1 : IntKind.i64.wrap (1 + (hh : Int)) = 1 + (hh : Int) := by rw [IntKind.wrap_i64]; omega
      have hw2 : IntKind.i64.wrap (1 + (hh : Int) + (n : Int)) = 1 + (hh : Int) + (n : Int) := by rw [IntKind.wrap_i64]; omega
      go_wp2_with fail
      go_region_law (first
        | (go_simp; go_at_call 55; (with_reducible refine HNU2.out.mono ?_); rintro e w3 ⟨rfl, hp3⟩; have H3 : Hid (Past w w3 ∧ Row w3 g 27 #[.int .i64 kd, .int .u64 nm, .slice A n c, .slice K m d]) := Lib.hid ⟨HQ2.out.1.trans' hp3, HQ2.out.2.past hp3⟩; have g2 : w3.cell? ⟨g, 2, none⟩ = some (.slice A n c) := H3.out.2.cell 2; have g3 : w3.cell? ⟨g, 3, none⟩ = some (.slice K m d) := H3.out.2.cell 3; clear hp3)
        | (go_simp; go_at_call 54; (with_reducible refine (HFU.out _).mono ?_); rintro e w4 ⟨rfl, hw4⟩; subst hw4))
      all_goals
        clear hw1 hw2 f0 f1 f2 f3 HNU2 HQ2
        have H0 : Hid (Sz above (frontB kd nm bytes m) kids 0) := ⟨rfl, by show above + depL [] 1 ≤ 8; simp only [depL]; omega, .inl rfl⟩
        have hl0 : ((txtL (kids.take 0) (frontB kd nm bytes m)).length : Int) = 1 + (hh : Int) + (n : Int) := by
          show ((frontB kd nm bytes m).length : Int) = _
          rw [HBL.out]
          omega
        have HL0 := Lib.hid hl0
        clear hl0 hfl
        go_wp2_with fail
        go_loopg [6, 8, 9, 10, 29] m (fun k s6 _ _ _ s29 wx => ∃ i : Nat, i ≤ m ∧ k = m - i ∧ s6 = .int .i64 ((txtL (kids.take i) (frontB kd nm bytes m)).length : Int) ∧ s29 = .int .i64 (i : Int) ∧ Hid (Sz above (frontB kd nm bytes m) kids i) ∧ Hid (Past w wx))
        case atStart => exact ⟨0, Nat.zero_le _, rfl, by rw [HL0.out], rfl, H0, H3.out.1⟩
        case round =>
          clear H0 H2 HL0 H3 g2 g3
          obtain ⟨i, hi, hgk, rfl, rfl, HZ, HP⟩ := hrel
          have HGK := Lib.hid hgk
          clear hgk
          by_cases hlt : i < m
          · obtain ⟨b, o, rfl⟩ := HKS.out.addr (by omega)
            have hpp := HW.out.trans' HP.out
            obtain ⟨kkd, knm, kA, kn, kc, kK, km, kdd, ⟨e0, e1, e2, e3⟩, c0, c1, c2, c3⟩ := HKS.out.at hpp hlt
            have hck := cnt_kid kids (1 + bytes.length) i (by rw [HL.out]; exact hlt)
            have htk := txt_kid kids (frontB kd nm bytes m) i (by rw [HL.out]; exact hlt)
            have hkc := fun wz (hz : Past wr wz) => HIH.out i hlt (above + 1) wz (hpp.trans' hz) (by omega) (by have := HN.out; omega)
            have hcs : (txtL (kids.take i) (frontB kd nm bytes m)).length ≤ 18000000 := by have := HTX.out; omega
            have hkt : (txt (kids.getD i default)).length ≤ 18000000 := by have := HTX.out; omega
            rw [e0, e1, e2, e3] at hkc
            clear e0 e1 e2 e3
            rw [show ((above + 1 : Nat) : Int) = (above : Int) + 1 by omega] at hkc
            have HK := Lib.hid hkc
            have HTS : Hid ((txtL (kids.take (i + 1)) (frontB kd nm bytes m)).length = (txtL (kids.take i) (frontB kd nm bytes m)).length + (txt (kids.getD i default)).length) := by
              show _ = _
              rw [take_next kids i (by rw [HL.out]; exact hlt), txtL_snoc, List.length_append]
            have HTK := Lib.hid htk
            clear hpp hck hkc htk
            have hi0 : (0 : Int) ≤ (i : Int) := by omega
            have him : (i : Int) < (m : Int) := by omega
            generalize hcc : (txtL (kids.take i) (frontB kd nm bytes m)).length = cc at *
            have HCC := Lib.hid hcc
            clear hcc
            go_wp2_with fail
            refine (HK.out _ (past_alloc8 wr _)).mono ?_
            rintro e w5 ⟨⟨k, rfl, hkb, hkv⟩, hp'⟩
            have HP3 : Hid (Past w w5) := HP.out.trans' ((past_alloc8 wr _).trans' hp')
            have HKV := Lib.hid hkv
            clear hkv hp' HP HK c0 c1 c2 c3
            cases hok : okA (above + 1) (kids.getD i default) with
            | false =>
              have HF : Hid (okA above (.node kd nm bytes kids) = false) := okA_kid above kd nm bytes kids i (by rw [HL.out]; exact hlt) hok
              clear HKV hkt
              go_wp2_with fail
              go_ret2
              exact ⟨⟨0, by rw [HF.out]; rfl, by omega, fun e => by rw [HF.out] at e; cases e⟩, HP3.out⟩
            | true =>
              obtain rfl := HKV.out hok
              have HOK := of_decide_eq_true hok
              clear HKV hok
              generalize hkk : (txt (kids.getD i default)).length = kk at *
              have HKK := Lib.hid hkk
              clear hkk
              by_cases hbig : 1048576 < cc + kk
              · have hbi : (1048576 : Int) < (cc : Int) + (kk : Int) := by omega
                have HF : Hid (okA above (.node kd nm bytes kids) = false) := decide_eq_false fun h => by have := h.2.2; rw [HTT.out] at this; have := HTK.out; omega
                clear HOK hbig
                go_wp2_with fail
                go_ret2
                exact ⟨⟨0, by rw [HF.out]; rfl, by omega, fun e => by rw [HF.out] at e; cases e⟩, HP3.out⟩
              · have hbi : ¬ (1048576 : Int) < (cc : Int) + (kk : Int) := by omega
                have HZ2 : Hid (Sz above (frontB kd nm bytes m) kids (i + 1)) := by
                  refine Lib.hid ⟨?_, ?_, .inr (by rw [HTS.out]; omega)⟩
                  · rw [take_next kids i (by rw [HL.out]; exact hlt), shwL_snoc, HZ.out.shp, HOK.2.1]
                    rfl
                  · rw [take_next kids i (by rw [HL.out]; exact hlt), depL_snoc]
                    have := HZ.out.dep
                    omega
                clear HOK hbig HZ
                go_wp2_with fail
                go_roundg (m - (i + 1))
                case rel => exact ⟨i + 1, by omega, rfl, by rw [HTS.out]; rfl, by go_num, HZ2, HP3⟩
                case measure => have := HGK.out; omega
          · obtain rfl : i = m := by omega
            have he : Hid (kids.take i = kids) := by
              show _ = _
              rw [List.take_of_length_le (by rw [HL.out]; exact Nat.le_refl _)]
            rw [he.out]
            have hcb : (txtL kids (frontB kd nm bytes i)).length ≤ 18000000 := HTX.out
            have HZD : Hid (above + depL kids 1 ≤ 8) := by have := HZ.out.dep; rwa [he.out] at this
            have HZS : Hid (shwL kids = true) := by have := HZ.out.shp; rwa [he.out] at this
            have HOKE : Hid (okA above (.node kd nm bytes kids) = decide (((txtL kids (frontB kd nm bytes i)).length : Int) ≤ 1048576)) := by
              refine Lib.hid (decide_eq_decide.2 ⟨fun h => by have := h.2.2; rw [HTT.out] at this; omega, fun h => ⟨by rw [HD.out]; exact HZD.out, by rw [HS.out]; exact HZS.out, by rw [HTT.out]; omega⟩⟩)
            clear HZ he HTX
            generalize hcc : (txtL kids (frontB kd nm bytes i)).length = cc at *
            have HCC := Lib.hid hcc
            clear hcc
            go_wp2_with fail
            go_ret2
            exact ⟨⟨_, by rw [HOKE.out]; rfl, by omega, fun _ => by rw [HTT.out, HCC.out]⟩, HP.out⟩

end Go.Proofs.YtmhgpdfllpgjpaaDoor

namespace Go.Proofs.YtmhgpdfllpgjpaaDoor
open Go.RowKit
set_option linter.unusedVariables false

/-- The places of the library's table math/bits.deBruijn64tab that a size leads to. -/
structure Bru (w : World) : Prop where
  c0 : w.cell? ⟨2, 0, none⟩ = some (.int .u8 0)
  c1 : w.cell? ⟨2, 1, none⟩ = some (.int .u8 1)
  c3 : w.cell? ⟨2, 3, none⟩ = some (.int .u8 2)
  c7 : w.cell? ⟨2, 7, none⟩ = some (.int .u8 3)
theorem Bru.past {w w' : World} (h : Bru w) (hp : Past w w') : Bru w' :=
  ⟨(hp.cell (cell_lt h.c0)).trans h.c0, (hp.cell (cell_lt h.c1)).trans h.c1, (hp.cell (cell_lt h.c3)).trans h.c3, (hp.cell (cell_lt h.c7)).trans h.c7⟩
theorem tz_any (s z i : Int) (w : World) (h : w.cell? ⟨2, i.toNat, none⟩ = some (.int .u8 z)) (hz : 0 ≤ z ∧ z ≤ 3) (hs : (s = 1 ∧ i = 0) ∨ (s = 2 ∧ i = 1) ∨ (s = 4 ∧ i = 3) ∨ (s = 8 ∧ i = 7)) :
    Calls Tryd.prog 74 #[.int .u64 s] w fun e w' => e = .returned (.int .i64 z) ∧ w = w' := by
  have H1 : Calls Tryd.prog 85 #[.int .u64 s] w fun e w' => e = .returned (.int .i64 z) ∧ w = w' := by
    rcases hs with ⟨rfl, rfl⟩ | ⟨rfl, rfl⟩ | ⟨rfl, rfl⟩ | ⟨rfl, rfl⟩
    · have hA : bits .and .u64 1 (IntKind.u64.wrap (-1)) = 1 := by decide +kernel
      have hB : IntKind.u64.wrap (1 * 285870213051353865) / 288230376151711744 = 0 := by decide +kernel
      have h' : w.cell? ⟨2, 0, none⟩ = some (.int .u8 z) := h
      clear h
      go_enter Tryd.func85, Tryd.ntmps85
      go_wp2_with fail
      go_ret
      exact ⟨rfl, rfl⟩
    · have hA : bits .and .u64 2 (IntKind.u64.wrap (-2)) = 2 := by decide +kernel
      have hB : IntKind.u64.wrap (2 * 285870213051353865) / 288230376151711744 = 1 := by decide +kernel
      have h' : w.cell? ⟨2, 1, none⟩ = some (.int .u8 z) := h
      clear h
      go_enter Tryd.func85, Tryd.ntmps85
      go_wp2_with fail
      go_ret
      exact ⟨rfl, rfl⟩
    · have hA : bits .and .u64 4 (IntKind.u64.wrap (-4)) = 4 := by decide +kernel
      have hB : IntKind.u64.wrap (4 * 285870213051353865) / 288230376151711744 = 3 := by decide +kernel
      have h' : w.cell? ⟨2, 3, none⟩ = some (.int .u8 z) := h
      clear h
      go_enter Tryd.func85, Tryd.ntmps85
      go_wp2_with fail
      go_ret
      exact ⟨rfl, rfl⟩
    · have hA : bits .and .u64 8 (IntKind.u64.wrap (-8)) = 8 := by decide +kernel
      have hB : IntKind.u64.wrap (8 * 285870213051353865) / 288230376151711744 = 7 := by decide +kernel
      have h' : w.cell? ⟨2, 7, none⟩ = some (.int .u8 z) := h
      clear h
      go_enter Tryd.func85, Tryd.ntmps85
      go_wp2_with fail
      go_ret
      exact ⟨rfl, rfl⟩
  have HH := Lib.hid H1
  clear H1 h hz
  rcases hs with ⟨rfl, rfl⟩ | ⟨rfl, rfl⟩ | ⟨rfl, rfl⟩ | ⟨rfl, rfl⟩
  all_goals
    go_enter Tryd.func74, Tryd.ntmps74
    go_wp2_with fail
    refine HH.out.mono ?_
    rintro e w' ⟨rfl, rfl⟩
    go_wp2_with fail
    go_ret
    exact ⟨rfl, rfl⟩

theorem tz_hsz (n : Nat) (hn : 24 ≤ n) (w : World) (h : Bru w) : Calls Tryd.prog 74 #[.int .u64 (hsz n : Int)] w fun e w' => e = .returned (.int .i64 ((hlow n : Int) - 24)) ∧ w = w' := by
  unfold hsz hlow
  rw [if_neg (show ¬ n < 24 by omega), if_neg (show ¬ n < 24 by omega)]
  by_cases h1 : n < 256
  · rw [if_pos h1, if_pos h1]
    exact tz_any 1 0 0 w h.c0 (by omega) (by omega)
  rw [if_neg h1, if_neg h1]
  by_cases h2 : n < 65536
  · rw [if_pos h2, if_pos h2]
    exact tz_any 2 1 1 w h.c1 (by omega) (by omega)
  rw [if_neg h2, if_neg h2]
  by_cases h3 : n < 4294967296
  · rw [if_pos h3, if_pos h3]
    exact tz_any 4 2 3 w h.c3 (by omega) (by omega)
  rw [if_neg h3, if_neg h3]
  exact tz_any 8 3 7 w h.c7 (by omega) (by omega)

/-! ### Parts in a block -/
/-- Two parts in a block. -/
theorem Sls.two {w : World} {g : Nat} {t : TypeId} {A0 A1 : Option Addr} {c0 c1 : Nat} {xs ys : List Int} (hr : Row w g t #[.slice A0 xs.length c0, .slice A1 ys.length c1]) (h0 : Sl w A0 xs.length c0 xs) (h1 : Sl w A1 ys.length c1 ys) :
    Sls w (some ⟨g, 0, none⟩) 2 2 (fun i => if i = 0 then A0 else A1) (fun i => if i = 0 then c0 else c1) (fun i => if i = 0 then xs else ys) := by
  refine ⟨Nat.le_refl _, by unfold maxLen; omega, fun e => absurd e (by simp), fun _ => ⟨g, 0, rfl, fun i hi => ?_⟩⟩
  have : i = 0 ∨ i = 1 := by omega
  rcases this with rfl | rfl
  · exact ⟨hr.cell 0, h0⟩
  · exact ⟨hr.cell 1, h1⟩
theorem cat_two (xs ys : List Int) : cat (fun i => if i = 0 then xs else ys) 2 = xs ++ ys := by simp [cat, List.range_succ]

/-- What a function returns that makes bytes. -/
def BytesP (w : World) (tx : List Int) (Z : Nat) (e : Ending) (w' : World) : Prop := ∃ A c, e = .returned (.slice A Z c) ∧ Sl w' A Z c tx ∧ Past w w' ∧ ∀ b o, A = some ⟨b, o, none⟩ → 0 < Z → w.heap.size ≤ b
theorem shl5 (k : Nat) (h : k ≤ 7) : IntKind.u8.wrap ((k : Int) * 32) = ((32 * k : Nat) : Int) := by rw [IntKind.wrap_u8]; omega
theorem or_lowk (k l : Nat) (hk : k ≤ 7) (hl : l < 32) : bits .or .u8 ((32 * k : Nat) : Int) ((l : Nat) : Int) = ((32 * k + l : Nat) : Int) := by
  have h : ∀ (x : Fin 8) (y : Fin 32), bits .or .u8 ((32 * x.val : Nat) : Int) ((y.val : Nat) : Int) = ((32 * x.val + y.val : Nat) : Int) := by decide +kernel
  exact h ⟨k, by omega⟩ ⟨l, hl⟩
theorem beB_rng10 (k : Nat) (x : Int) : ∀ y ∈ beB k x, 0 ≤ y ∧ y < 256 := beB_rng k x

set_option maxHeartbeats 1000000 in
theorem head_any (k n : Nat) (hk : k ≤ 7) (hn : n < 18446744073709551616) (w : World) (hB : Bru w) :
    Calls Tryd.prog 56 #[.int .i64 (k : Int), .int .u64 (n : Int)] w (BytesP w (headB k n) (headB k n).length) := by
  have HF := Lib.hid (fun w1 => further10_any n w1)
  have hw0 : IntKind.u8.wrap (k : Int) = (k : Int) := by rw [IntKind.wrap_u8]; omega
  have hw1 := shl5 k hk
  have hln := headB_len k n
  by_cases h : n < 24
  · have h0 : hsz n = 0 := by unfold hsz; rw [if_pos h]
    have hb : headB k n = [((32 * k + n : Nat) : Int)] := by unfold headB hlow; rw [h0, if_pos h]; rfl
    have hw2 : IntKind.u8.wrap (n : Int) = (n : Int) := by rw [IntKind.wrap_u8]; omega
    have hor := or_lowk k n hk (by omega)
    have HO := Lib.hid (sl_one10 w 5 ((32 * k + n : Nat) : Int) (by omega))
    rw [h0] at HF
    rw [hb]
    clear hb h0 h hn hln hB
    generalize ((32 * k : Nat) : Int) = q at *
    generalize ((32 * k + n : Nat) : Int) = r at *
    go_enter Tryd.func56, Tryd.ntmps56
    go_wp2_with fail
    refine (HF.out _).mono ?_
    rintro e w1 ⟨rfl, rfl⟩
    go_wp2_with fail
    go_ret
    exact ⟨_, _, rfl, HO.out, past_alloc8 _ _, fun b o e _ => by injection e with e; injection e with e1 e2; omega⟩
  · have hs := hsz_le n
    have hl27 := hlow_le n
    have hs1 : 1 ≤ hsz n := by unfold hsz; rw [if_neg h]; split <;> (try split) <;> (try split) <;> omega
    have hl24 : 24 ≤ hlow n := by unfold hlow; rw [if_neg h]; split <;> (try split) <;> (try split) <;> omega
    have hws : ws (hsz n : Int) = true := by
      unfold ws hsz
      rw [if_neg h]
      repeat' split
      all_goals decide
    have hfit : ((n : Int) / 2 ^ (8 * hsz n) != 0) = false := by
      have e : (n : Int) / 2 ^ (8 * hsz n) = 0 := by
        unfold hsz
        rw [if_neg h]
        repeat' split
        all_goals exact Int.ediv_eq_zero_of_lt (by omega) (by omega)
      rw [e]
      rfl
    have HPU := Lib.hid (fun w => put_ok (hsz n) (n : Int) w hws hfit)
    have HTZ := Lib.hid (fun w1 (hp : Past w w1) => tz_hsz n (by omega) w1 (hB.past hp))
    have hor := or_lowk k (hlow n) hk (by omega)
    have hb : headB k n = [((32 * k + hlow n : Nat) : Int)] ++ beB (hsz n) (n : Int) := rfl
    have HBR := Lib.hid (beB_rng (hsz n) (n : Int))
    have hbl := beB_len (hsz n) (n : Int)
    have hrr : 0 ≤ ((32 * k + hlow n : Nat) : Int) ∧ ((32 * k + hlow n : Nat) : Int) < 256 := by omega
    have HL0 := Lib.hid hln
    obtain ⟨tx, htx⟩ : ∃ tx, headB k n = tx := ⟨_, rfl⟩
    rw [htx] at HL0 hb ⊢
    have HTX := Lib.hid hb
    have HBL := Lib.hid hbl
    clear hws hfit hb hln hB hn hbl htx
    generalize beB (hsz n) (n : Int) = B at *
    generalize hsz n = z at *
    generalize hlow n = l at *
    generalize ((32 * k + l : Nat) : Int) = r at *
    generalize ((32 * k : Nat) : Int) = q at *
    have hz0 : ((z : Int) == 0) = false := by simp; omega
    have hwz : IntKind.u64.wrap (z : Int) = (z : Int) := by rw [IntKind.wrap_u64]; omega
    have hwl : IntKind.u8.wrap (l : Int) = (l : Int) := by rw [IntKind.wrap_u8]; omega
    have hwl2 : IntKind.i64.wrap (l : Int) = (l : Int) := by rw [IntKind.wrap_i64]; omega
    have h24 : (24 : Int) + ((l : Int) - 24) = (l : Int) := by omega
    go_enter Tryd.func56, Tryd.ntmps56
    go_wp2_with fail
    refine (HF.out _).mono ?_
    rintro e w1 ⟨rfl, rfl⟩
    go_wp2_with fail
    refine (HPU.out _).mono ?_
    rintro e w1 ⟨A, c, rfl, hown, hp⟩
    rw [HBL.out] at hown ⊢
    have hsl := Sl.of_own hown HBR.out
    have HS1 := Lib.hid hsl
    have HP1 := Lib.hid hp
    clear hown hp hsl HPU HF
    go_wp2_with fail
    refine (HTZ.out _ HP1.out).mono ?_
    rintro e w2 ⟨rfl, rfl⟩
    have e2 : w1.heap.size + 1 = (w1.alloc (.cells #[.int .u8 r] 5)).heap.size := by simp
    have hJ : Calls Tryd.prog 58 #[.slice (some ⟨w1.heap.size + 1, 0, none⟩) 2 2] ((w1.alloc (.cells #[.int .u8 r] 5)).alloc (.cells #[.slice (some ⟨w1.heap.size, 0, none⟩) 1 1, .slice A z c] 22)) (Joined ((w1.alloc (.cells #[.int .u8 r] 5)).alloc (.cells #[.slice (some ⟨w1.heap.size, 0, none⟩) 1 1, .slice A z c] 22)) tx) := by
      rw [HTX.out]
      have hbl := HBL.out
      subst hbl
      have hs := Sls.two (xs := [r]) (ys := B) (Row.new (w1.alloc (.cells #[.int .u8 r] 5)) 22 #[.slice (some ⟨w1.heap.size, 0, none⟩) 1 1, .slice A B.length c]) ((sl_one10 w1 5 _ hrr).past (past_alloc8 _ _)) ((HS1.out.past (past_alloc8 _ _)).past (past_alloc8 _ _))
      rw [← e2] at hs
      have h := join_any _ 2 2 _ _ _ _ hs (by omega) (by rw [cat_two]; simp; omega)
      rw [cat_two] at h
      exact h
    have HPP : Hid (Past w ((w1.alloc (.cells #[.int .u8 r] 5)).alloc (.cells #[.slice (some ⟨w1.heap.size, 0, none⟩) 1 1, .slice A z c] 22))) := (HP1.out.trans' (past_alloc8 _ _)).trans' (past_alloc8 _ _)
    have HJ := Lib.hid hJ
    clear hJ e2 HTZ HS1 HP1
    go_wp2_with fail
    refine HJ.out.mono ?_
    rintro e w3 ⟨A2, c2, rfl, hs, hp, hf⟩
    have HH : Hid (BytesP w tx tx.length (.returned (.slice A2 tx.length c2)) w3) := Lib.hid ⟨A2, c2, rfl, hs, HPP.out.trans' hp, fun b o e h0 => by
      obtain ⟨gg, hg, hlt, _⟩ := hf h0
      rw [hg] at e
      injection e with e
      injection e with e1 e2
      have := HPP.out.size
      omega⟩
    clear hs hp hf HJ
    clear HTX HL0

    go_wp2_with fail
    go_ret
    exact HH.out

end Go.Proofs.YtmhgpdfllpgjpaaDoor
