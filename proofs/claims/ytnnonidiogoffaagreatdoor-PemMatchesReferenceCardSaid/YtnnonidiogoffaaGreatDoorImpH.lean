/- Contract of the program's base64: Decode. -/
import Derived.Test.YtnnonidiogoffaaGreatDoorImpG
namespace Go.Proofs.YtnnonidiogoffaaGreatDoor
open Go.RowKit

theorem make8 (N : Nat) (hN : N ≤ 1000000) (w : World) : (Instr.makeSlice 22 (.int .i64 (N : Int)) (.int .i64 (N : Int))).run Tryz.prog w = .ok (.slice (some ⟨w.heap.size, 0, none⟩) N N) (w.alloc (.cells (madeCells #[.int .u8 0] N) 5)) := by
  obtain ⟨i0, hi, hz0, hz1, hz2⟩ := info_parts info8
  have h := run_make (P := Tryz.prog) w 22 5 i0 (.int .u8 0) Tryz.underlying22 hi hz0 .i64 .i64 (N : Int) (N : Int) (by omega) (Int.le_refl _) (by rw [hz2]; omega) (by omega)
  rw [hz1, Nat.mul_one, Int.toNat_natCast] at h
  exact h

theorem ints_extract (s : ByteArray) (a b : Nat) : ints (s.extract a b) = ((ints s).take b).drop a := by
  unfold ints
  rw [ByteArray.data_extract, Array.toList_extract, List.extract_eq_take_drop, ← List.map_take, ← List.map_drop, ← List.drop_take]
set_option maxRecDepth 100000 in
theorem slice3 (g N l m : Nat) (L H : Int) (h0 : 0 ≤ L) (h1 : L ≤ H) (h2 : H ≤ (N : Int)) (hl : L.toNat = l) (hm : H.toNat - l = m) (hm0 : 1 ≤ m) (w : World) :
    (Instr.slice 22 (.slice (some ⟨g, 0, none⟩) N N) (some (.int .i64 L)) (some (.int .i64 H)) (some (.int .i64 H))).run Tryz.prog w = .ok (.slice (some ⟨g, l, none⟩) m m) w := by
  rw [run_slice_lhm w 22 (some ⟨g, 0, none⟩) N N Tryz.underlying22 .i64 .i64 .i64 L H H h0 h1 (Int.le_refl _) h2]
  have hs : (sizeOf (Tryz.prog.elem 22)).run Tryz.prog w = .ok 1 w := by kernel_rfl
  rw [hs]
  simp only [Result.andThen, sliced, hl, hm]
  rw [if_neg (by omega), Option.map_some, Nat.mul_one, add_none, Nat.zero_add]
set_option maxRecDepth 100000 in
theorem sliceAt3 (g N l m : Nat) (L H : Int) (h0 : 0 ≤ L) (h1 : L ≤ H) (h2 : H ≤ (N : Int)) (hl : L.toNat = l) (hm : H.toNat - l = m) (hm0 : 1 ≤ m) (w : World) :
    (Instr.sliceAt 22 (.slice (some ⟨g, 0, none⟩) N N) (some (.int .i64 L)) (some (.int .i64 H)) (some (.int .i64 H))).run Tryz.prog w = .ok (.slice (some ⟨g, l, none⟩) m m) w := by
  rw [run_sliceAt_slice w 22 _ _ _ _ Tryz.underlying22]
  exact slice3 g N l m L H h0 h1 h2 hl hm hm0 w
theorem strslice (s : ByteArray) (l b : Nat) (L H : Int) (h0 : 0 ≤ L) (h1 : L ≤ H) (h2 : H ≤ (s.size : Int)) (hl : L.toNat = l) (hb : H.toNat = b) (w : World) :
    (Instr.slice 9 (.string s) (some (.int .i64 L)) (some (.int .i64 H)) none).run Tryz.prog w = .ok (.string (s.extract l b)) w := by
  rw [run_slice_string w 9 s .i64 .i64 L H Tryz.underlying9 h0 h1 h2, hl, hb]
theorem strsliceAt (s : ByteArray) (l b : Nat) (L H : Int) (h0 : 0 ≤ L) (h1 : L ≤ H) (h2 : H ≤ (s.size : Int)) (hl : L.toNat = l) (hb : H.toNat = b) (w : World) :
    (Instr.sliceAt 9 (.string s) (some (.int .i64 L)) (some (.int .i64 H)) none).run Tryz.prog w = .ok (.string (s.extract l b)) w := by
  rw [run_sliceAt_string w 9 _ _ _ _ Tryz.underlying9]
  exact strslice s l b L H h0 h1 h2 hl hb w
/-- What stands of the decoding behind q groups. -/
def DG (al : Int) (tl : List Int) (g N q : Nat) (w w' : World) : Prop :=
  Past w w' ∧ ∃ (ps : List Int) (cs : Array Value), ps.length = min (3 * q) N ∧ (∀ x ∈ ps, 0 ≤ x ∧ x < 256) ∧ gd al ps = tl.take (4 * q) ∧ Row w' g 5 cs ∧ cs.size = N ∧ ∀ j, j < ps.length → cs[j]? = some (.int .u8 (ps.getD j 0))

set_option maxRecDepth 100000 in
set_option maxHeartbeats 1000000 in
theorem pdecode_any (al : Int) (s : ByteArray) (w : World) (hs : s.size ≤ 100000) :
    Calls Tryz.prog 43 #[.int .i64 al, .string s] w (RDec (rdec al s) w) := by
  have HD := Lib.hid (digits_any al w)
  have HW := Lib.hid (withoutSigns_any al s w (by omega))
  cases h : isAl al with
  | false =>
    have HN : Hid (rdec al s = none) := rdec_none fun xs ha => by rw [h] at ha; cases ha
    rw [dstr_no h] at HD
    clear h
    go_enter Tryz.func43, Tryz.ntmps43
    go_wp2_with fail
    refine HD.out.mono ?_
    rintro e w1 ⟨rfl, rfl⟩
    go_wp2_with fail
    refine HW.out.mono ?_
    rintro e w1 ⟨t, rfl, _, rfl⟩
    go_wp2_with fail
    go_ret2
    rw [HN.out]
    exact ⟨rfl, Below.refl _ _⟩
  | true =>
    have hq := eqs_size (s := dstr al) (by rw [dstr_size h]; omega)
    have HG := Lib.hid (fun g o m N cs text w => readGroup_any al h g o m N cs text w)
    cases hg : tgood al (ints s) with
    | false =>
      have HN : Hid (rdec al s = none) := rdec_none fun xs _ _ hg' => by rw [hg] at hg'; cases hg'
      rw [hg] at HW
      clear hg
      generalize dstr al = ds at *
      go_enter Tryz.func43, Tryz.ntmps43
      go_wp2_with fail
      refine HD.out.mono ?_
      rintro e w1 ⟨rfl, rfl⟩
      go_wp2_with fail
      refine HW.out.mono ?_
      rintro e w1 ⟨t, rfl, _, rfl⟩
      go_wp2_with fail
      go_ret2
      rw [HN.out]
      exact ⟨rfl, Below.refl _ _⟩
    | true =>
      rw [hg] at HW
      have hlen := tlist_len al (ints s)
      rw [ints_len] at hlen
      generalize htl : tlist al (ints s) = tl at HW hlen
      by_cases h1 : tl.length % 4 = 1
      · have HN : Hid (rdec al s = none) := rdec_none fun xs _ _ _ h4 => by rw [htl] at h4; omega
        clear htl
        generalize dstr al = ds at *
        go_enter Tryz.func43, Tryz.ntmps43
        go_wp2_with fail
        refine HD.out.mono ?_
        rintro e w1 ⟨rfl, rfl⟩
        go_wp2_with fail
        refine HW.out.mono ?_
        rintro e w1 ⟨t, rfl, ht, rfl⟩
        have htz : t.size = tl.length := by rw [← ints_len, ht]
        clear ht
        go_wp2_with fail
        go_ret2
        rw [HN.out]
        exact ⟨rfl, Below.refl _ _⟩
      · generalize hds : dstr al = ds at *
        go_enter Tryz.func43, Tryz.ntmps43
        go_wp2_with fail
        refine HD.out.mono ?_
        rintro e w1 ⟨rfl, rfl⟩
        go_wp2_with fail
        refine HW.out.mono ?_
        rintro e w1 ⟨t, rfl, ht, rfl⟩
        have htz : t.size = tl.length := by rw [← ints_len, ht]
        have HT := Lib.hid ht
        clear ht
        obtain ⟨N, hN⟩ : ∃ N : Nat, N = tl.length - (tl.length + 3) / 4 := ⟨_, rfl⟩
        have hNN : (tl.length : Int) - ((tl.length : Int) + 3) / 4 = (N : Int) := by omega
        have hNle : N ≤ 100000 := by omega
        have HNN := Lib.hid hN
        clear hN
        have hmk := make8 N (by omega)
        have hf : ((tl.length : Int) % 4 == 1) = false := by simp; omega
        go_wp2_with fail
        obtain ⟨g, hgw⟩ : ∃ g, g = w.heap.size := ⟨_, rfl⟩
        have HDG : Hid (DG al tl g N 0 w (w.alloc (.cells (madeCells #[.int .u8 0] N) 5))) := by
          subst hgw
          exact ⟨(Below.refl _ _).alloc (Nat.le_refl _) _, [], _, by simp, by simp, by simp [gd, rdigs, nsix], Row.new _ _ _, size_madeCells _ _, fun j hj => absurd hj (Nat.not_lt_zero _)⟩
        have HGW : Hid (w.heap.size ≤ g) := Nat.le_of_eq hgw.symm
        rw [← hgw]
        clear hmk hgw
        go_loopg [10, 11] ((tl.length + 3) / 4) (fun k s10 s11 wx => ∃ q : Nat, q ≤ (tl.length + 3) / 4 ∧ k = (tl.length + 3) / 4 - q ∧ s10 = .int .i64 (3 * (q : Int)) ∧ s11 = .int .i64 (4 * (q : Int)) ∧ Hid (DG al tl g N q w wx))
        case atStart => exact ⟨0, Nat.zero_le _, rfl, rfl, rfl, HDG⟩
        case round =>
          clear HDG
          obtain ⟨q, hq4, hgk, rfl, rfl, HQ⟩ := hrel
          have HGK := Lib.hid hgk
          clear hgk
          by_cases hlt : 4 * q < tl.length
          · obtain ⟨m, hm⟩ : ∃ m, m = min 3 (N - 3 * q) := ⟨_, rfl⟩
            have hNv := HNN.out
            have hm0 : 1 ≤ m := by omega
            have hm3 : m ≤ 3 := by omega
            have hmm : (min (3 * (q : Int) + 3) (N : Int)).toNat - 3 * q = m := by omega
            have hmN : 3 * q + m ≤ N := by omega
            have hNext : min (3 * (q + 1)) N = 3 * q + m := by omega
            have hmin : min (3 * q) N = 3 * q := by omega
            obtain ⟨b, hb⟩ : ∃ b, b = min (4 * q + 4) tl.length := ⟨_, rfl⟩
            have hbb : (min (4 * (q : Int) + 4) (tl.length : Int)).toNat = b := by omega
            have hbm : b = 4 * q + (m + 1) := by omega
            have hbl : b ≤ tl.length := by omega
            have hix : ints (t.extract (4 * q) b) = (tl.drop (4 * q)).take 4 := by
              have e : tl.take b = tl.take (4 * q + 4) := by
                rw [List.take_eq_take_iff]
                omega
              rw [ints_extract, HT.out, e, ← List.take_drop]
            have hxz : (t.extract (4 * q) b).size = m + 1 := by
              rw [← ints_len, hix, List.length_take, List.length_drop]
              omega
            obtain ⟨hP, ps, cs, hp1, hp2, hp3, hp4, hp5, hp6⟩ := HQ.out
            rw [hmin] at hp1
            have HC := Lib.hid (fun W (hW : Row W g 5 cs) => HG.out g (3 * q) m N cs (t.extract (4 * q) b) W hW hp5 hmN hxz hm0 hm3)
            rw [hix] at HC
            have HK : Hid (∀ W W' e, Past w W → RG al ((tl.drop (4 * q)).take 4) g (3 * q) m N cs W e W' → ∃ r : Bool, e = .returned (.bool r) ∧ if r = true then DG al tl g N (q + 1) w W' else (rdec al s = none ∧ Past w W')) := by
              clear hP
              rintro W W' e hP ⟨hgr, (⟨rfl, p, cs2, k1, k2, k3, k4, k5, k6, k7⟩ | ⟨rfl, hno⟩)⟩
              · refine ⟨true, rfl, ?_⟩
                rw [if_pos rfl]
                refine ⟨past_of_only hP hgr hP.size HGW.out, ps ++ p, cs2, by rw [List.length_append, hp1, k1, hNext], ?_, ?_, k4, k5, ?_⟩
                · intro x hx
                  rcases List.mem_append.1 hx with hx | hx
                  · exact hp2 x hx
                  · exact k2 x hx
                · rw [gd_join al ps p q hp1, hp3, k3, show 4 * (q + 1) = 4 * q + 4 by omega, List.take_add]
                · intro j hj
                  rw [List.length_append, hp1, k1] at hj
                  by_cases hjq : j < 3 * q
                  · rw [k6 j hjq, hp6 j (by omega), List.getD_eq_getElem?_getD, List.getD_eq_getElem?_getD, List.getElem?_append_left (by omega)]
                  · have := k7 (j - 3 * q) (by omega)
                    rw [show 3 * q + (j - 3 * q) = j by omega] at this
                    rw [this, List.getD_eq_getElem?_getD, List.getD_eq_getElem?_getD, List.getElem?_append_right (by omega), hp1]
              · refine ⟨false, rfl, ?_⟩
                rw [if_neg (by decide)]
                refine ⟨?_, past_of_only hP hgr hP.size HGW.out⟩
                refine rdec_none fun xs _ hr _ _ hx => ?_
                rw [htl] at hx
                have hxl : xs.length = N := by
                  have := congrArg List.length hx
                  rw [gd_len] at this
                  unfold nsix at this
                  omega
                have hmid := gd_mid (al := al) (xs := xs) q (by omega)
                rw [hx] at hmid
                exact hno ((xs.drop (3 * q)).take 3) (by simp; omega) (fun x hx => hr x (List.mem_of_mem_drop (List.mem_of_mem_take hx))) hmid.symm
            have hb1 : 3 * (q : Int) ≤ min (3 * (q : Int) + 3) (N : Int) := by omega
            have hb2 : min (3 * (q : Int) + 3) (N : Int) ≤ (N : Int) := by omega
            have hb3 : 0 ≤ min (3 * (q : Int) + 3) (N : Int) := by omega
            have hb4 : 4 * (q : Int) ≤ min (4 * (q : Int) + 4) (tl.length : Int) := by omega
            have hb5 : min (4 * (q : Int) + 4) (tl.length : Int) ≤ (tl.length : Int) := by omega
            have hb6 : 0 ≤ min (4 * (q : Int) + 4) (tl.length : Int) := by omega
            have hsl := slice3 g N (3 * q) m (3 * (q : Int)) (min (3 * (q : Int) + 3) (N : Int)) (by omega) hb1 hb2 (by omega) hmm hm0
            have hsa := sliceAt3 g N (3 * q) m (3 * (q : Int)) (min (3 * (q : Int) + 3) (N : Int)) (by omega) hb1 hb2 (by omega) hmm hm0
            have htl1 := strslice t (4 * q) b (4 * (q : Int)) (min (4 * (q : Int) + 4) (tl.length : Int)) (by omega) hb4 (by rw [htz]; exact hb5) (by omega) hbb
            have htl2 := strsliceAt t (4 * q) b (4 * (q : Int)) (min (4 * (q : Int) + 4) (tl.length : Int)) (by omega) hb4 (by rw [htz]; exact hb5) (by omega) hbb
            have hwr : IntKind.i64.wrap (4 * (q : Int) + 4) = 4 * (q : Int) + 4 := by rw [IntKind.wrap_i64]; omega
            have HPD : Hid (Past w wr.drew) := hP.drewN 1
            have HR := Lib.hid hp4
            clear hP hp1 hp2 hp3 hp4 hp5 hp6 hm hb hix hNv hNext hmin HQ htl hbm
            go_wp2_with fail
            go_region_law (first
              | (go_simp; refine (HC.out _ (show Row wr.drew g 5 cs from HR.out)).mono ?_; rintro e7 w7 h7; obtain ⟨r, rfl, h8⟩ := HK.out _ w7 e7 HPD.out h7; have HQ2 := Lib.hid h8; clear h7 h8))
            cases r with
            | true =>
              have HQ2 : Hid (DG al tl g N (q + 1) w w7) := HQ2.out
              go_wp2_with fail
              go_roundg ((tl.length + 3) / 4 - (q + 1))
              case rel => exact ⟨q + 1, by omega, rfl, by first | go_num | (congr 1; omega), by first | go_num | (congr 1; omega), HQ2⟩
              case measure => have := HGK.out; omega
            | false =>
              have HQ2 : Hid (rdec al s = none ∧ Past w w7) := HQ2.out
              go_wp2_with fail
              go_ret2
              rw [HQ2.out.1]
              exact ⟨rfl, HQ2.out.2⟩
          · have HF : Hid (∃ ps, rdec al s = some ps ∧ Sl wr (some ⟨g, 0, none⟩) N N ps ∧ Past w wr) := by
              obtain ⟨hP, ps, cs, hp1, hp2, hp3, hp4, hp5, hp6⟩ := HQ.out
              have hNv := HNN.out
              rw [List.take_of_length_le (by omega)] at hp3
              have hpl : ps.length = N := by omega
              refine ⟨ps, rdec_some h hp2 hg (by rw [htl]; exact hp3), ⟨hpl, Nat.le_refl _, by unfold maxLen; omega, fun _ => ⟨g, 0, rfl, fun i hi => ?_⟩, hp2, fun e => by cases e⟩, hP⟩
              rw [Nat.zero_add, hp4.cell]
              exact hp6 i (by omega)
            clear HQ
            go_wp2_with fail
            go_ret2
            obtain ⟨ps, h5, h6, h7⟩ := HF.out
            rw [h5]
            exact ⟨_, _, _, rfl, h6, h7⟩

end Go.Proofs.YtnnonidiogoffaaGreatDoor
