/- For every slice of bytes and every list of operations the law WireMatchesReference of package pyxlaw01 returns true and leaves its arguments alone; there is no further condition. -/
import Derived.Test.YtjoncepjeijmoaaMatch1
import Derived.Deep.SlicePairs
namespace Go.Proofs.Ytjoncepjeijmoaa.wireMatches
open Go.ChangeShapes Go.WideShapes Go.ChangeAt Go.RowKit
set_option linter.unusedVariables false

/-- The operations that came in. -/
structure Ops (w : World) (L : Option Addr) (m e : Nat) (K N : Nat → Int) : Prop where
  cap : m ≤ e
  big : e ≤ maxLen
  cells : 0 < m → ∃ b o, L = some ⟨b, o, none⟩ ∧ ∀ i, i < m → w.cell? ⟨b, o + i * 2, none⟩ = some (.int .i64 (K i)) ∧ w.cell? ⟨b, o + i * 2 + 1, none⟩ = some (.int .i64 (N i))

theorem Ops.past {w w' : World} {L : Option Addr} {m e : Nat} {K N : Nat → Int} (h : Ops w L m e K N) (hp : Past w w') : Ops w' L m e K N :=
  ⟨h.cap, h.big, fun hn => by
    obtain ⟨b, o, rfl, hc⟩ := h.cells hn
    exact ⟨b, o, rfl, fun i hi => ⟨by rw [Below.cell hp (cell_lt (hc i hi).1)]; exact (hc i hi).1, by rw [Below.cell hp (cell_lt (hc i hi).2)]; exact (hc i hi).2⟩⟩⟩

set_option maxHeartbeats 4000000 in
set_option maxRecDepth 100000 in
theorem walk (A : Option Addr) (n c : Nat) (xs : List Int) (L : Option Addr) (m e : Nat) (K N : Nat → Int) (w : World) (hs : Sl w A n c xs) (ho : Ops w L m e K N) :
    Calls Try.prog 3 #[.slice A n c, .slice L m e] w fun e w' => e = .returned (.bool true) ∧ Past w w' := by
  have hcp := hs.cap
  have hcm := hs.big
  have hep := ho.cap
  have hem := ho.big
  unfold maxLen at hcm hem
  by_cases t1 : 300 < n
  · clear hs ho
    go_enter Try.func3, Try.ntmps3
    go_wp2_with fail
    refine (awake_any _).mono ?_
    rintro e w1 ⟨rfl, hp1⟩
    have HP := Lib.hid hp1
    clear hp1
    go_wp2_with fail
    refine (awake_any _).mono ?_
    rintro e w2 ⟨rfl, hp⟩
    replace HP := Lib.hid (HP.out.trans' hp)
    clear hp
    go_wp2_with fail
    go_ret
    exact ⟨rfl, HP.out⟩
  · by_cases t2 : 100 < m
    · clear hs ho
      go_enter Try.func3, Try.ntmps3
      go_wp2_with fail
      refine (awake_any _).mono ?_
      rintro e w1 ⟨rfl, hp1⟩
      have HP := Lib.hid hp1
      clear hp1
      go_wp2_with fail
      refine (awake_any _).mono ?_
      rintro e w2 ⟨rfl, hp⟩
      replace HP := Lib.hid (HP.out.trans' hp)
      clear hp
      go_wp2_with fail
      go_ret
      exact ⟨rfl, HP.out⟩
    · have HS := Lib.hid hs
      have HO := Lib.hid ho
      have HL := Lib.hid hs.len
      have HSW := Lib.hid hs
      have HOW := Lib.hid ho
      clear hs ho
      go_enter Try.func3, Try.ntmps3
      go_wp2_with fail
      refine (awake_any _).mono ?_
      rintro e w1 ⟨rfl, hp1⟩
      replace HS := Lib.hid (HS.out.past hp1)
      replace HO := Lib.hid (HO.out.past hp1)
      have HP := Lib.hid hp1
      clear hp1
      go_wp2_with (at_builtin; refine wpList_append_sl rfl _ _ 22 5 rfl Try.underlying22 info8 w1.heap.size _ 0 [] rfl (own_empty _ _ rfl (Nat.le_refl _)) A n c xs rfl (HS.out.past ((Below.refl _ _).alloc (Nat.le_refl _) _)) (by omega) (by simp) ?_; intro v' w2 hown hgrow)
      have hown1 : w2.ownsRow w1.heap.size 5 1 v' n (xs.map (Value.int .u8)) := by
        have h := hown
        rw [Nat.zero_add, List.nil_append] at h
        exact h
      have hp12 : Past w1 w2 := ((Below.refl _ w1).alloc (Nat.le_refl _) _).grown hgrow (by simp) (by intro q hq; have h1 : (Value.slice (some ⟨w1.heap.size, 0, none⟩) 0 0).ownBlock = some q := hq; simp [Value.ownBlock] at h1; omega)
      clear hown hgrow
      obtain ⟨G, f, rfl⟩ := own_slice hown1
      have hfm := (Sl.of_own hown1 HS.out.rng)
      have hf1 := hfm.cap
      have hf2 := hfm.big
      unfold maxLen at hf2
      refine (new_own G n f xs _ hfm (by omega)).mono ?_
      rintro e w3 ⟨g, B, d, rfl, hr, hsl, hg, hp23, hB⟩
      rw [HL.out] at hr hsl hB
      have HB : Hid (Past w1 w3 ∧ Rdr w3 g B n d 0 ∧ Sl w3 B n d xs ∧ Open w3 G n w1.heap.size w2.heap.size) := ⟨hp12.trans' hp23, hr, hsl, Open.of_own hown1 hp23⟩
      have HF : Hid (w2.heap.size ≤ g ∧ w1.heap.size ≤ w2.heap.size ∧ (0 < n → ∃ q, B = some ⟨q, 0, none⟩ ∧ w2.heap.size ≤ q)) := ⟨hg, hp12.size, hB⟩
      clear hown1 hfm hr hsl hg hp23 hB hp12
      go_wp2_with fail
      go_loopw [7] (fun i wr => ∃ q : Nat, q ≤ n ∧ i = .int .i64 q ∧ Hid (Past w1 wr ∧ Rdr wr g B n d 0 ∧ Sl wr B n d xs ∧ Open wr G n w1.heap.size w2.heap.size)) (fun i _ => n - (intOf i).toNat)
      case atStart => exact ⟨0, Nat.zero_le _, rfl, HB⟩
      case round =>
        obtain ⟨q, hq, rfl, hi⟩ := hrel
        clear HB
        by_cases hlt : q < n
        · obtain ⟨p, rfl, h1, h2, h3⟩ := hi.out.2.2.2 (by omega)
          obtain ⟨⟨x, hcell⟩, hfz⟩ := h3 q hlt
          clear h3
          have HI := Lib.hid hi.out
          clear hi
          go_wp2
          go_roundw
          case rel =>
            refine ⟨q + 1, by omega, by go_num, Lib.hid ?_⟩
            obtain ⟨i1, i2, i3, i4⟩ := HI.out
            obtain ⟨f1, f2, f3⟩ := HF.out
            refine ⟨i1.setCell h1 _, i2.far _ (by simp only; omega), i3.far _ ?_, i4.set q _⟩
            intro b o hb
            obtain ⟨q', e, hq'⟩ := f3 (by omega)
            rw [e] at hb
            injection hb with hb
            injection hb with hb
            simp only
            omega
          case measure => simp [intOf]; omega
        · have HI := Lib.hid hi.out
          clear hi
          go_wp2_with fail
          obtain ⟨i1, i2, i3, i4⟩ := HI.out
          have HI2 : Hid (Inv w (wr.alloc (.cells #[.slice A n c, .int .i64 0] 28)) g wr.heap.size A B n c d 0 0 xs) := by
            have ha : Past wr (wr.alloc (.cells #[.slice A n c, .int .i64 0] 28)) := (Below.refl _ _).alloc (Nat.le_refl _) _
            refine ⟨(HP.out.trans' i1).trans' ha, i2.past ha, i3.past ha, Row.new _ _ _, ?_, ?_, Nat.zero_le _⟩
            · have h1 := HF.out.1
              have h2 := HF.out.2.1
              have h3 := HP.out.size
              omega
            · exact (HP.out.trans' i1).size
          clear HI i1 i2 i3 i4 HF HS HO HP
          generalize hh : wr.heap.size = h at HI2 ⊢
          clear hh
          generalize wr.alloc (.cells #[.slice A n c, .int .i64 0] 28) = w4 at HI2 ⊢
          go_loopg [9] m (fun k s9 wx => ∃ i : Nat, i ≤ m ∧ k = m - i ∧ s9 = .int .i64 i ∧ Hid (∃ j, Inv w wx g h A B n c d j j xs))
          case atStart => exact ⟨0, Nat.zero_le _, rfl, rfl, ⟨0, HI2.out⟩⟩
          case round =>
            clear HI2
            obtain ⟨i, hi, hgk, rfl, hinv⟩ := hrel
            have HGK := Lib.hid hgk
            clear hgk
            by_cases hlt : i < m
            · obtain ⟨j, hinv⟩ := hinv.out
              obtain ⟨b, o, rfl, hc⟩ := HOW.out.cells (by omega)
              have hK := (hc i hlt).1
              have hN := (hc i hlt).2
              rw [← Below.cell hinv.past (cell_lt hK)] at hK
              rw [← Below.cell hinv.past (cell_lt hN)] at hN
              have HV := Lib.hid hinv
              clear hc hinv
              go_upto_block 4 with fail
              go_cut [10, 11, 12, 13, 14, 15] (fun s10 s11 s12 s13 s14 s15 wx => Mid w g h A B n c d xs s10 s11 s12 s13 s14 s15 wx)
              case first =>
                have hkn := HV.out.kn
                have hcK : Hid (∀ W, Past w W → W.cell? ⟨b, o + i * 2 + 1, none⟩ = some (.int .i64 (N i))) := by
                  apply Lib.hid
                  intro W hW
                  obtain ⟨b', o', e', hc'⟩ := HOW.out.cells (by omega)
                  injection e' with e'
                  injection e' with e1 e2
                  subst e1 e2
                  rw [Below.cell hW (cell_lt (hc' i hlt).2)]
                  exact (hc' i hlt).2
                generalize N i = NN at hN hcK
                have HSA : Hid (∀ W, Past w W → Sl W A n c xs) := fun W hW => HSW.out.past hW
                cases hk0 : (K i == 0) with
                | true =>
                  by_cases hok : 0 ≤ NN ∧ NN ≤ ((n - j : Nat) : Int)
                  · obtain ⟨p, rfl⟩ : ∃ p : Nat, NN = (p : Int) := ⟨NN.toNat, by omega⟩
                    have hpl : p ≤ n - j := by omega
                    have hyl : ((xs.drop j).take p).length ≤ n := by simp; omega
                    have hT := take_ok p _ g B n d j xs HV.out.rdr HV.out.own hkn (by omega) hpl
                    have hRT := fun W hW => rtake_ok p W A n c j xs hW hkn (by omega) hpl
                    generalize (xs.drop j).take p = ys at hT hRT hyl
                    have HYL := Lib.hid hyl
                    have HT := Lib.hid hT
                    have HRT := Lib.hid hRT
                    clear hok hyl hT hRT
                    go_wp2_with fail
                    refine HT.out.mono ?_
                    rintro e5 w5 ⟨Y, ye, rfl, hr5, hy5, ho5, hg5⟩
                    have hin := HV.out.only hg5 hr5 (by omega)
                    have HIN := Lib.hid hin
                    have HO5 := Lib.hid ho5
                    have HY5 := Lib.hid hy5
                    have hn5 := hcK.out w5 hin.past
                    have d0 : w5.cell? ⟨h, 0, none⟩ = some (.slice A n c) := hin.ref.cell 0
                    have d1 : w5.cell? ⟨h, 1, none⟩ = some (.int .i64 (j : Int)) := hin.ref.cell 1
                    clear hN hK hr5 hy5 ho5 hg5 hin
                    go_wp2_with fail
                    have HSA5 := Lib.hid (HSA.out w5 HIN.out.past)
                    go_region_law (first
                      | (go_simp; go_at_call 10; refine (HRT.out _ (HSA5.out.drewN 1)).mono ?_; rintro e7 w7 ⟨R, re, rfl, ho7, hp7⟩; have hp57 : Past w5 w7 := Past.trans' (Past.ofDrewN w5 1) hp7; have hin7 := HIN.out.later hp57; have HR7 := Lib.hid (Sl.of_own ho7 HY5.out.rng); have HP57 := Lib.hid hp57; have HI7 := Lib.hid hin7; have q0 : w7.cell? ⟨h, 0, none⟩ = some (.slice A n c) := hin7.ref.cell 0; have q1 : w7.cell? ⟨h, 1, none⟩ = some (.int .i64 (j : Int)) := hin7.ref.cell 1; have f0 := hin7.ref.fr 0; have f1 := hin7.ref.fr 1; have hn7 := hcK.out w7 hin7.past; clear ho7 hp7 hp57 hin7))
                    all_goals
                      go_wp2_with fail
                      go_meet
                      case rel => exact Mid.of true 0 HI7.out (HY5.out.past HP57.out) HR7.out (loose_of HV.out HO5.out HYL.out HP57.out)
                  · have hno : NN < 0 ∨ ((n - j : Nat) : Int) < NN := by omega
                    clear hok
                    have HNO := Lib.hid hno
                    clear hno
                    go_wp2_with fail
                    refine (take_no NN _ g B n d j HV.out.rdr hkn (by omega) HNO.out).mono ?_
                    rintro e5 w5 ⟨rfl, m5, hw5⟩
                    have hin : Inv w w5 g h A B n c d j j xs := by rw [hw5]; exact HV.out.drewN m5
                    have HIN := Lib.hid hin
                    have hn5 := hcK.out w5 hin.past
                    have d0 : w5.cell? ⟨h, 0, none⟩ = some (.slice A n c) := hin.ref.cell 0
                    have d1 : w5.cell? ⟨h, 1, none⟩ = some (.int .i64 (j : Int)) := hin.ref.cell 1
                    clear hN hK hw5 hin
                    go_wp2_with fail
                    go_region_law (first
                      | (go_simp; go_at_call 10; refine (rtake_no NN A n c j _ hkn (by omega) HNO.out).mono ?_; rintro e7 w7 ⟨rfl, hp7⟩; have hp57 : Past w5 w7 := Past.trans' (Past.ofDrewN w5 1) hp7; have hin7 := HIN.out.later hp57; have HI7 := Lib.hid hin7; have q0 : w7.cell? ⟨h, 0, none⟩ = some (.slice A n c) := hin7.ref.cell 0; have q1 : w7.cell? ⟨h, 1, none⟩ = some (.int .i64 (j : Int)) := hin7.ref.cell 1; have f0 := hin7.ref.fr 0; have f1 := hin7.ref.fr 1; have hn7 := hcK.out w7 hin7.past; clear hp7 hp57 hin7))
                    all_goals
                      go_wp2_with fail
                      go_meet
                      case rel => exact Mid.of (ys := []) false 0 HI7.out (Sl.nil _) (Sl.nil _) (loose_nil _ _ _ _ _ _)
                | false =>
                  cases hk1 : (K i == 1) with
                  | true =>
                    cases hws : ws NN with
                    | false =>
                      have HNO := Lib.hid hws
                      go_wp2_with fail
                      refine (word_bad NN _ _ HNO.out).mono ?_
                      rintro e5 w5 ⟨rfl, hw5⟩
                      have hin : Inv w w5 g h A B n c d j j xs := by rw [← hw5]; exact HV.out
                      have HIN := Lib.hid hin
                      have hn5 := hcK.out w5 hin.past
                      have d0 : w5.cell? ⟨h, 0, none⟩ = some (.slice A n c) := hin.ref.cell 0
                      have d1 : w5.cell? ⟨h, 1, none⟩ = some (.int .i64 (j : Int)) := hin.ref.cell 1
                      clear hN hK hw5 hin hws
                      go_wp2_with fail
                      go_region_law (first
                        | (go_simp; go_at_call 12; refine (rword_bad NN A n c j _ HNO.out).mono ?_; rintro e7 w7 ⟨rfl, hp7⟩; have hp57 : Past w5 w7 := Past.trans' (Past.ofDrewN w5 1) hp7; have hin7 := HIN.out.later hp57; have HI7 := Lib.hid hin7; have q0 : w7.cell? ⟨h, 0, none⟩ = some (.slice A n c) := hin7.ref.cell 0; have q1 : w7.cell? ⟨h, 1, none⟩ = some (.int .i64 (j : Int)) := hin7.ref.cell 1; have f0 := hin7.ref.fr 0; have f1 := hin7.ref.fr 1; have hn7 := hcK.out w7 hin7.past; clear hp7 hp57 hin7))
                      all_goals
                        go_wp2_with fail
                        go_meet
                        case rel => exact Mid.of (ys := []) false 0 HI7.out (Sl.nil _) (Sl.nil _) (loose_nil _ _ _ _ _ _)
                    | true =>
                      have HWS := Lib.hid hws
                      have hnn : 0 ≤ NN := by rcases ws_nat hws with h | h | h | h <;> omega
                      clear hws
                      by_cases hno : ((n - j : Nat) : Int) < NN
                      · skip
                        have HNO := Lib.hid hno
                        clear hno
                        go_wp2_with fail
                        refine (word_far NN _ g B n d j HV.out.rdr hkn (by omega) HWS.out HNO.out).mono ?_
                        rintro e5 w5 ⟨rfl, m5, hw5⟩
                        have hin : Inv w w5 g h A B n c d j j xs := by rw [hw5]; exact HV.out.drewN m5
                        have HIN := Lib.hid hin
                        have hn5 := hcK.out w5 hin.past
                        have d0 : w5.cell? ⟨h, 0, none⟩ = some (.slice A n c) := hin.ref.cell 0
                        have d1 : w5.cell? ⟨h, 1, none⟩ = some (.int .i64 (j : Int)) := hin.ref.cell 1
                        clear hN hK hw5 hin
                        go_wp2_with fail
                        go_region_law (first
                          | (go_simp; go_at_call 12; refine (rword_far NN A n c j _ HWS.out hkn (by omega) HNO.out).mono ?_; rintro e7 w7 ⟨rfl, hp7⟩; have hp57 : Past w5 w7 := Past.trans' (Past.ofDrewN w5 1) hp7; have hin7 := HIN.out.later hp57; have HI7 := Lib.hid hin7; have q0 : w7.cell? ⟨h, 0, none⟩ = some (.slice A n c) := hin7.ref.cell 0; have q1 : w7.cell? ⟨h, 1, none⟩ = some (.int .i64 (j : Int)) := hin7.ref.cell 1; have f0 := hin7.ref.fr 0; have f1 := hin7.ref.fr 1; have hn7 := hcK.out w7 hin7.past; clear hp7 hp57 hin7))
                        all_goals
                          go_wp2_with fail
                          go_meet
                          case rel => exact Mid.of (ys := []) false 0 HI7.out (Sl.nil _) (Sl.nil _) (loose_nil _ _ _ _ _ _)
                      · skip
                        obtain ⟨p, rfl⟩ : ∃ p : Nat, NN = (p : Int) := ⟨NN.toNat, by omega⟩
                        have hpl : p ≤ n - j := by omega
                        have hT := word_ok p _ g B n d j xs HV.out.rdr HV.out.own hkn hpl HWS.out
                        have hRT := fun W hW => rword_ok p W A n c j xs hW hkn (by omega) hpl HWS.out
                        generalize beI ((xs.drop j).take p) = x at hT hRT
                        have HT := Lib.hid hT
                        have HRT := Lib.hid hRT
                        clear hT hRT hno
                        go_wp2_with fail
                        refine HT.out.mono ?_
                        rintro e5 w5 ⟨rfl, m5, hw5⟩
                        have hin : Inv w w5 g h A B n c d (j + p) j xs := by rw [hw5]; exact (HV.out.drewN m5).set1 (j + p) (by omega)
                        have HIN := Lib.hid hin
                        have hn5 := hcK.out w5 hin.past
                        have d0 : w5.cell? ⟨h, 0, none⟩ = some (.slice A n c) := hin.ref.cell 0
                        have d1 : w5.cell? ⟨h, 1, none⟩ = some (.int .i64 (j : Int)) := hin.ref.cell 1
                        have HSA5 := Lib.hid (HSA.out w5 hin.past)
                        clear hN hK hw5 hin
                        go_wp2_with fail
                        go_region_law (first
                          | (go_simp; go_at_call 12; refine (HRT.out _ (HSA5.out.drewN 1)).mono ?_; rintro e7 w7 ⟨rfl, hp7⟩; have hp57 : Past w5 w7 := Past.trans' (Past.ofDrewN w5 1) hp7; have hin7 := HIN.out.later hp57; have HI7 := Lib.hid hin7; have q0 : w7.cell? ⟨h, 0, none⟩ = some (.slice A n c) := hin7.ref.cell 0; have q1 : w7.cell? ⟨h, 1, none⟩ = some (.int .i64 (j : Int)) := hin7.ref.cell 1; have f0 := hin7.ref.fr 0; have f1 := hin7.ref.fr 1; have hn7 := hcK.out w7 hin7.past; clear hp7 hp57 hin7))
                        all_goals
                          go_wp2_with fail
                          go_meet
                          case rel => exact Mid.of (ys := []) true x HI7.out (Sl.nil _) (Sl.nil _) (loose_nil _ _ _ _ _ _)
                  | false =>
                    have hyl : (xs.drop j).length ≤ n := by have := HL.out; simp; omega
                    have htk : (xs.drop j).take (n - j) = xs.drop j := List.take_of_length_le (by have := HL.out; simp; omega)
                    have hjn : j + (n - j) = n := by omega
                    have hT := rest_any _ g B n d j xs HV.out.rdr HV.out.own hkn (by omega)
                    have hRT := fun W hW => rtake_ok (n - j) W A n c j xs hW hkn (by omega) (Nat.le_refl _)
                    rw [htk, hjn] at hRT
                    have ecast : ((n - j : Nat) : Int) = (n : Int) - (j : Int) := by omega
                    rw [ecast] at hRT
                    generalize xs.drop j = ys at hT hRT hyl
                    have HYL := Lib.hid hyl
                    have HT := Lib.hid hT
                    have HRT := Lib.hid hRT
                    clear hT hRT hyl htk hjn ecast
                    go_wp2_with fail
                    refine HT.out.mono ?_
                    rintro e5 w5 ⟨Y, ye, rfl, hr5, hy5, ho5, hg5⟩
                    have hin := HV.out.only hg5 hr5 (Nat.le_refl _)
                    have HIN := Lib.hid hin
                    have HO5 := Lib.hid ho5
                    have HY5 := Lib.hid hy5
                    have d0 : w5.cell? ⟨h, 0, none⟩ = some (.slice A n c) := hin.ref.cell 0
                    have d1 : w5.cell? ⟨h, 1, none⟩ = some (.int .i64 (j : Int)) := hin.ref.cell 1
                    have HSA5 := Lib.hid (HSA.out w5 hin.past)
                    clear hN hK hr5 hy5 ho5 hg5 hin
                    go_wp2_with fail
                    refine (HRT.out _ HSA5.out).mono ?_
                    rintro e7 w7 ⟨R, re, rfl, ho7, hp7⟩
                    have hin7 := HIN.out.later hp7
                    have HR7 := Lib.hid (Sl.of_own ho7 HY5.out.rng)
                    have HP57 := Lib.hid hp7
                    have HI7 := Lib.hid hin7
                    have q0 : w7.cell? ⟨h, 0, none⟩ = some (.slice A n c) := hin7.ref.cell 0
                    have q1 : w7.cell? ⟨h, 1, none⟩ = some (.int .i64 (j : Int)) := hin7.ref.cell 1
                    have f0 := hin7.ref.fr 0
                    have f1 := hin7.ref.fr 1
                    clear ho7 hp7 hin7
                    go_wp2_with fail
                    go_meet
                    case rel => exact Mid.of true 0 HI7.out (HY5.out.past HP57.out) HR7.out (loose_of HV.out HO5.out HYL.out HP57.out)
              case rest =>
                obtain ⟨k, ys, Y, R, ye, re, bo, x, rfl, rfl, rfl, rfl, rfl, rfl, hv, hy, hr, hlo⟩ := hcut
                clear HV
                have c0 : wc.cell? ⟨h, 0, none⟩ = some (.slice A n c) := hv.ref.cell 0
                have c1 : wc.cell? ⟨h, 1, none⟩ = some (.int .i64 (k : Int)) := hv.ref.cell 1
                have hkn := hv.kn
                have hyc := hy.cap
                have hym := hy.big
                unfold maxLen at hym
                have HV := Lib.hid hv
                have HY := Lib.hid hy
                have HR := Lib.hid hr
                have HLO := Lib.hid hlo
                clear hv hy hr hlo
                go_wp2_with fail
                go_quiet ((first
                  | (go_at_call 14; exact quiet_rsame _ (HY.out.drewN _) (HR.out.drewN _))
                  | (go_at_call 15; exact quiet_at _ (HV.out.drewN _).rdr)
                  | (go_at_call 16; exact quiet_left _ (HV.out.drewN _).rdr (by omega) (by omega))))
                have HA : Hid (Away w g h B Y ys.length) := HLO.out.away
                have HC : Hid (Cells (wc.drewN nq) Y ys.length) := (HLO.out.cells HY.out)
                have HV2 : Hid (Inv w (wc.drewN nq) g h A B n c d k k xs) := HV.out.drewN nq
                clear HV HY HR HLO c0 c1
                generalize wc.drewN nq = w5 at HC HV2 ⊢
                generalize ys.length = l at HA HC hyc ⊢
                go_wp2_with fail
                go_loopg [16] l (fun t s16 wx => ∃ q : Nat, q ≤ l ∧ t = l - q ∧ s16 = .int .i64 q ∧ Hid (Inv w wx g h A B n c d k k xs ∧ Cells wx Y l))
                case atStart => exact ⟨0, Nat.zero_le _, rfl, rfl, ⟨HV2.out, HC.out⟩⟩
                case round =>
                  clear HV2 HC
                  obtain ⟨q, hq, hgk, rfl, hin⟩ := hrel
                  have HGK2 := Lib.hid hgk
                  clear hgk
                  by_cases hlq : q < l
                  · obtain ⟨p, rfl, a1, a2, a3, a4⟩ := HA.out (by omega)
                    obtain ⟨⟨y, hcell⟩, hfz⟩ := hin.out.2 p rfl q hlq
                    have HI3 := Lib.hid hin.out
                    have HA4 := Lib.hid a4
                    clear hin a4
                    go_wp2
                    go_roundg (l - (q + 1))
                    case measure => have := HGK2.out; omega
                    case rel => exact ⟨q + 1, by omega, rfl, by go_num, Lib.hid ⟨HI3.out.1.far a1 a2 a3 HA4.out _ _, HI3.out.2.set _ _ _⟩⟩
                  · have HI3 := Lib.hid hin.out.1
                    clear hin
                    go_wp2
                    go_roundg (m - (i + 1))
                    case measure => have := HGK.out; omega
                    case rel => exact ⟨i + 1, by omega, rfl, by go_num, Lib.hid ⟨k, HI3.out⟩⟩
            · go_wp2
              go_ret
              obtain ⟨j, hinv⟩ := hinv.out
              exact ⟨rfl, hinv.past⟩

/-- The operations, as they are read. -/
theorem ops_of {H : Type} {enc : TypeId × Value → H} {W : World} {a0 : Option Addr} {len0 cap0 : Nat} {d0 : DataW H} {p0 : List MemPlace}
    (h0 : DataW.Trod enc Try.prog W 0 (fun _ => true) true 23 (.slice a0 len0 cap0) d0 p0) : ∃ K N, Ops W a0 len0 cap0 K N := by
  obtain ⟨fuel, hf⟩ := h0
  rcases Go.Deep.open_slice_pairs Try.underlying23 Try.underlying31 (by kernel_rfl) rfl rfl (by kernel_rfl) (by kernel_rfl) hf with ⟨hcs, _⟩ | ⟨a, len, cap, m, n, V0, V1, D0, D1, P0, P1, hcs, _, hl, hm, hmm, _, hrow⟩
  · simp [Value.cells] at hcs
    obtain ⟨rfl, rfl, rfl⟩ := hcs
    exact ⟨fun _ => 0, fun _ => 0, Nat.le_refl _, Nat.zero_le _, fun h => absurd h (Nat.lt_irrefl 0)⟩
  · simp [Value.cells] at hcs
    obtain ⟨rfl, rfl, rfl⟩ := hcs
    simp only [if_true] at hmm
    subst hmm
    have hint : ∀ {v : Value} {y : DataW H × List MemPlace}, DataW.trod enc Try.prog W 0 (fun _ => true) true n 3 [v] = some y → v = .int .i64 (intOf v) := by
      intro v y hy
      obtain ⟨x, e0, _, _⟩ := DataW.trod_int Try.underlying3 hy
      simp at e0
      subst e0
      rfl
    refine ⟨fun i => intOf (V0 i), fun i => intOf (V1 i), hl, hm, fun hn => ?_⟩
    obtain ⟨b, o, s⟩ := a
    obtain rfl : s = none := by
      have h := (hrow 0 (by omega)).1
      simpa [Addr.add] using World.cell?_spot h
    refine ⟨b, o, rfl, fun i hi => ?_⟩
    obtain ⟨h1, h2, h3, h4⟩ := hrow i (by omega)
    rw [add_none] at h1 h2
    exact ⟨by rw [h1, ← hint h3], by rw [Nat.add_assoc, h2, ← hint h4]⟩

set_option maxRecDepth 100000 in
theorem lifted (os : Os) (started : os.Started) (H : Type) (enc : TypeId × Value → H) :
    ReturnsInHanded {} Try.checked os 3 .any (Rows.wireMatchesReferenceSpec.pre6 enc Try.prog Try.f3 Rows.wireMatchesReferenceRow.domain false) (Rows.wireMatchesReferenceSpec.post enc Try.prog Try.f3 false true false false) := by
  refine returnsInHanded_of_change (C := Try.checked) own started (by kernel_rfl) Try.func3
    (ChangeSpec.witness6 (enc := enc) (C := Try.checked) false ⟨#[], #[.slice none 0 0, .slice none 0 0], []⟩ 8 (by kernel_rfl) (by kernel_rfl) (by kernel_rfl) (by kernel_rfl)) ?_
  intro W base args ds gs before hval0 hW hcnd _
  have hval : ∀ (j : Nat) t v, Try.f3.params[j]? = some t → args[j]? = some v → Value.okWide Try.prog W .any base t v := hval0
  have hW' := hW
  obtain ⟨p, q, hA0, hV, rfl, hfz, hnd⟩ := hW
  have hA : DataW.TrodAll enc Try.prog W 0 (fun _ => true) true Try.f3.params.toList args.toList ds p := hA0
  rw [Try.params3] at hA hval
  obtain ⟨v0, vs0, d0, ds0, p0, q0, hargs, rfl, rfl, h0, r0⟩ := trodAll_cons hA
  obtain ⟨v1, vs1, d1, ds1, p1, q1, rfl, rfl, rfl, h1, r1⟩ := trodAll_cons r0
  obtain ⟨rfl, rfl, rfl⟩ := trodAll_nil r1
  obtain rfl : args = #[v0, v1] := by cases args; simp_all
  obtain ⟨rfl, rfl⟩ := trodVars_none hV
  obtain ⟨a0, len0, cap0, rfl⟩ := okWide_slice Try.underlying22 (hval 0 22 v0 rfl rfl)
  have k0 := h0
  have lt0 : ∀ x ∈ p0, x.block < W.heap.size := by obtain ⟨m, hm⟩ := k0; exact DataW.trod_lt m _ _ _ hm
  obtain ⟨z0, w0⟩ := row_of h0
  obtain ⟨a1, len1, cap1, rfl⟩ := okWide_slice Try.underlying23 (hval 1 23 v1 rfl rfl)
  have k1 := h1
  have lt1 : ∀ x ∈ p1, x.block < W.heap.size := by obtain ⟨m, hm⟩ := k1; exact DataW.trod_lt m _ _ _ hm
  obtain ⟨K, N, hops⟩ := ops_of h1
  clear hA0 hval0
  refine (walk a0 len0 cap0 _ a1 len1 cap1 K N W (Sl.of_row w0) hops).mono fun e W' ⟨he, bel⟩ => ?_
  subst he
  exact ⟨_, rfl, _, _, _, [], _, [], hW', trodAll_mk1 (shut_bool Try.underlying4 _), (trodAll_cons_mk (Below.trod laidOut (by kernel_rfl) (of_decide_eq_true (by kernel_rfl)) k0 bel lt0) (trodAll_cons_mk (Below.trod laidOut (by kernel_rfl) (of_decide_eq_true (by kernel_rfl)) k1 bel lt1) trodAll_mk0)), rfl, bel.frame _, fun h => by cases h⟩

theorem over : Rows.wireMatchesReferenceRow.holds Try.pinned (OpenSpec.ofChange Rows.wireMatchesReferenceSpec) :=
  OpenClaim.holds_of_wide 3 Try.f3 rfl rfl rfl rfl rfl rfl rfl ⟨rfl, rfl, rfl, rfl, rfl⟩ rfl rfl rfl rfl rfl (by kernel_rfl) Try.func3 (by kernel_rfl)
    (of_decide_eq_true (by kernel_rfl)) (by unfold Func.isWrapper; first | (rw [if_pos (by decide +kernel)]; kernel_rfl) | (rw [if_neg (by decide +kernel)]; exact ⟨rfl, rfl⟩))
    (fun os started H enc _ => lifted os started H enc)

theorem proved : Rows.WireMatchesReferenceSaid := over
end Go.Proofs.Ytjoncepjeijmoaa.wireMatches
