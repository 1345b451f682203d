/- The reference's Unpack (layer 5): what it returns is its own. -/
import Derived.Test.YteflpbkdnebopaaGreatDoorRef5A
namespace Go.Proofs.YteflpbkdnebopaaGreatDoor
open Go.RowKit
set_option linter.unusedVariables false
set_option maxRecDepth 100000

/-- What a function returns that finds numbers or none: in memory of its own. -/
def NOptO (o : Option (List Int)) (w : World) (e : Ending) (w' : World) : Prop :=
  match o with
  | none => e = .returned (.tuple #[.slice none 0 0, .bool false]) ∧ Past w w'
  | some xs => ∃ A n c, e = .returned (.tuple #[.slice A n c, .bool true]) ∧ w'.ownsRow w.heap.size 22 1 (.slice A n c) n (xs.map (Value.int .u32)) ∧ Past w w'
set_option maxHeartbeats 4000000 in
theorem runpack_own (d n : Int) (A : Option Addr) (L c : Nat) (xs : List Int) (w : World) (hS : Sl w A L c xs) (hL : L ≤ 10000) :
    Calls Tryz.prog 30 #[.int .i64 d, .int .i64 n, .slice A L c] w (NOptO (runpack d n xs) w) := by
  have HSZ := Lib.hid (rsize_any d n)
  have hlen := hS.len
  by_cases hbad : d < 1 ∨ 32 < d ∨ n < 0 ∨ 1048576 < n
  · have ho : runpack d n xs = none := by
      unfold runpack
      rw [if_pos]
      rcases hbad with h | h | h | h
      · exact .inl h
      · exact .inr (.inl h)
      · exact .inr (.inr (.inl h))
      · exact .inr (.inr (.inr (.inl h)))
    rw [ho]
    clear ho
    rcases hbad with h1 | h1 | h1 | h1
    all_goals
      go_enter Tryz.func30, Tryz.ntmps30
      go_wp2_with fail
      all_goals
        go_ret2
        exact ⟨rfl, Below.refl _ _⟩
  · obtain ⟨D, rfl⟩ : ∃ D : Nat, d = (D : Int) := ⟨d.toNat, by omega⟩
    obtain ⟨N, rfl⟩ : ∃ N : Nat, n = (N : Int) := ⟨n.toNat, by omega⟩
    have hD1 : 1 ≤ D := by omega
    have hD2 : D ≤ 32 := by omega
    have hN2 : N ≤ 1048576 := by omega
    clear hbad
    by_cases hz : (L : Int) = sizeI D N
    · have hzz : sizeI (D : Int) (N : Int) = ((D : Int) * (N : Int) + 7) / 8 := by unfold sizeI; rw [if_neg (by omega)]
      have hM0 : ((D * N : Nat) : Int) = (D : Int) * (N : Int) := Int.natCast_mul D N
      obtain ⟨M, hM⟩ : ∃ M : Nat, D * N = M := ⟨_, rfl⟩
      rw [hM] at hM0
      have hLM : 8 * L = M + (8 - M % 8) % 8 := by
        rw [hzz, ← hM0] at hz
        omega
      have hNM : N ≤ M := by
        rw [← hM]
        exact Nat.le_mul_of_pos_left N hD1
      have hO : runpack (D : Int) (N : Int) xs = if ∃ p, p < 8 * L ∧ M ≤ p ∧ lbit xs p ≠ 0 then none else some (nums D xs N) := by
        unfold runpack
        simp only [Int.toNat_natCast, hlen, hM]
        by_cases hx : ∃ p, p < 8 * L ∧ M ≤ p ∧ lbit xs p ≠ 0
        · rw [if_pos hx, if_pos (.inr (.inr (.inr (.inr (.inr hx)))))]
        · rw [if_neg hx, if_neg]
          rintro (h | h | h | h | h | h)
          · omega
          · omega
          · omega
          · omega
          · exact h hz
          · exact hx h
      have HO := Lib.hid hO
      have hmul : ∀ i, i ≤ N → D * i ≤ M := fun i hi => by rw [← hM]; exact Nat.mul_le_mul_left D hi
      have HMUL := Lib.hid hmul
      have HBI := Lib.hid (fun w (h : Sl w A L c xs) => rbits_any A L c xs w h (by omega))
      have HS := Lib.hid hS
      have hzb : ((L : Int) != sizeI D N) = false := by simpa using hz
      have HM := Lib.hid hM
      have HLM := Lib.hid hLM
      clear hO hmul hS hz hzz hM hLM
      generalize sizeI (D : Int) (N : Int) = z at *
      obtain ⟨i32, hi32, hy0, hy1, hy2⟩ := info_parts info32
      go_enter Tryz.func30, Tryz.ntmps30
      go_wp2_with fail
      refine (HSZ.out _).mono ?_
      rintro e w' ⟨rfl, rfl⟩
      go_wp2_with fail
      refine (HBI.out _ HS.out).mono ?_
      rintro e w1 ⟨v, rfl, ho, hp⟩
      obtain ⟨BA, bc, rfl⟩ := own_slice ho
      have HBO := Lib.hid (And.intro ho hp)
      clear ho hp
      go_wp2_with fail
      go_loopg [9, 10] N (fun k s9 s10 wx => ∃ i : Nat, i ≤ N ∧ k = N - i ∧ s10 = .int .i64 (i : Int) ∧ Hid (wx.ownsRow w1.heap.size 22 1 s9 i ((nums D xs i).map (Value.int .u32)) ∧ Past w1 wx))
      case atStart => exact ⟨0, Nat.zero_le _, rfl, rfl, ⟨rfl, .inl ⟨rfl, rfl⟩⟩, Below.refl _ _⟩
      case round =>
        obtain ⟨i, hi, hgk, rfl, HQ⟩ := hrel
        have HGK := Lib.hid hgk
        clear hgk
        obtain ⟨wo, rfl⟩ : ∃ wo : World, wo = wr := ⟨_, rfl⟩
        by_cases hlt : i < N
        · obtain ⟨P, hP⟩ : ∃ P : Nat, D * i = P := ⟨_, rfl⟩
          have hPI : (i : Int) * (D : Int) = (P : Int) := by rw [← hP, Int.natCast_mul, Int.mul_comm]
          have hPM : P + D ≤ M := by
            have := HMUL.out (i + 1) (by omega)
            rw [Nat.mul_succ, hP] at this
            exact this
          have HNS : Hid (nums D xs (i + 1) = nums D xs i ++ [hiN (lbit xs) P D D]) := by
            show _ = _
            rw [nums_succ, hP]
          have hML : M ≤ 8 * L := by have := HLM.out; omega
          obtain ⟨g, rfl, hbc, hbm, hcell⟩ := own_cell (by rw [lbits_len]) HBO.out.1 (by omega)
          have HCELL := Lib.hid hcell
          clear hcell hP
          go_wp2_with fail
          go_loopg [11, 12] D (fun k s11 s12 wx => ∃ r : Nat, r ≤ D ∧ k = r ∧ s11 = .int .u32 (hiN (lbit xs) P D (D - r)) ∧ s12 = .int .i64 ((r : Int) - 1) ∧ Hid (wx = wo))
          case atStart => exact ⟨D, Nat.le_refl _, rfl, by rw [Nat.sub_self]; rfl, by first | rfl | go_num, rfl⟩
          case round =>
            obtain ⟨r, hr, hgk, rfl, rfl, hw⟩ := hrel
            have HGK2 := Lib.hid hgk
            obtain rfl := hw.out
            clear hgk hw
            cases r with
            | zero =>
              have e1 : ((0 : Nat) : Int) - 1 = -1 := rfl
              have hv := hiN_rng (lbit xs) (lbit_rng xs) P D D
              simp only [e1, Nat.sub_zero]
              generalize hiN (lbit xs) P D D = sv at *
              obtain ⟨hv0, hv1⟩ := hv
              clear hv1
              go_wp2_with (at_builtin; refine wpList_append_own _ rfl _ _ 67 rfl w1.heap.size 22 i32 (.int .u32 0) 1 4 Tryz.underlying67 hi32 hy0 hy1 hy2 rfl (by decide) _ i _ rfl (HQ.out.1.alloc _) ⟨wr.heap.size, 0, none⟩ 1 1 [.int .u32 sv] rfl rfl ?c1 ?c2 ?c3 ?c4 ?c5 ?_)
              case c1 => exact one_cell wr _ _
              case c2 => simp [Value.oneCell']
              case c3 => unfold maxLen; omega
              case c4 => omega
              case c5 => exact Nat.le_trans HQ.out.2.size (by simp)
              intro v' w2 hown1 hgrow1 _
              have HQ2 : Hid (w2.ownsRow w1.heap.size 22 1 v' (i + 1) ((nums D xs (i + 1)).map (Value.int .u32)) ∧ Past w1 w2) := by
                rw [HNS.out, List.map_append]
                exact ⟨hown1, (HQ.out.2.trans' ((Below.refl _ _).alloc (Nat.le_refl _) _)).grown hgrow1 (Nat.le_trans HQ.out.2.size (by simp)) (own_block_ge HQ.out.1)⟩
              clear hown1 hgrow1 HQ
              go_wp2_with fail
              go_roundg (N - (i + 1))
              case rel => exact ⟨i + 1, by omega, rfl, by first | go_num | (congr 1; omega), HQ2⟩
              case measure => have := HGK.out; omega
            | succ r =>
              have e1 : ((r + 1 : Nat) : Int) - 1 = (r : Int) := by omega
              have e2 : (r : Int) - 1 = (r : Int) - 1 := rfl
              have hnx : hiN (lbit xs) P D (D - r) = 2 * hiN (lbit xs) P D (D - (r + 1)) + lbit xs (P + r) := by
                rw [show D - r = (D - (r + 1)) + 1 by omega, hiN, show D - 1 - (D - (r + 1)) = r by omega]
              have hv := hiN_rng (lbit xs) (lbit_rng xs) P D (D - (r + 1))
              have hpw : (2 : Int) ^ (D - (r + 1)) ≤ 2147483648 := by
                exact pow31 _ (by omega)
              have hc1 := HCELL.out (P + r) (by omega)
              rw [lbits_getD xs _ _ (by omega)] at hc1
              have hc2 := (HQ.out.2.cell (cell_lt hc1)).trans hc1
              obtain ⟨hb0, hb1⟩ := lbit_rng xs (P + r)
              have HNX := Lib.hid hnx
              obtain ⟨hv0, hv1⟩ := hv
              have hv2 : hiN (lbit xs) P D (D - (r + 1)) < 2147483648 := by omega
              simp only [e1]
              clear hc1 hnx hv1 hpw e1 e2
              generalize hiN (lbit xs) P D (D - (r + 1)) = sv at *
              generalize lbit xs (P + r) = bv at *
              go_wp2_with fail
              go_roundg r
              case rel => exact ⟨r, by omega, rfl, by first | (rw [HNX.out]; done) | (rw [HNX.out]; go_num) | (rw [HNX.out]; congr 1; omega), by first | rfl | go_num | (congr 1; omega), rfl⟩
              case measure => have := HGK2.out; omega
        · have hiN : N = i := by omega
          subst hiN
          have hPI : (N : Int) * (D : Int) = (M : Int) := by rw [hM0, Int.mul_comm]
          have hML : M ≤ 8 * L := by have := HLM.out; omega
          obtain ⟨OA, oc, rfl⟩ := own_slice HQ.out.1
          have HSL := Lib.hid (own_mono HQ.out.1 (show w.heap.size ≤ _ from HBO.out.2.size))
          have HPW := Lib.hid (HBO.out.2.trans' HQ.out.2)
          have HCELL : Hid (∀ p, p < 8 * L → ∃ g, BA = some ⟨g, 0, none⟩ ∧ wo.cell? ⟨g, p, none⟩ = some (.int .i64 (lbit xs p))) := fun p hp => by
            obtain ⟨g, rfl, hbc, hbm, hcell⟩ := own_cell (by rw [lbits_len]) HBO.out.1 (by omega)
            have hc1 := hcell p hp
            rw [lbits_getD xs _ _ hp] at hc1
            exact ⟨g, rfl, (HQ.out.2.cell (cell_lt hc1)).trans hc1⟩
          have hbcap : 8 * L ≤ bc ∨ L = 0 := by
            rcases Nat.eq_zero_or_pos L with h | h
            · exact .inr h
            · obtain ⟨g, _, hbc, _⟩ := own_cell (by rw [lbits_len]) HBO.out.1 (by omega)
              exact .inl hbc
          obtain ⟨w4, rfl⟩ : ∃ w4 : World, w4 = wo := ⟨_, rfl⟩
          clear HQ HBO hlt HGK
          go_wp2_with fail
          go_loopg [13] (8 * L - M) (fun k s13 wx => ∃ p : Nat, M ≤ p ∧ p ≤ 8 * L ∧ k = 8 * L - p ∧ s13 = .int .i64 (p : Int) ∧ Hid (∀ q, M ≤ q → q < p → lbit xs q = 0) ∧ Hid (wx = w4))
          case atStart => exact ⟨M, Nat.le_refl _, hML, rfl, by first | rfl | (rw [hPI]; done) | go_num, fun q h1 h2 => absurd h2 (by omega), rfl⟩
          case round =>
            obtain ⟨p, hp1, hp2, hgk, rfl, HV, hw⟩ := hrel
            have HGK := Lib.hid hgk
            obtain rfl := hw.out
            clear hgk hw
            by_cases hlt : p < 8 * L
            · obtain ⟨g, rfl, hc⟩ := HCELL.out p hlt
              have hlt2 : (p : Int) < 8 * (L : Int) := by omega
              have hpc : p < bc := by omega
              by_cases hb : lbit xs p = 0
              · rw [hb] at hc
                have HV2 : Hid (∀ q, M ≤ q → q < p + 1 → lbit xs q = 0) := fun q h1 h2 => by
                  rcases Nat.lt_succ_iff_lt_or_eq.1 h2 with h | rfl
                  · exact HV.out q h1 h
                  · exact hb
                clear hb HV
                go_wp2_with fail
                go_roundg (8 * L - (p + 1))
                case rel => exact ⟨p + 1, by omega, by omega, rfl, by first | go_num | (congr 1; omega), HV2, rfl⟩
                case measure => have := HGK.out; omega
              · have HD : Hid (runpack (D : Int) (N : Int) xs = none) := by
                  show _ = _
                  rw [HO.out, if_pos ⟨p, hlt, hp1, hb⟩]
                have hbb : (lbit xs p != 0) = true := by simpa using hb
                clear hb HV
                generalize lbit xs p = bv at *
                go_wp2_with fail
                go_ret2
                rw [HD.out]
                exact ⟨rfl, HPW.out⟩
            · have e : p = 8 * L := by omega
              subst e
              have HD : Hid (runpack (D : Int) (N : Int) xs = some (nums D xs N)) := by
                show _ = _
                rw [HO.out, if_neg]
                rintro ⟨q, h1, h2, h3⟩
                exact h3 (HV.out q h2 h1)
              go_wp2_with fail
              go_ret2
              rw [HD.out]
              exact ⟨_, _, _, rfl, HSL.out, HPW.out⟩
    · have ho : runpack D N xs = none := by
        unfold runpack
        rw [if_pos]
        right; right; right; right; left
        rw [hlen]
        exact hz
      have hzb : ((L : Int) != sizeI D N) = true := by simpa using hz
      rw [ho]
      clear ho hz
      generalize sizeI D N = z at *
      go_enter Tryz.func30, Tryz.ntmps30
      go_wp2_with fail
      refine (HSZ.out _).mono ?_
      rintro e w' ⟨rfl, rfl⟩
      go_wp2_with fail
      go_ret2
      exact ⟨rfl, Below.refl _ _⟩

end Go.Proofs.YteflpbkdnebopaaGreatDoor
