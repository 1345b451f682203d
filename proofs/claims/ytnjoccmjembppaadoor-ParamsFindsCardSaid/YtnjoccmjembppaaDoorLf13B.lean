/- The walk of the law ParamsFinds. -/
import Derived.Test.YtnjoccmjembppaaDoorLf13A
namespace Go.Proofs.YtnjoccmjembppaaDoor.paramsFinds
open Go.RowKit
set_option linter.unusedVariables false

theorem alg_all : ∀ i : Fin 25, (row13 ((i.val : Int) + 1)).alg = (i.val : Int) + 1 := by decide +kernel
theorem alg_in {a : Int} (h : 1 ≤ a ∧ a ≤ 25) : (row13 a).alg = a := by
  have := alg_all ⟨(a - 1).toNat, by omega⟩
  simp only at this
  rwa [show (((a - 1).toNat : Nat) : Int) + 1 = a by omega] at this
theorem found {a : Int} {w w' : World} {e : Ending} (h : GetP a w e w') : ∃ A n c l, e = .returned (.tuple #[.agg (setC (row13 a) (.slice A n c)), .bool (decide (0 < (row13 a).alg))]) ∧ SlK .u32 w' A n c l ∧ (∀ x ∈ l, 0 ≤ x ∧ x < 4294967296) ∧ textS l = (row13 a).text ∧ n ≤ 1000 ∧ Past w w' := by
  obtain ⟨h, hp⟩ := h
  by_cases hin : 1 ≤ a ∧ a ≤ 25
  · rw [if_pos hin] at h
    obtain ⟨A, c, rfl, hS⟩ := h
    refine ⟨A, _, c, _, ?_, hS, oid_in hin, oid_text hin, ?_, hp⟩
    · rw [show decide (0 < (row13 a).alg) = true by rw [alg_in hin]; simp; omega]
      rfl
    · have := (oid_some hin).2.2.2.1
      omega
  · rw [if_neg hin] at h
    subst h
    rw [row13_out hin]
    exact ⟨none, 0, 0, [], rfl, SlK.nil _ _, by simp, by decide +kernel, by omega, hp⟩
set_option maxHeartbeats 8000000 in
set_option maxRecDepth 100000 in
theorem walk_long (nm : ByteArray) (n t : Int) (w : World) (hz : 100 < nm.size) (hG : Glob13 w) : Calls Tryd.prog 4 #[.string nm, .int .i64 n, .int .u32 t] w fun e w' => e = .returned (.bool true) ∧ Past w w' := by
  have HG := Lib.hid hG
  have hzi : (100 : Int) < (nm.size : Int) := by omega
  clear hG
  go_enter Tryd.func4, Tryd.ntmps4
  go_wp2_with fail
  refine (awake13 w HG.out).mono ?_
  rintro e w1 ⟨rfl, hp⟩
  have H1 := Lib.hid hp
  clear hp
  go_wp2_with fail
  refine (awake13 w1 (HG.out.past H1.out)).mono ?_
  rintro e w2 ⟨rfl, hp⟩
  have H2 := Lib.hid (H1.out.trans' hp)
  clear hp
  go_wp2_with fail
  go_ret
  exact ⟨rfl, H2.out⟩
set_option maxHeartbeats 16000000 in
set_option maxRecDepth 100000 in
theorem walk_short (nm : ByteArray) (n t : Int) (w : World) (hz : nm.size ≤ 100) (hG : Glob13 w) : Calls Tryd.prog 4 #[.string nm, .int .i64 n, .int .u32 t] w fun e w' => e = .returned (.bool true) ∧ Past w w' := by
  have HG := Lib.hid hG
  have hzi : ¬ (100 : Int) < (nm.size : Int) := by omega
  have Hx := Lib.hid (fun w hG => byName_any nm w hG)
  have Hy := Lib.hid (fun w hG => byCose_any n w hG)
  have Hz := Lib.hid (fun w hG => byType_any t w hG)
  rw [← last_firstA (name_one nm)] at Hx
  rw [← last_firstA (cose_one n)] at Hy
  rw [← last_firstA (type_one t)] at Hz
  have HFx := Lib.hid (fun w e w' (h : GetP (lastA (pName nm) 25) w e w') => found h)
  have HFy := Lib.hid (fun w e w' (h : GetP (lastA (pCose n) 25) w e w') => found h)
  have HFz := Lib.hid (fun w e w' (h : GetP (lastA (pType t) 25) w e w') => found h)
  obtain ⟨rx, hrx⟩ : ∃ r, row13 (lastA (pName nm) 25) = r := ⟨_, rfl⟩
  obtain ⟨ry, hry⟩ : ∃ r, row13 (lastA (pCose n) 25) = r := ⟨_, rfl⟩
  obtain ⟨rz, hrz⟩ : ∃ r, row13 (lastA (pType t) 25) = r := ⟨_, rfl⟩
  rw [hrx] at HFx
  rw [hry] at HFy
  rw [hrz] at HFz
  have HE : Hid (row13 (lastA (pName nm) 25) = rx ∧ row13 (lastA (pCose n) 25) = ry ∧ row13 (lastA (pType t) 25) = rz) := Lib.hid ⟨hrx, hry, hrz⟩
  clear hrx hry hrz hz hG
  have HLS := Lib.hid (fun r A n c l w h h1 h2 h3 => lsame_any r A n c l w h h1 h2 h3)
  unfold setV at HLS
  go_enter Tryd.func4, Tryd.ntmps4
  go_wp2_with fail
  refine (awake13 w HG.out).mono ?_
  rintro e w1 ⟨rfl, hp⟩
  have H1 : Hid (Past w w1 ∧ True) := Lib.hid ⟨hp, trivial⟩
  clear hp
  go_wp2_with fail
  refine (Hx.out w1 (HG.out.past H1.out.1)).mono ?_
  intro e w2 he
  obtain ⟨Ax, nx, cx, lx, rfl, hs, hr, ht, hn, hp⟩ := HFx.out _ _ _ he
  obtain ⟨ga, hg⟩ : ∃ g, w2.heap.size = g := ⟨_, rfl⟩
  obtain ⟨w3, hw⟩ : ∃ w', w2.alloc (.cells (setC rx (.slice Ax nx cx)) 26) = w' := ⟨_, rfl⟩
  have hpa : Past w2 w3 := by rw [← hw]; exact past_alloc13 _ _
  have hrow : Row w3 ga 26 (setC rx (.slice Ax nx cx)) := by rw [← hw, ← hg]; exact Row.new _ _ _
  have hlt : ga < w3.heap.size := hrow.lt
  have HQx : Hid (Past w w3 ∧ ∀ w', Past w3 w' → Row w' ga 26 (setC rx (.slice Ax nx cx)) ∧ SlK .u32 w' Ax nx cx lx) := Lib.hid ⟨(H1.out.1.trans' hp).trans' hpa, fun w' h => ⟨hrow.past h, (hs.past hpa).past h⟩⟩
  have HPx : Hid (Past w1 w3) := Lib.hid (hp.trans' hpa)
  have HLx : Hid ((∀ x ∈ lx, 0 ≤ x ∧ x < 4294967296) ∧ textS lx = rx.text ∧ nx ≤ 1000) := Lib.hid ⟨hr, ht, hn⟩
  have HW := Lib.hid hw
  have HGE := Lib.hid hg
  clear hs hr ht hn hp he hg hw hpa hrow hlt Hx HFx
  go_upto_region 4 with (fail)
  rw [HW.out]
  try rw [HGE.out]
  clear HW HGE
  go_wp2_with fail
  refine (Hy.out w3 (HG.out.past HQx.out.1)).mono ?_
  intro e w4 he
  obtain ⟨Ay, ny, cy, ly, rfl, hs, hr, ht, hn, hp⟩ := HFy.out _ _ _ he
  obtain ⟨gb, hg⟩ : ∃ g, w4.heap.size = g := ⟨_, rfl⟩
  obtain ⟨w5, hw⟩ : ∃ w', w4.alloc (.cells (setC ry (.slice Ay ny cy)) 26) = w' := ⟨_, rfl⟩
  have hpa : Past w4 w5 := by rw [← hw]; exact past_alloc13 _ _
  have hrow : Row w5 gb 26 (setC ry (.slice Ay ny cy)) := by rw [← hw, ← hg]; exact Row.new _ _ _
  have hlt : gb < w5.heap.size := hrow.lt
  have HQy : Hid (Past w w5 ∧ ∀ w', Past w5 w' → Row w' gb 26 (setC ry (.slice Ay ny cy)) ∧ SlK .u32 w' Ay ny cy ly) := Lib.hid ⟨(HQx.out.1.trans' hp).trans' hpa, fun w' h => ⟨hrow.past h, (hs.past hpa).past h⟩⟩
  have HPy : Hid (Past w3 w5) := Lib.hid (hp.trans' hpa)
  have HLy : Hid ((∀ x ∈ ly, 0 ≤ x ∧ x < 4294967296) ∧ textS ly = ry.text ∧ ny ≤ 1000) := Lib.hid ⟨hr, ht, hn⟩
  have HW := Lib.hid hw
  have HGE := Lib.hid hg
  clear hs hr ht hn hp he hg hw hpa hrow hlt Hy HFy
  go_upto_region 5 with (fail)
  rw [HW.out]
  try rw [HGE.out]
  clear HW HGE
  go_wp2_with fail
  refine (Hz.out w5 (HG.out.past HQy.out.1)).mono ?_
  intro e w6 he
  obtain ⟨Az, nz, cz, lz, rfl, hs, hr, ht, hn, hp⟩ := HFz.out _ _ _ he
  obtain ⟨gc, hg⟩ : ∃ g, w6.heap.size = g := ⟨_, rfl⟩
  obtain ⟨w7, hw⟩ : ∃ w', w6.alloc (.cells (setC rz (.slice Az nz cz)) 26) = w' := ⟨_, rfl⟩
  have hpa : Past w6 w7 := by rw [← hw]; exact past_alloc13 _ _
  have hrow : Row w7 gc 26 (setC rz (.slice Az nz cz)) := by rw [← hw, ← hg]; exact Row.new _ _ _
  have hlt : gc < w7.heap.size := hrow.lt
  have HQz : Hid (Past w w7 ∧ ∀ w', Past w7 w' → Row w' gc 26 (setC rz (.slice Az nz cz)) ∧ SlK .u32 w' Az nz cz lz) := Lib.hid ⟨(HQy.out.1.trans' hp).trans' hpa, fun w' h => ⟨hrow.past h, (hs.past hpa).past h⟩⟩
  have HPz : Hid (Past w5 w7) := Lib.hid (hp.trans' hpa)
  have HLz : Hid ((∀ x ∈ lz, 0 ≤ x ∧ x < 4294967296) ∧ textS lz = rz.text ∧ nz ≤ 1000) := Lib.hid ⟨hr, ht, hn⟩
  have HW := Lib.hid hw
  have HGE := Lib.hid hg
  clear hs hr ht hn hp he hg hw hpa hrow hlt Hz HFz
  go_upto_region 6 with (fail)
  rw [HW.out]
  try rw [HGE.out]
  clear HW HGE
  obtain ⟨gx, hgx⟩ : ∃ g, w7.heap.size = g := ⟨_, rfl⟩
  obtain ⟨w8, hw8⟩ : ∃ w', w7.alloc (.cells zeroR 31) = w' := ⟨_, rfl⟩
  have pw8 : Past w7 w8 := by rw [← hw8]; exact past_alloc13 _ _
  have rw8 : Row w8 gx 31 zeroR := by rw [← hw8, ← hgx]; exact Row.new _ _ _
  obtain ⟨gy, hgy⟩ : ∃ g, w8.heap.size = g := ⟨_, rfl⟩
  obtain ⟨w9, hw9⟩ : ∃ w', w8.alloc (.cells zeroR 31) = w' := ⟨_, rfl⟩
  have pw9 : Past w8 w9 := by rw [← hw9]; exact past_alloc13 _ _
  have rw9 : Row w9 gy 31 zeroR := by rw [← hw9, ← hgy]; exact Row.new _ _ _
  obtain ⟨gz, hgz⟩ : ∃ g, w9.heap.size = g := ⟨_, rfl⟩
  obtain ⟨w10, hw10⟩ : ∃ w', w9.alloc (.cells zeroR 31) = w' := ⟨_, rfl⟩
  have pw10 : Past w9 w10 := by rw [← hw10]; exact past_alloc13 _ _
  have rw10 : Row w10 gz 31 zeroR := by rw [← hw10, ← hgz]; exact Row.new _ _ _
  have HT := Lib.hid (table_any w10)
  obtain ⟨u, hu⟩ : ∃ g, w10.heap.size = g := ⟨_, rfl⟩
  have hz8 : w8.heap.size = gx + 1 := by rw [← hw8, ← hgx]; simp
  have hz9 : w9.heap.size = gy + 1 := by rw [← hw9, ← hgy]; simp
  have hz10 : w10.heap.size = gz + 1 := by rw [← hw10, ← hgz]; simp
  have H10 : Hid (Past w7 w10 ∧ (w7.heap.size ≤ gx ∧ gx < gy ∧ gy < gz ∧ gz < u) ∧ Row w10 gx 31 zeroR ∧ Row w10 gy 31 zeroR ∧ Row w10 gz 31 zeroR) := Lib.hid ⟨(pw8.trans' pw9).trans' pw10, by omega, (rw8.past pw9).past pw10, rw9.past pw10, rw10⟩
  rw [hu] at HT
  have HW8 := Lib.hid hw8
  have HW9 := Lib.hid hw9
  have HW10 := Lib.hid hw10
  have HGX := Lib.hid hgx
  have HGY := Lib.hid hgy
  have HGZ := Lib.hid hgz
  clear hw8 hw9 hw10 hgx hgy hgz pw8 pw9 pw10 rw8 rw9 rw10 hz8 hz9 hz10 hu
  go_upto_region 7 with (fail)
  rw [HW8.out]
  try rw [HGX.out]
  go_upto_region 8 with (fail)
  rw [HW9.out]
  try rw [HGY.out]
  go_upto_region 9 with (fail)
  rw [HW10.out]
  try rw [HGZ.out]
  clear HW8 HW9 HW10 HGX HGY HGZ
  go_wp2_with fail
  refine HT.out.mono ?_
  rintro e w11 ⟨rfl, hcl, hp⟩
  have H11 : Hid (St w7 w11 gx gy gz u (row13 (lastA (pName nm) 0)) (row13 (lastA (pCose n) 0)) (row13 (lastA (pType t) 0))) := Lib.hid ⟨H10.out.1.trans' hp, H10.out.2.1, H10.out.2.2.1.past hp, H10.out.2.2.2.1.past hp, H10.out.2.2.2.2.past hp, hcl⟩
  clear hcl hp HT H10
  go_wp2_with fail
  go_loopg [17] 25 (fun q s17 wx => ∃ k : Nat, k ≤ 25 ∧ q = 25 - k ∧ s17 = .int .i64 (k : Int) ∧ Hid (St w7 wx gx gy gz u (row13 (lastA (pName nm) k)) (row13 (lastA (pCose n) k)) (row13 (lastA (pType t) k))))
  case atStart => exact ⟨0, Nat.zero_le _, rfl, rfl, H11⟩
  case round =>
    clear H11
    obtain ⟨k, hk, hq, rfl, HO⟩ := hrel
    have HQ := Lib.hid hq
    have hk0 : (0 : Int) ≤ (k : Int) := by omega
    clear hq
    by_cases hlt : k < 25
    · have HLT := Lib.hid hlt
      have hin : (k : Int) < 25 := by omega
      have hk1 : (k : Int) + 1 ≤ 26 := by omega
      have HSX : Hid (row13 (lastA (pName nm) (k + 1)) = (if ((row13 ((k : Int) + 1)).name.toList == nm.toList) = true then row13 ((k : Int) + 1) else row13 (lastA (pName nm) k))) := Lib.hid (by rw [lastA]; change _ = (if pName nm ((k : Int) + 1) = true then _ else _); split <;> rfl)
      have HSY : Hid (row13 (lastA (pCose n) (k + 1)) = (if ((row13 ((k : Int) + 1)).cose == n && n != 0) = true then row13 ((k : Int) + 1) else row13 (lastA (pCose n) k))) := Lib.hid (by rw [lastA]; change _ = (if pCose n ((k : Int) + 1) = true then _ else _); split <;> rfl)
      have HSZ : Hid (row13 (lastA (pType t) (k + 1)) = (if ((row13 ((k : Int) + 1)).typ == t && t != 0) = true then row13 ((k : Int) + 1) else row13 (lastA (pType t) k))) := Lib.hid (by rw [lastA]; change _ = (if pType t ((k : Int) + 1) = true then _ else _); split <;> rfl)
      have HLD := Lib.hid (fun wx x y z (h : St w7 wx gx gy gz u x y z) => h.load k hlt)
      have HRA := Lib.hid (fun wx x y z (h : St w7 wx gx gy gz u x y z) => h.range k hlt)
      generalize row13 (lastA (pName nm) k) = x0 at *
      generalize row13 (lastA (pCose n) k) = y0 at *
      generalize row13 (lastA (pType t) k) = z0 at *
      generalize row13 ((k : Int) + 1) = r at *
      clear hlt hk
      go_upto_region 13 with (fail)
      cases hbx : (r.name.toList == nm.toList) with
      | false =>
        have HNx : Hid (row13 (lastA (pName nm) (k + 1)) = x0) := Lib.hid (by rw [HSX.out, if_neg (by rw [hbx]; decide)])
        clear HSX
        obtain ⟨c2, c8, c9⟩ := HLD.out _ _ _ _ HO.out
        go_upto_region 15 with (fail)
        clear c2 c8 c9
        clear hbx
        rcases (show n = 0 ∨ (¬ n = 0 ∧ ¬ r.cose = n) ∨ (¬ n = 0 ∧ r.cose = n) by omega) with hv | hv | hv
        · have hb1 : (n != 0) = false := by simp [hv]
          have hb2 : (n == 0) = true := by simp [hv]
          have hb3 : decide (n = 0) = true := by simp [hv]
          have HNy : Hid (row13 (lastA (pCose n) (k + 1)) = y0) := Lib.hid (by rw [HSY.out, if_neg (by simp [hv])])
          clear hv HSY
          obtain ⟨c2, c8, c9⟩ := HLD.out _ _ _ _ HO.out
          go_upto_region 17 with (fail)
          clear c2 c8 c9
          clear hb1 hb2 hb3
          rcases (show t = 0 ∨ (¬ t = 0 ∧ ¬ r.typ = t) ∨ (¬ t = 0 ∧ r.typ = t) by omega) with hv | hv | hv
          · have hb1 : (t != 0) = false := by simp [hv]
            have hb2 : (t == 0) = true := by simp [hv]
            have hb3 : decide (t = 0) = true := by simp [hv]
            have HNz : Hid (row13 (lastA (pType t) (k + 1)) = z0) := Lib.hid (by rw [HSZ.out, if_neg (by simp [hv])])
            clear hv HSZ
            obtain ⟨c2, c8, c9⟩ := HLD.out _ _ _ _ HO.out
            go_wp2_with (fail)
            clear c2 c8 c9
            clear hb1 hb2 hb3
            go_roundg (25 - (k + 1))
            case rel => exact ⟨k + 1, HLT.out, rfl, by go_num, by rw [HNx.out, HNy.out, HNz.out]; exact HO⟩
            case measure => have := HQ.out; have := HLT.out; omega
          · obtain ⟨hv0, hv1⟩ := hv
            have hb1 : (t != 0) = true := by simp [hv0]
            have hb2 : (t == 0) = false := by simp [hv0]
            have hb4 : (r.typ == t) = false := by simp [hv1]
            have HNz : Hid (row13 (lastA (pType t) (k + 1)) = z0) := Lib.hid (by rw [HSZ.out, if_neg (by simp [hv1])])
            clear HSZ
            obtain ⟨c2, c8, c9⟩ := HLD.out _ _ _ _ HO.out
            go_wp2_with (fail)
            clear c2 c8 c9
            clear hv0 hv1 hb1 hb2 hb4
            go_roundg (25 - (k + 1))
            case rel => exact ⟨k + 1, HLT.out, rfl, by go_num, by rw [HNx.out, HNy.out, HNz.out]; exact HO⟩
            case measure => have := HQ.out; have := HLT.out; omega
          · obtain ⟨hv0, hv1⟩ := hv
            have hb1 : (t != 0) = true := by simp [hv0]
            have hb2 : (t == 0) = false := by simp [hv0]
            have hb4 : (r.typ == t) = true := by simp [hv1]
            have hb5 : decide (r.typ = t) = true := by simp [hv1]
            have HNz : Hid (row13 (lastA (pType t) (k + 1)) = r) := Lib.hid (by rw [HSZ.out, if_pos (by simp [hv0, hv1])])
            clear HSZ hv1
            obtain ⟨c2, c8, c9⟩ := HLD.out _ _ _ _ HO.out
            have hrg := HRA.out _ _ _ _ HO.out
            have hrow := HO.out.rz
            obtain ⟨W3, hW⟩ : ∃ W, wr.setRow gz (refC r).toArray = W := ⟨_, rfl⟩
            have HO2 : Hid (St w7 W3 gx gy gz u x0 y0 r) := Lib.hid (by rw [← hW]; exact HO.out.setz r)
            have HW := Lib.hid hW
            clear hW
            go_wp2_with (first
                | (refine wpList_load_mid rfl 31 _ rfl u (k * 10) rfl (refC r) _ hrg Tryd.underlying31 rfl (by kernel_rfl) ?_)
                | (refine wpList_store_row rfl 31 _ _ rfl gz _ rfl rfl _ _ hrow (resR _ (by rfl)) rfl (by simp [Value.oneCell', refC]) ?_))
            rw [HW.out]
            clear HO HW hrg hrow c2 c8 c9
            have HO := HO2
            clear HO2
            clear hv0 hb1 hb2 hb4 hb5
            go_roundg (25 - (k + 1))
            case rel => exact ⟨k + 1, HLT.out, rfl, by go_num, by rw [HNx.out, HNy.out, HNz.out]; exact HO⟩
            case measure => have := HQ.out; have := HLT.out; omega
        · obtain ⟨hv0, hv1⟩ := hv
          have hb1 : (n != 0) = true := by simp [hv0]
          have hb2 : (n == 0) = false := by simp [hv0]
          have hb4 : (r.cose == n) = false := by simp [hv1]
          have HNy : Hid (row13 (lastA (pCose n) (k + 1)) = y0) := Lib.hid (by rw [HSY.out, if_neg (by simp [hv1])])
          clear HSY
          obtain ⟨c2, c8, c9⟩ := HLD.out _ _ _ _ HO.out
          go_upto_region 17 with (fail)
          clear c2 c8 c9
          clear hv0 hv1 hb1 hb2 hb4
          rcases (show t = 0 ∨ (¬ t = 0 ∧ ¬ r.typ = t) ∨ (¬ t = 0 ∧ r.typ = t) by omega) with hv | hv | hv
          · have hb1 : (t != 0) = false := by simp [hv]
            have hb2 : (t == 0) = true := by simp [hv]
            have hb3 : decide (t = 0) = true := by simp [hv]
            have HNz : Hid (row13 (lastA (pType t) (k + 1)) = z0) := Lib.hid (by rw [HSZ.out, if_neg (by simp [hv])])
            clear hv HSZ
            obtain ⟨c2, c8, c9⟩ := HLD.out _ _ _ _ HO.out
            go_wp2_with (fail)
            clear c2 c8 c9
            clear hb1 hb2 hb3
            go_roundg (25 - (k + 1))
            case rel => exact ⟨k + 1, HLT.out, rfl, by go_num, by rw [HNx.out, HNy.out, HNz.out]; exact HO⟩
            case measure => have := HQ.out; have := HLT.out; omega
          · obtain ⟨hv0, hv1⟩ := hv
            have hb1 : (t != 0) = true := by simp [hv0]
            have hb2 : (t == 0) = false := by simp [hv0]
            have hb4 : (r.typ == t) = false := by simp [hv1]
            have HNz : Hid (row13 (lastA (pType t) (k + 1)) = z0) := Lib.hid (by rw [HSZ.out, if_neg (by simp [hv1])])
            clear HSZ
            obtain ⟨c2, c8, c9⟩ := HLD.out _ _ _ _ HO.out
            go_wp2_with (fail)
            clear c2 c8 c9
            clear hv0 hv1 hb1 hb2 hb4
            go_roundg (25 - (k + 1))
            case rel => exact ⟨k + 1, HLT.out, rfl, by go_num, by rw [HNx.out, HNy.out, HNz.out]; exact HO⟩
            case measure => have := HQ.out; have := HLT.out; omega
          · obtain ⟨hv0, hv1⟩ := hv
            have hb1 : (t != 0) = true := by simp [hv0]
            have hb2 : (t == 0) = false := by simp [hv0]
            have hb4 : (r.typ == t) = true := by simp [hv1]
            have hb5 : decide (r.typ = t) = true := by simp [hv1]
            have HNz : Hid (row13 (lastA (pType t) (k + 1)) = r) := Lib.hid (by rw [HSZ.out, if_pos (by simp [hv0, hv1])])
            clear HSZ hv1
            obtain ⟨c2, c8, c9⟩ := HLD.out _ _ _ _ HO.out
            have hrg := HRA.out _ _ _ _ HO.out
            have hrow := HO.out.rz
            obtain ⟨W3, hW⟩ : ∃ W, wr.setRow gz (refC r).toArray = W := ⟨_, rfl⟩
            have HO2 : Hid (St w7 W3 gx gy gz u x0 y0 r) := Lib.hid (by rw [← hW]; exact HO.out.setz r)
            have HW := Lib.hid hW
            clear hW
            go_wp2_with (first
                | (refine wpList_load_mid rfl 31 _ rfl u (k * 10) rfl (refC r) _ hrg Tryd.underlying31 rfl (by kernel_rfl) ?_)
                | (refine wpList_store_row rfl 31 _ _ rfl gz _ rfl rfl _ _ hrow (resR _ (by rfl)) rfl (by simp [Value.oneCell', refC]) ?_))
            rw [HW.out]
            clear HO HW hrg hrow c2 c8 c9
            have HO := HO2
            clear HO2
            clear hv0 hb1 hb2 hb4 hb5
            go_roundg (25 - (k + 1))
            case rel => exact ⟨k + 1, HLT.out, rfl, by go_num, by rw [HNx.out, HNy.out, HNz.out]; exact HO⟩
            case measure => have := HQ.out; have := HLT.out; omega
        · obtain ⟨hv0, hv1⟩ := hv
          have hb1 : (n != 0) = true := by simp [hv0]
          have hb2 : (n == 0) = false := by simp [hv0]
          have hb4 : (r.cose == n) = true := by simp [hv1]
          have hb5 : decide (r.cose = n) = true := by simp [hv1]
          have HNy : Hid (row13 (lastA (pCose n) (k + 1)) = r) := Lib.hid (by rw [HSY.out, if_pos (by simp [hv0, hv1])])
          clear HSY hv1
          obtain ⟨c2, c8, c9⟩ := HLD.out _ _ _ _ HO.out
          have hrg := HRA.out _ _ _ _ HO.out
          have hrow := HO.out.ry
          obtain ⟨W2, hW⟩ : ∃ W, wr.setRow gy (refC r).toArray = W := ⟨_, rfl⟩
          have HO2 : Hid (St w7 W2 gx gy gz u x0 r z0) := Lib.hid (by rw [← hW]; exact HO.out.sety r)
          have HW := Lib.hid hW
          clear hW
          go_upto_region 17 with (first
              | (refine wpList_load_mid rfl 31 _ rfl u (k * 10) rfl (refC r) _ hrg Tryd.underlying31 rfl (by kernel_rfl) ?_)
              | (refine wpList_store_row rfl 31 _ _ rfl gy _ rfl rfl _ _ hrow (resR _ (by rfl)) rfl (by simp [Value.oneCell', refC]) ?_))
          rw [HW.out]
          clear HO HW hrg hrow c2 c8 c9
          have HO := HO2
          clear HO2
          clear hv0 hb1 hb2 hb4 hb5
          rcases (show t = 0 ∨ (¬ t = 0 ∧ ¬ r.typ = t) ∨ (¬ t = 0 ∧ r.typ = t) by omega) with hv | hv | hv
          · have hb1 : (t != 0) = false := by simp [hv]
            have hb2 : (t == 0) = true := by simp [hv]
            have hb3 : decide (t = 0) = true := by simp [hv]
            have HNz : Hid (row13 (lastA (pType t) (k + 1)) = z0) := Lib.hid (by rw [HSZ.out, if_neg (by simp [hv])])
            clear hv HSZ
            obtain ⟨c2, c8, c9⟩ := HLD.out _ _ _ _ HO.out
            go_wp2_with (fail)
            clear c2 c8 c9
            clear hb1 hb2 hb3
            go_roundg (25 - (k + 1))
            case rel => exact ⟨k + 1, HLT.out, rfl, by go_num, by rw [HNx.out, HNy.out, HNz.out]; exact HO⟩
            case measure => have := HQ.out; have := HLT.out; omega
          · obtain ⟨hv0, hv1⟩ := hv
            have hb1 : (t != 0) = true := by simp [hv0]
            have hb2 : (t == 0) = false := by simp [hv0]
            have hb4 : (r.typ == t) = false := by simp [hv1]
            have HNz : Hid (row13 (lastA (pType t) (k + 1)) = z0) := Lib.hid (by rw [HSZ.out, if_neg (by simp [hv1])])
            clear HSZ
            obtain ⟨c2, c8, c9⟩ := HLD.out _ _ _ _ HO.out
            go_wp2_with (fail)
            clear c2 c8 c9
            clear hv0 hv1 hb1 hb2 hb4
            go_roundg (25 - (k + 1))
            case rel => exact ⟨k + 1, HLT.out, rfl, by go_num, by rw [HNx.out, HNy.out, HNz.out]; exact HO⟩
            case measure => have := HQ.out; have := HLT.out; omega
          · obtain ⟨hv0, hv1⟩ := hv
            have hb1 : (t != 0) = true := by simp [hv0]
            have hb2 : (t == 0) = false := by simp [hv0]
            have hb4 : (r.typ == t) = true := by simp [hv1]
            have hb5 : decide (r.typ = t) = true := by simp [hv1]
            have HNz : Hid (row13 (lastA (pType t) (k + 1)) = r) := Lib.hid (by rw [HSZ.out, if_pos (by simp [hv0, hv1])])
            clear HSZ hv1
            obtain ⟨c2, c8, c9⟩ := HLD.out _ _ _ _ HO.out
            have hrg := HRA.out _ _ _ _ HO.out
            have hrow := HO.out.rz
            obtain ⟨W3, hW⟩ : ∃ W, W2.setRow gz (refC r).toArray = W := ⟨_, rfl⟩
            have HO2 : Hid (St w7 W3 gx gy gz u x0 r r) := Lib.hid (by rw [← hW]; exact HO.out.setz r)
            have HW := Lib.hid hW
            clear hW
            go_wp2_with (first
                | (refine wpList_load_mid rfl 31 _ rfl u (k * 10) rfl (refC r) _ hrg Tryd.underlying31 rfl (by kernel_rfl) ?_)
                | (refine wpList_store_row rfl 31 _ _ rfl gz _ rfl rfl _ _ hrow (resR _ (by rfl)) rfl (by simp [Value.oneCell', refC]) ?_))
            rw [HW.out]
            clear HO HW hrg hrow c2 c8 c9
            have HO := HO2
            clear HO2
            clear hv0 hb1 hb2 hb4 hb5
            go_roundg (25 - (k + 1))
            case rel => exact ⟨k + 1, HLT.out, rfl, by go_num, by rw [HNx.out, HNy.out, HNz.out]; exact HO⟩
            case measure => have := HQ.out; have := HLT.out; omega
      | true =>
        have HNx : Hid (row13 (lastA (pName nm) (k + 1)) = r) := Lib.hid (by rw [HSX.out, if_pos hbx])
        clear HSX
        obtain ⟨c2, c8, c9⟩ := HLD.out _ _ _ _ HO.out
        have hrg := HRA.out _ _ _ _ HO.out
        have hrow := HO.out.rx
        obtain ⟨W1, hW⟩ : ∃ W, wr.setRow gx (refC r).toArray = W := ⟨_, rfl⟩
        have HO2 : Hid (St w7 W1 gx gy gz u r y0 z0) := Lib.hid (by rw [← hW]; exact HO.out.setx r)
        have HW := Lib.hid hW
        clear hW
        go_upto_region 15 with (first
            | (refine wpList_load_mid rfl 31 _ rfl u (k * 10) rfl (refC r) _ hrg Tryd.underlying31 rfl (by kernel_rfl) ?_)
            | (refine wpList_store_row rfl 31 _ _ rfl gx _ rfl rfl _ _ hrow (resR _ (by rfl)) rfl (by simp [Value.oneCell', refC]) ?_))
        rw [HW.out]
        clear HO HW hrg hrow c2 c8 c9
        have HO := HO2
        clear HO2
        clear hbx
        rcases (show n = 0 ∨ (¬ n = 0 ∧ ¬ r.cose = n) ∨ (¬ n = 0 ∧ r.cose = n) by omega) with hv | hv | hv
        · have hb1 : (n != 0) = false := by simp [hv]
          have hb2 : (n == 0) = true := by simp [hv]
          have hb3 : decide (n = 0) = true := by simp [hv]
          have HNy : Hid (row13 (lastA (pCose n) (k + 1)) = y0) := Lib.hid (by rw [HSY.out, if_neg (by simp [hv])])
          clear hv HSY
          obtain ⟨c2, c8, c9⟩ := HLD.out _ _ _ _ HO.out
          go_upto_region 17 with (fail)
          clear c2 c8 c9
          clear hb1 hb2 hb3
          rcases (show t = 0 ∨ (¬ t = 0 ∧ ¬ r.typ = t) ∨ (¬ t = 0 ∧ r.typ = t) by omega) with hv | hv | hv
          · have hb1 : (t != 0) = false := by simp [hv]
            have hb2 : (t == 0) = true := by simp [hv]
            have hb3 : decide (t = 0) = true := by simp [hv]
            have HNz : Hid (row13 (lastA (pType t) (k + 1)) = z0) := Lib.hid (by rw [HSZ.out, if_neg (by simp [hv])])
            clear hv HSZ
            obtain ⟨c2, c8, c9⟩ := HLD.out _ _ _ _ HO.out
            go_wp2_with (fail)
            clear c2 c8 c9
            clear hb1 hb2 hb3
            go_roundg (25 - (k + 1))
            case rel => exact ⟨k + 1, HLT.out, rfl, by go_num, by rw [HNx.out, HNy.out, HNz.out]; exact HO⟩
            case measure => have := HQ.out; have := HLT.out; omega
          · obtain ⟨hv0, hv1⟩ := hv
            have hb1 : (t != 0) = true := by simp [hv0]
            have hb2 : (t == 0) = false := by simp [hv0]
            have hb4 : (r.typ == t) = false := by simp [hv1]
            have HNz : Hid (row13 (lastA (pType t) (k + 1)) = z0) := Lib.hid (by rw [HSZ.out, if_neg (by simp [hv1])])
            clear HSZ
            obtain ⟨c2, c8, c9⟩ := HLD.out _ _ _ _ HO.out
            go_wp2_with (fail)
            clear c2 c8 c9
            clear hv0 hv1 hb1 hb2 hb4
            go_roundg (25 - (k + 1))
            case rel => exact ⟨k + 1, HLT.out, rfl, by go_num, by rw [HNx.out, HNy.out, HNz.out]; exact HO⟩
            case measure => have := HQ.out; have := HLT.out; omega
          · obtain ⟨hv0, hv1⟩ := hv
            have hb1 : (t != 0) = true := by simp [hv0]
            have hb2 : (t == 0) = false := by simp [hv0]
            have hb4 : (r.typ == t) = true := by simp [hv1]
            have hb5 : decide (r.typ = t) = true := by simp [hv1]
            have HNz : Hid (row13 (lastA (pType t) (k + 1)) = r) := Lib.hid (by rw [HSZ.out, if_pos (by simp [hv0, hv1])])
            clear HSZ hv1
            obtain ⟨c2, c8, c9⟩ := HLD.out _ _ _ _ HO.out
            have hrg := HRA.out _ _ _ _ HO.out
            have hrow := HO.out.rz
            obtain ⟨W3, hW⟩ : ∃ W, W1.setRow gz (refC r).toArray = W := ⟨_, rfl⟩
            have HO2 : Hid (St w7 W3 gx gy gz u r y0 r) := Lib.hid (by rw [← hW]; exact HO.out.setz r)
            have HW := Lib.hid hW
            clear hW
            go_wp2_with (first
                | (refine wpList_load_mid rfl 31 _ rfl u (k * 10) rfl (refC r) _ hrg Tryd.underlying31 rfl (by kernel_rfl) ?_)
                | (refine wpList_store_row rfl 31 _ _ rfl gz _ rfl rfl _ _ hrow (resR _ (by rfl)) rfl (by simp [Value.oneCell', refC]) ?_))
            rw [HW.out]
            clear HO HW hrg hrow c2 c8 c9
            have HO := HO2
            clear HO2
            clear hv0 hb1 hb2 hb4 hb5
            go_roundg (25 - (k + 1))
            case rel => exact ⟨k + 1, HLT.out, rfl, by go_num, by rw [HNx.out, HNy.out, HNz.out]; exact HO⟩
            case measure => have := HQ.out; have := HLT.out; omega
        · obtain ⟨hv0, hv1⟩ := hv
          have hb1 : (n != 0) = true := by simp [hv0]
          have hb2 : (n == 0) = false := by simp [hv0]
          have hb4 : (r.cose == n) = false := by simp [hv1]
          have HNy : Hid (row13 (lastA (pCose n) (k + 1)) = y0) := Lib.hid (by rw [HSY.out, if_neg (by simp [hv1])])
          clear HSY
          obtain ⟨c2, c8, c9⟩ := HLD.out _ _ _ _ HO.out
          go_upto_region 17 with (fail)
          clear c2 c8 c9
          clear hv0 hv1 hb1 hb2 hb4
          rcases (show t = 0 ∨ (¬ t = 0 ∧ ¬ r.typ = t) ∨ (¬ t = 0 ∧ r.typ = t) by omega) with hv | hv | hv
          · have hb1 : (t != 0) = false := by simp [hv]
            have hb2 : (t == 0) = true := by simp [hv]
            have hb3 : decide (t = 0) = true := by simp [hv]
            have HNz : Hid (row13 (lastA (pType t) (k + 1)) = z0) := Lib.hid (by rw [HSZ.out, if_neg (by simp [hv])])
            clear hv HSZ
            obtain ⟨c2, c8, c9⟩ := HLD.out _ _ _ _ HO.out
            go_wp2_with (fail)
            clear c2 c8 c9
            clear hb1 hb2 hb3
            go_roundg (25 - (k + 1))
            case rel => exact ⟨k + 1, HLT.out, rfl, by go_num, by rw [HNx.out, HNy.out, HNz.out]; exact HO⟩
            case measure => have := HQ.out; have := HLT.out; omega
          · obtain ⟨hv0, hv1⟩ := hv
            have hb1 : (t != 0) = true := by simp [hv0]
            have hb2 : (t == 0) = false := by simp [hv0]
            have hb4 : (r.typ == t) = false := by simp [hv1]
            have HNz : Hid (row13 (lastA (pType t) (k + 1)) = z0) := Lib.hid (by rw [HSZ.out, if_neg (by simp [hv1])])
            clear HSZ
            obtain ⟨c2, c8, c9⟩ := HLD.out _ _ _ _ HO.out
            go_wp2_with (fail)
            clear c2 c8 c9
            clear hv0 hv1 hb1 hb2 hb4
            go_roundg (25 - (k + 1))
            case rel => exact ⟨k + 1, HLT.out, rfl, by go_num, by rw [HNx.out, HNy.out, HNz.out]; exact HO⟩
            case measure => have := HQ.out; have := HLT.out; omega
          · obtain ⟨hv0, hv1⟩ := hv
            have hb1 : (t != 0) = true := by simp [hv0]
            have hb2 : (t == 0) = false := by simp [hv0]
            have hb4 : (r.typ == t) = true := by simp [hv1]
            have hb5 : decide (r.typ = t) = true := by simp [hv1]
            have HNz : Hid (row13 (lastA (pType t) (k + 1)) = r) := Lib.hid (by rw [HSZ.out, if_pos (by simp [hv0, hv1])])
            clear HSZ hv1
            obtain ⟨c2, c8, c9⟩ := HLD.out _ _ _ _ HO.out
            have hrg := HRA.out _ _ _ _ HO.out
            have hrow := HO.out.rz
            obtain ⟨W3, hW⟩ : ∃ W, W1.setRow gz (refC r).toArray = W := ⟨_, rfl⟩
            have HO2 : Hid (St w7 W3 gx gy gz u r y0 r) := Lib.hid (by rw [← hW]; exact HO.out.setz r)
            have HW := Lib.hid hW
            clear hW
            go_wp2_with (first
                | (refine wpList_load_mid rfl 31 _ rfl u (k * 10) rfl (refC r) _ hrg Tryd.underlying31 rfl (by kernel_rfl) ?_)
                | (refine wpList_store_row rfl 31 _ _ rfl gz _ rfl rfl _ _ hrow (resR _ (by rfl)) rfl (by simp [Value.oneCell', refC]) ?_))
            rw [HW.out]
            clear HO HW hrg hrow c2 c8 c9
            have HO := HO2
            clear HO2
            clear hv0 hb1 hb2 hb4 hb5
            go_roundg (25 - (k + 1))
            case rel => exact ⟨k + 1, HLT.out, rfl, by go_num, by rw [HNx.out, HNy.out, HNz.out]; exact HO⟩
            case measure => have := HQ.out; have := HLT.out; omega
        · obtain ⟨hv0, hv1⟩ := hv
          have hb1 : (n != 0) = true := by simp [hv0]
          have hb2 : (n == 0) = false := by simp [hv0]
          have hb4 : (r.cose == n) = true := by simp [hv1]
          have hb5 : decide (r.cose = n) = true := by simp [hv1]
          have HNy : Hid (row13 (lastA (pCose n) (k + 1)) = r) := Lib.hid (by rw [HSY.out, if_pos (by simp [hv0, hv1])])
          clear HSY hv1
          obtain ⟨c2, c8, c9⟩ := HLD.out _ _ _ _ HO.out
          have hrg := HRA.out _ _ _ _ HO.out
          have hrow := HO.out.ry
          obtain ⟨W2, hW⟩ : ∃ W, W1.setRow gy (refC r).toArray = W := ⟨_, rfl⟩
          have HO2 : Hid (St w7 W2 gx gy gz u r r z0) := Lib.hid (by rw [← hW]; exact HO.out.sety r)
          have HW := Lib.hid hW
          clear hW
          go_upto_region 17 with (first
              | (refine wpList_load_mid rfl 31 _ rfl u (k * 10) rfl (refC r) _ hrg Tryd.underlying31 rfl (by kernel_rfl) ?_)
              | (refine wpList_store_row rfl 31 _ _ rfl gy _ rfl rfl _ _ hrow (resR _ (by rfl)) rfl (by simp [Value.oneCell', refC]) ?_))
          rw [HW.out]
          clear HO HW hrg hrow c2 c8 c9
          have HO := HO2
          clear HO2
          clear hv0 hb1 hb2 hb4 hb5
          rcases (show t = 0 ∨ (¬ t = 0 ∧ ¬ r.typ = t) ∨ (¬ t = 0 ∧ r.typ = t) by omega) with hv | hv | hv
          · have hb1 : (t != 0) = false := by simp [hv]
            have hb2 : (t == 0) = true := by simp [hv]
            have hb3 : decide (t = 0) = true := by simp [hv]
            have HNz : Hid (row13 (lastA (pType t) (k + 1)) = z0) := Lib.hid (by rw [HSZ.out, if_neg (by simp [hv])])
            clear hv HSZ
            obtain ⟨c2, c8, c9⟩ := HLD.out _ _ _ _ HO.out
            go_wp2_with (fail)
            clear c2 c8 c9
            clear hb1 hb2 hb3
            go_roundg (25 - (k + 1))
            case rel => exact ⟨k + 1, HLT.out, rfl, by go_num, by rw [HNx.out, HNy.out, HNz.out]; exact HO⟩
            case measure => have := HQ.out; have := HLT.out; omega
          · obtain ⟨hv0, hv1⟩ := hv
            have hb1 : (t != 0) = true := by simp [hv0]
            have hb2 : (t == 0) = false := by simp [hv0]
            have hb4 : (r.typ == t) = false := by simp [hv1]
            have HNz : Hid (row13 (lastA (pType t) (k + 1)) = z0) := Lib.hid (by rw [HSZ.out, if_neg (by simp [hv1])])
            clear HSZ
            obtain ⟨c2, c8, c9⟩ := HLD.out _ _ _ _ HO.out
            go_wp2_with (fail)
            clear c2 c8 c9
            clear hv0 hv1 hb1 hb2 hb4
            go_roundg (25 - (k + 1))
            case rel => exact ⟨k + 1, HLT.out, rfl, by go_num, by rw [HNx.out, HNy.out, HNz.out]; exact HO⟩
            case measure => have := HQ.out; have := HLT.out; omega
          · obtain ⟨hv0, hv1⟩ := hv
            have hb1 : (t != 0) = true := by simp [hv0]
            have hb2 : (t == 0) = false := by simp [hv0]
            have hb4 : (r.typ == t) = true := by simp [hv1]
            have hb5 : decide (r.typ = t) = true := by simp [hv1]
            have HNz : Hid (row13 (lastA (pType t) (k + 1)) = r) := Lib.hid (by rw [HSZ.out, if_pos (by simp [hv0, hv1])])
            clear HSZ hv1
            obtain ⟨c2, c8, c9⟩ := HLD.out _ _ _ _ HO.out
            have hrg := HRA.out _ _ _ _ HO.out
            have hrow := HO.out.rz
            obtain ⟨W3, hW⟩ : ∃ W, W2.setRow gz (refC r).toArray = W := ⟨_, rfl⟩
            have HO2 : Hid (St w7 W3 gx gy gz u r r r) := Lib.hid (by rw [← hW]; exact HO.out.setz r)
            have HW := Lib.hid hW
            clear hW
            go_wp2_with (first
                | (refine wpList_load_mid rfl 31 _ rfl u (k * 10) rfl (refC r) _ hrg Tryd.underlying31 rfl (by kernel_rfl) ?_)
                | (refine wpList_store_row rfl 31 _ _ rfl gz _ rfl rfl _ _ hrow (resR _ (by rfl)) rfl (by simp [Value.oneCell', refC]) ?_))
            rw [HW.out]
            clear HO HW hrg hrow c2 c8 c9
            have HO := HO2
            clear HO2
            clear hv0 hb1 hb2 hb4 hb5
            go_roundg (25 - (k + 1))
            case rel => exact ⟨k + 1, HLT.out, rfl, by go_num, by rw [HNx.out, HNy.out, HNz.out]; exact HO⟩
            case measure => have := HQ.out; have := HLT.out; omega
    · obtain rfl : k = 25 := by omega
      have HS : Hid (St w7 wr gx gy gz u rx ry rz) := Lib.hid (by have e := HE.out; have h := HO.out; rw [e.1, e.2.1, e.2.2] at h; exact h)
      have hpw7 := HS.out.past
      have HRo : Hid (∀ w', Past wr w' → (Row w' ga 26 (setC rx (.slice Ax nx cx)) ∧ SlK .u32 w' Ax nx cx lx) ∧ (Row w' gb 26 (setC ry (.slice Ay ny cy)) ∧ SlK .u32 w' Ay ny cy ly) ∧ (Row w' gc 26 (setC rz (.slice Az nz cz)) ∧ SlK .u32 w' Az nz cz lz) ∧ Row w' gx 31 (refA rx) ∧ Row w' gy 31 (refA ry) ∧ Row w' gz 31 (refA rz)) := Lib.hid (fun w' h => ⟨HQx.out.2 _ (((HPy.out.trans' HPz.out).trans' hpw7).trans' h), HQy.out.2 _ ((HPz.out.trans' hpw7).trans' h), HQz.out.2 _ (hpw7.trans' h), HS.out.rx.past h, HS.out.ry.past h, HS.out.rz.past h⟩)
      have HPW : Hid (Past w wr) := Lib.hid (HQz.out.1.trans' hpw7)
      obtain ⟨⟨ra, sa⟩, _, _, ra2, _, _⟩ := HRo.out wr (Below.refl _ _)
      have HSA := Lib.hid sa
      clear hlt hk HO HE HS hpw7 hk0 sa
      go_wp2_with (first
        | (refine wpList_load_row rfl 26 _ rfl ga rfl _ _ _ _ ra Tryd.underlying26 rfl (resS _ (by rfl)) ?_)
        | (refine wpList_load_row rfl 31 _ rfl gx rfl _ _ _ _ ra2 Tryd.underlying31 rfl (resR _ (by rfl)) ?_))
      refine (HLS.out rx Ax nx cx lx wr HSA.out HLx.out.1 HLx.out.2.1 HLx.out.2.2).mono ?_
      rintro e wA ⟨rfl, hp⟩
      have HA := Lib.hid hp
      obtain ⟨_, ⟨rb, sb⟩, _, rc0, rb2, _⟩ := HRo.out wA hp
      have HSB := Lib.hid sb
      have ca := rc0.cell 0
      clear hp sb rc0 ra ra2 HSA
      have kb0 := rb.cell 0
      have mb0 := rb2.cell 0
      have kb1 := rb.cell 1
      have mb1 := rb2.cell 1
      have kb2 := rb.cell 2
      have mb2 := rb2.cell 2
      have kb3 := rb.cell 3
      have mb3 := rb2.cell 3
      have kb4 := rb.cell 4
      have mb4 := rb2.cell 4
      have kb5 := rb.cell 5
      have mb5 := rb2.cell 5
      have kb6 := rb.cell 6
      have mb6 := rb2.cell 6
      have kb7 := rb.cell 7
      have mb7 := rb2.cell 7
      have kb8 := rb.cell 8
      have mb8 := rb2.cell 8
      have kb9 := rb.cell 9
      have mb9 := rb2.cell 9
      clear rb rb2
      go_wp2_with fail
      clear kb0 mb0 kb1 mb1 kb2 mb2 kb3 mb3 kb4 mb4 kb5 mb5 kb6 mb6 kb7 mb7 kb8 mb8 kb9 mb9
      refine (HLS.out ry Ay ny cy ly wA HSB.out HLy.out.1 HLy.out.2.1 HLy.out.2.2).mono ?_
      rintro e wB ⟨rfl, hp⟩
      have HB := Lib.hid (HA.out.trans' hp)
      obtain ⟨_, _, ⟨rc, sc⟩, _, rc0, rc2⟩ := HRo.out wB HB.out
      have HSC := Lib.hid sc
      have cb := rc0.cell 0
      clear hp sc rc0 HSB ca
      have kc0 := rc.cell 0
      have mc0 := rc2.cell 0
      have kc1 := rc.cell 1
      have mc1 := rc2.cell 1
      have kc2 := rc.cell 2
      have mc2 := rc2.cell 2
      have kc3 := rc.cell 3
      have mc3 := rc2.cell 3
      have kc4 := rc.cell 4
      have mc4 := rc2.cell 4
      have kc5 := rc.cell 5
      have mc5 := rc2.cell 5
      have kc6 := rc.cell 6
      have mc6 := rc2.cell 6
      have kc7 := rc.cell 7
      have mc7 := rc2.cell 7
      have kc8 := rc.cell 8
      have mc8 := rc2.cell 8
      have kc9 := rc.cell 9
      have mc9 := rc2.cell 9
      clear rc rc2
      go_wp2_with fail
      clear kc0 mc0 kc1 mc1 kc2 mc2 kc3 mc3 kc4 mc4 kc5 mc5 kc6 mc6 kc7 mc7 kc8 mc8 kc9 mc9
      refine (HLS.out rz Az nz cz lz wB HSC.out HLz.out.1 HLz.out.2.1 HLz.out.2.2).mono ?_
      rintro e wC ⟨rfl, hp⟩
      have HC := Lib.hid (HB.out.trans' hp)
      obtain ⟨_, _, _, _, _, rd0⟩ := HRo.out wC HC.out
      have cc := rd0.cell 0
      clear hp rd0 HSC cb
      go_wp2_with fail
      go_ret
      exact ⟨rfl, HPW.out.trans' HC.out⟩
end Go.Proofs.YtnjoccmjembppaaDoor.paramsFinds