/- For every string of bytes the law CborMatchesReference of package pyxlaw10 returns true and leaves its argument alone, where the library's variables hold what the program's text lays. -/
import Derived.Test.YtmhgpdfllpgjpaaDoorFrame10
import Derived.Test.YtmhgpdfllpgjpaaDoorGivM
import Derived.Test.YtmhgpdfllpgjpaaDoorRd10P
import Derived.Deep.RegionHeld3
namespace Go.Proofs.YtmhgpdfllpgjpaaDoor.cborMatchesReference
open Go.RowKit Go.ChangeShapes Go.WideShapes Go.ChangeAt
set_option linter.unusedVariables false

/-! ### Where an error lies -/
theorem findBad_at : ∀ (l : List Int) (s i : Nat), findBad l s = some i → i < s + l.length
  | [], s, i, h => by cases h
  | x :: xs, s, i, h => by
    unfold findBad at h
    split at h
    · have := findBad_at xs (s + 1) i h
      simp only [List.length_cons]
      omega
    · injection h with h
      simp only [List.length_cons]
      omega
theorem items_at {rc : Nat → R10} {L : Nat} (hrc : ∀ p c a, rc p = .bad c a → a ≤ L) (hg : ∀ p t e, rc p = .good t e → p ≤ L) (mp : Bool) : ∀ (n nx : Nat) (acc : List T) (c a : Nat), itemsR rc mp n nx acc = .inl (c, a) → a ≤ L
  | 0, nx, acc, c, a, h => by cases h
  | n + 1, nx, acc, c, a, h => by
    unfold itemsR at h
    cases hk : rc nx with
    | bad c1 p1 =>
      rw [hk] at h
      injection h with h
      injection h with h1 h2
      have := hrc _ _ _ hk
      omega
    | good k nk =>
      rw [hk] at h
      simp only at h
      split at h
      · split at h
        · injection h with h
          injection h with h1 h2
          have := hg _ _ _ hk
          omega
        · cases hv : rc nk with
          | bad c1 p1 =>
            rw [hv] at h
            injection h with h
            injection h with h1 h2
            have := hrc _ _ _ hv
            omega
          | good v nv =>
            rw [hv] at h
            exact items_at hrc hg mp n nv _ c a h
      · exact items_at hrc hg mp n nk _ c a h
theorem rdW_at {rc : Nat → R10} (b : List Int) (hrc : ∀ p c a, rc p = .bad c a → a ≤ b.length) (hg : ∀ p t e, rc p = .good t e → p ≤ b.length) (deep : Bool) (p c a : Nat) (h : rdW rc deep b p = .bad c a) : a ≤ b.length := by
  unfold rdW at h
  generalize (b.getD p 0).toNat / 32 = k at h
  generalize (b.getD p 0).toNat % 32 = l at h
  split at h
  · injection h with h1 h2; omega
  split at h
  · injection h with h1 h2; omega
  split at h
  · injection h with h1 h2; omega
  split at h
  · injection h with h1 h2; omega
  split at h
  · injection h with h1 h2; omega
  split at h
  · cases h
  split at h
  · split at h
    · injection h with h1 h2; omega
    · cases ho : (if k = 3 then findBad ((b.drop (p + 1 + szOf l)).take (numAt b p l)) (p + 1 + szOf l) else none) with
      | none => rw [ho] at h; cases h
      | some i =>
        rw [ho] at h
        injection h with h1 h2
        split at ho
        · have h3 := findBad_at _ _ _ ho
          rw [List.length_take, List.length_drop] at h3
          omega
        · cases ho
  · cases hi : itemsR rc (k == 5) (numAt b p l) (p + 1 + szOf l) [] with
    | inl cq =>
      obtain ⟨c1, q1⟩ := cq
      rw [hi] at h
      injection h with h1 h2
      have := items_at hrc hg _ _ _ _ _ _ hi
      omega
    | inr ke =>
      obtain ⟨ks, e⟩ := ke
      rw [hi] at h
      cases h
theorem rdW_in {rc : Nat → R10} (b : List Int) (deep : Bool) (p : Nat) (t : T) (e : Nat) (h : rdW rc deep b p = .good t e) : p ≤ b.length := by
  unfold rdW at h
  by_cases h1 : b.length ≤ p
  · rw [if_pos h1] at h; cases h
  · omega
theorem rd_in (b : List Int) (f p : Nat) (t : T) (e : Nat) (h : rd b f p = .good t e) : p ≤ b.length := by
  cases f with
  | zero => exact rdW_in b true p t e h
  | succ f => exact rdW_in b false p t e h
theorem rd_at (b : List Int) : ∀ (f p c a : Nat), rd b f p = .bad c a → a ≤ b.length
  | 0, p, c, a, h => rdW_at b (fun _ _ _ h => by injection h with h1 h2; omega) (fun _ _ _ h => by cases h) true p c a h
  | f + 1, p, c, a, h => rdW_at b (rd_at b f) (rd_in b f) false p c a h
theorem pars_at {b : List Int} {c a : Nat} (h : pars b = .bad c a) : c ≠ 0 ∧ a ≤ b.length := by
  unfold pars at h
  cases hq : rd b 8 0 with
  | bad c1 a1 =>
    rw [hq] at h
    injection h with h1 h2
    subst h1 h2
    exact ⟨rd_err b 8 0 _ _ hq, rd_at b 8 0 _ _ hq⟩
  | good t e =>
    rw [hq] at h
    simp only at h
    split at h
    · injection h with h1 h2
      omega
    · cases h
theorem pars_end {b : List Int} (hr : ∀ x ∈ b, 0 ≤ x ∧ x < 256) {t : T} {e : Nat} (h : pars b = .good t e) : e ≤ b.length := by
  unfold pars at h
  cases hq : rd b 8 0 with
  | bad c p => rw [hq] at h; cases h
  | good t' e' =>
    rw [hq] at h
    have G := rd_good b hr 8 0 t' e' hq
    simp only at h
    split at h
    · cases h
    · injection h with h1 h2
      have := G.le
      omega

/-- A result in a block of its own. -/
structure Rx (wx : World) (b : Nat) (kd nm : Int) (A : Option Addr) (n c : Nat) (K : Option Addr) (m d : Nat) (t : T) (nx cd at0 : Int) : Prop where
  row : Row wx b 36 #[.int .i64 kd, .int .u64 nm, .slice A n c, .slice K m d, .int .i64 nx, .int .i64 cd, .int .i64 at0]
  inm : InM wx (.agg #[.int .i64 kd, .int .u64 nm, .slice A n c, .slice K m d]) t
theorem Rx.later {wx wy : World} {b : Nat} {kd nm : Int} {A : Option Addr} {n c : Nat} {K : Option Addr} {m d : Nat} {t : T} {nx cd at0 : Int} (h : Rx wx b kd nm A n c K m d t nx cd at0) (hp : Past wx wy) : Rx wy b kd nm A n c K m d t nx cd at0 := ⟨h.row.past hp, h.inm.past hp⟩
theorem rx_new {w1 w2 : World} {kd nm : Int} {A : Option Addr} {n c : Nat} {K : Option Addr} {m d : Nat} {t : T} {nx cd at0 : Int} (hi : InM w1 (.agg #[.int .i64 kd, .int .u64 nm, .slice A n c, .slice K m d]) t) (hw : w2 = w1.alloc (.cells #[.int .i64 kd, .int .u64 nm, .slice A n c, .slice K m d, .int .i64 nx, .int .i64 cd, .int .i64 at0] 36)) : Rx w2 w1.heap.size kd nm A n c K m d t nx cd at0 := by
  subst hw
  exact ⟨Row.new _ _ _, hi.past (past_alloc8 _ _)⟩
abbrev noT : T := .node 0 0 [] []

set_option maxHeartbeats 8000000 in
set_option maxRecDepth 100000 in
theorem walk' (A : Option Addr) (n c : Nat) (xs : List Int) (w : World) (hS : Sl w A n c xs) (hG : Glob10 w) :
    Calls Tryd.prog 3 #[.slice A n c] w fun e w' => e = .returned (.bool true) ∧ Past w w' := by
  have HA := Lib.hid (fun w hG => awake10 w hG)
  have HG := Lib.hid hG
  have HS := Lib.hid hS
  by_cases hn : 2000 < n
  · have hni : (2000 : Int) < (n : Int) := by omega
    clear hS hG
    go_enter Tryd.func3, Tryd.ntmps3
    go_wp2_with fail
    refine (HA.out _ HG.out).mono ?_
    rintro e w1 ⟨rfl, hp⟩
    have HP := Lib.hid hp
    clear hp
    go_wp2_with fail
    refine (HA.out _ (HG.out.past HP.out)).mono ?_
    rintro e w2 ⟨rfl, hp⟩
    have HP2 := Lib.hid (HP.out.trans' hp)
    clear hp HP
    go_wp2_with fail
    go_ret
    exact ⟨rfl, HP2.out⟩
  · have hni : ¬ (2000 : Int) < (n : Int) := by omega
    have hlen := hS.len
    have HPa := Lib.hid (fun w hS => parse_any A n c xs w hS)
    have HRe := Lib.hid (fun w hS => rparse10_any A n c xs w (by omega) hS)
    have hpl : parsL xs n = pars xs := by unfold parsL; rw [if_neg (by omega)]
    rw [hpl] at HPa
    cases hq : pars xs with
    | bad c0 a0 =>
      obtain ⟨hc0, ha0⟩ := pars_at hq
      rw [hq] at HPa HRe
      have HTo := Lib.hid (fun w hG => ltold_flt (c0 : Int) (a0 : Int) w hG (by omega))
      simp only [valFlt] at HTo
      have hcb : ((c0 : Int) != 0) = true := by simp; omega
      have HZ := Lib.hid zero4_in
      unfold zero4 at HZ
      clear hS hG hpl hlen hq hc0 ha0 hn
      go_enter Tryd.func3, Tryd.ntmps3
      go_wp2_with fail
      refine (HA.out _ HG.out).mono ?_
      rintro e w1 ⟨rfl, hp⟩
      have HP := Lib.hid hp
      clear hp
      go_wp2_with fail
      refine (HPa.out _ (HS.out.past HP.out)).mono ?_
      rintro e w2 ⟨x, y, z, u, rfl, hin, hp⟩
      obtain ⟨kd, nm, A1, n1, c1, K, m, d, rfl, rfl, rfl, rfl⟩ := hin.shape
      obtain ⟨w3, hw3⟩ : ∃ w3, w3 = w2.alloc (.cells #[.int .i64 kd, .int .u64 nm, .slice A1 n1 c1, .slice K m d] 27) := ⟨_, rfl⟩
      have hp3 : Past w2 w3 := by rw [hw3]; exact past_alloc8 _ _
      have hby := bx_new hin hw3
      obtain ⟨b, hb⟩ : ∃ b, w2.heap.size = b := ⟨_, rfl⟩
      rw [hb] at hby
      have H3 : Hid (Past w w3 ∧ Bx w3 b kd nm A1 n1 c1 K m d noT) := Lib.hid ⟨(HP.out.trans' hp).trans' hp3, hby⟩
      have HW3 := Lib.hid hw3
      have HB := Lib.hid hb
      clear hp hp3 hby hw3 hb HP hin
      simp only [valFlt]
      go_upto_region 4 with (fail)
      rw [← HW3.out]
      try rw [HB.out]
      clear HW3 HB
      go_wp2_with fail
      refine (HRe.out _ (HS.out.past H3.out.1)).mono ?_
      rintro e w4 ⟨rfl, hp⟩
      unfold badV
      obtain ⟨w5, hw5⟩ : ∃ w5, w5 = w4.alloc (.cells #[.int .i64 0, .int .u64 0, .slice none 0 0, .slice none 0 0, .int .i64 0, .int .i64 (c0 : Int), .int .i64 (a0 : Int)] 36) := ⟨_, rfl⟩
      have hp5 : Past w4 w5 := by rw [hw5]; exact past_alloc8 _ _
      have hrx := rx_new (HZ.out w4) hw5
      obtain ⟨u, hu⟩ : ∃ u, w4.heap.size = u := ⟨_, rfl⟩
      rw [hu] at hrx
      have H5 : Hid (Past w w5 ∧ Bx w5 b kd nm A1 n1 c1 K m d noT ∧ Rx w5 u 0 0 none 0 0 none 0 0 noT 0 c0 a0) := Lib.hid ⟨(H3.out.1.trans' hp).trans' hp5, H3.out.2.later (hp.trans' hp5), hrx⟩
      have HW5 := Lib.hid hw5
      have HU := Lib.hid hu
      clear hp hp5 hrx hw5 hu H3
      go_upto_region 5 with (fail)
      rw [← HW5.out]
      try rw [HU.out]
      clear HW5 HU
      have k5 : w5.cell? ⟨u, 5, none⟩ = some (.int .i64 (c0 : Int)) := H5.out.2.2.row.cell 5
      have k6 : w5.cell? ⟨u, 6, none⟩ = some (.int .i64 (a0 : Int)) := H5.out.2.2.row.cell 6
      go_wp2_with fail
      refine (HTo.out _ (HG.out.err.past H5.out.1)).mono ?_
      rintro e w6 ⟨rfl, hp⟩
      have H6 : Hid (Past w w6 ∧ Bx w6 b kd nm A1 n1 c1 K m d noT) := Lib.hid ⟨H5.out.1.trans' hp, H5.out.2.1.later hp⟩
      clear hp H5 k5 k6
      have x0 : w6.cell? ⟨b, 0, none⟩ = some (.int .i64 kd) := H6.out.2.row.cell 0
      have x1 : w6.cell? ⟨b, 1, none⟩ = some (.int .u64 nm) := H6.out.2.row.cell 1
      have x2 : w6.cell? ⟨b, 2, none⟩ = some (.slice A1 n1 c1) := H6.out.2.row.cell 2
      have x3 : w6.cell? ⟨b, 3, none⟩ = some (.slice K m d) := H6.out.2.row.cell 3
      go_wp2_with fail
      refine (back_any H6.out.2.inm _ (Below.refl _ _) (by decide)).mono ?_
      rintro e w7 ⟨xa, ya, za, ua, rfl, hp, hl⟩
      have H7 : Hid (Past w w7 ∧ InM w7 (.agg #[xa, ya, za, ua]) noT) := Lib.hid ⟨H6.out.1.trans' hp, hl w7 (fun _ _ => rfl)⟩
      clear hp hl H6 x0 x1 x2 x3
      go_wp2_with fail
      refine (rsame10_any H7.out.2 _ _ (HZ.out _) _ (Below.refl _ _) (by decide)).mono ?_
      rintro e w8 ⟨r, rfl, hr, hp⟩
      obtain rfl : r = true := hr.2 rfl
      have H8 := Lib.hid (H7.out.1.trans' hp)
      clear hp hr H7
      go_wp2_with fail
      go_ret
      exact ⟨rfl, H8.out⟩
    | good t nx =>
      obtain ⟨ht, hsh, hd⟩ := pars_good hS.rng hq
      have hnx := pars_end hS.rng hq
      have HT := Lib.hid ht
      have hct : cnt t ≤ 2000 := by
        have := cnt_txt t
        rw [ht] at this
        omega
      have hvl : vldT t = true := by
        unfold vldT
        rw [decide_eq_true hd, hsh, decide_eq_true (by rw [ht]; omega)]
        rfl
      have HV := Lib.hid (And.intro hvl hct)
      have HL := Lib.hid hlen
      rw [hq] at HPa HRe
      clear hS hG hpl hlen hq hnx ht hsh hd hvl hct hn
      go_enter Tryd.func3, Tryd.ntmps3
      go_wp2_with fail
      refine (HA.out _ HG.out).mono ?_
      rintro e w1 ⟨rfl, hp⟩
      have HP := Lib.hid hp
      clear hp
      go_wp2_with fail
      refine (HPa.out _ (HS.out.past HP.out)).mono ?_
      rintro e w2 ⟨x, y, z, u, rfl, hin, hp⟩
      obtain ⟨kd, nm, A1, n1, c1, K, m, d, rfl, rfl, rfl, rfl⟩ := hin.shape
      obtain ⟨w3, hw3⟩ : ∃ w3, w3 = w2.alloc (.cells #[.int .i64 kd, .int .u64 nm, .slice A1 n1 c1, .slice K m d] 27) := ⟨_, rfl⟩
      have hp3 : Past w2 w3 := by rw [hw3]; exact past_alloc8 _ _
      have hby := bx_new hin hw3
      obtain ⟨b, hb⟩ : ∃ b, w2.heap.size = b := ⟨_, rfl⟩
      rw [hb] at hby
      have H3 : Hid (Past w w3 ∧ Bx w3 b kd nm A1 n1 c1 K m d t) := Lib.hid ⟨(HP.out.trans' hp).trans' hp3, hby⟩
      have HW3 := Lib.hid hw3
      have HB := Lib.hid hb
      clear hp hp3 hby hw3 hb HP hin
      go_upto_region 4 with (fail)
      rw [← HW3.out]
      try rw [HB.out]
      clear HW3 HB
      go_wp2_with fail
      refine (HRe.out _ (HS.out.past H3.out.1)).mono ?_
      rintro e w4 ⟨x, y, z, u, rfl, hlv, hp⟩
      have hin := hlv w4 fun _ _ _ => rfl
      obtain ⟨kd2, nm2, A2, n2, c2, K2, m2, d2, rfl, rfl, rfl, rfl⟩ := hin.shape
      obtain ⟨w5, hw5⟩ : ∃ w5, w5 = w4.alloc (.cells #[.int .i64 kd2, .int .u64 nm2, .slice A2 n2 c2, .slice K2 m2 d2, .int .i64 (nx : Int), .int .i64 0, .int .i64 0] 36) := ⟨_, rfl⟩
      have hp5 : Past w4 w5 := by rw [hw5]; exact past_alloc8 _ _
      have hrx := rx_new hin hw5
      obtain ⟨u, hu⟩ : ∃ u, w4.heap.size = u := ⟨_, rfl⟩
      rw [hu] at hrx
      have H5 : Hid (Past w w5 ∧ Bx w5 b kd nm A1 n1 c1 K m d t ∧ Rx w5 u kd2 nm2 A2 n2 c2 K2 m2 d2 t nx 0 0) := Lib.hid ⟨(H3.out.1.trans' hp).trans' hp5, H3.out.2.later (hp.trans' hp5), hrx⟩
      have HW5 := Lib.hid hw5
      have HU := Lib.hid hu
      clear hp hp5 hrx hw5 hu H3 hlv hin
      go_upto_region 5 with (fail)
      rw [← HW5.out]
      try rw [HU.out]
      clear HW5 HU
      have k5 : w5.cell? ⟨u, 5, none⟩ = some (.int .i64 0) := H5.out.2.2.row.cell 5
      have x0 : w5.cell? ⟨b, 0, none⟩ = some (.int .i64 kd) := H5.out.2.1.row.cell 0
      have x1 : w5.cell? ⟨b, 1, none⟩ = some (.int .u64 nm) := H5.out.2.1.row.cell 1
      have x2 : w5.cell? ⟨b, 2, none⟩ = some (.slice A1 n1 c1) := H5.out.2.1.row.cell 2
      have x3 : w5.cell? ⟨b, 3, none⟩ = some (.slice K m d) := H5.out.2.1.row.cell 3
      go_wp2_with fail
      refine (encode_any (HG.out.bru.past H5.out.1) H5.out.2.1.inm (by have := HV.out.2; omega)).mono ?_
      rintro e w6 ⟨he, _⟩
      obtain ⟨A6, c6, rfl, hS6, hp⟩ := he HV.out.1
      obtain ⟨L, hL⟩ : ∃ L, (txt t).length = L := ⟨_, rfl⟩
      rw [hL] at hS6 ⊢
      rw [HT.out] at hS6
      have H6 : Hid (Past w w6 ∧ Bx w6 b kd nm A1 n1 c1 K m d t ∧ Rx w6 u kd2 nm2 A2 n2 c2 K2 m2 d2 t nx 0 0 ∧ Sl w6 A6 L c6 xs) := Lib.hid ⟨H5.out.1.trans' hp, H5.out.2.1.later hp, H5.out.2.2.later hp, hS6⟩
      clear hp H5 k5 x0 x1 x2 x3 he hS6 hL
      have HSK : Hid (∀ w', Past w6 w' → (w'.cell? ⟨b, 0, none⟩ = some (.int .i64 kd) ∧ w'.cell? ⟨b, 1, none⟩ = some (.int .u64 nm) ∧ w'.cell? ⟨b, 2, none⟩ = some (.slice A1 n1 c1) ∧ w'.cell? ⟨b, 3, none⟩ = some (.slice K m d) ∧ w'.cell? ⟨u, 0, none⟩ = some (.int .i64 kd2) ∧ w'.cell? ⟨u, 1, none⟩ = some (.int .u64 nm2) ∧ w'.cell? ⟨u, 2, none⟩ = some (.slice A2 n2 c2) ∧ w'.cell? ⟨u, 3, none⟩ = some (.slice K2 m2 d2))) := by
        refine Lib.hid fun w' hp => ?_
        have q := H6.out.2.1.row.past hp
        have q2 := H6.out.2.2.1.row.past hp
        exact ⟨q.cell 0, q.cell 1, q.cell 2, q.cell 3, q2.cell 0, q2.cell 1, q2.cell 2, q2.cell 3⟩
      have HBK := Lib.hid (fun w1 (hp : Past w6 w1) => back_any (H6.out.2.1.inm.past hp) w1 (Below.refl _ _) (by have := HV.out.2; omega))
      have HPD : Hid (Past w6 w6.drew) := Lib.hid (Past.drewN (Below.refl _ w6) 1)
      go_upto_region 8 with (fail)
      first | (go_region_held3 (fun w' => w'.cell? ⟨b, 0, none⟩ = some (.int .i64 kd) ∧ w'.cell? ⟨b, 1, none⟩ = some (.int .u64 nm) ∧ w'.cell? ⟨b, 2, none⟩ = some (.slice A1 n1 c1) ∧ w'.cell? ⟨b, 3, none⟩ = some (.slice K m d) ∧ w'.cell? ⟨u, 0, none⟩ = some (.int .i64 kd2) ∧ w'.cell? ⟨u, 1, none⟩ = some (.int .u64 nm2) ∧ w'.cell? ⟨u, 2, none⟩ = some (.slice A2 n2 c2) ∧ w'.cell? ⟨u, 3, none⟩ = some (.slice K2 m2 d2))
        (first
        | exact HSK.out _ HP9.out
        | exact HSK.out _ HP8.out
        | exact HSK.out _ HP7.out
        | exact HSK.out _ HPD.out)
        (first
        | (go_at_call 13; (with_reducible refine (HBK.out _ HPD.out).mono ?_); rintro e7 w7 ⟨xa, ya, za, ua, rfl, hp7, hl7⟩; have HP7 : Hid (Past w6 w7) := Lib.hid (HPD.out.trans' hp7); have HN7 : Hid (InM w7 (.agg #[xa, ya, za, ua]) t) := Lib.hid (hl7 w7 (fun _ _ => rfl)); clear hp7 hl7)
        | (go_at_call 12; (with_reducible refine (rsame10_any HN7.out _ _ (H6.out.2.2.1.inm.past HP7.out) _ (Below.refl _ _) (by have := HV.out.2; omega)).mono ?_); rintro e8 w8 ⟨r, rfl, hr, hp8⟩; obtain rfl : r = true := hr.2 rfl; have HP8 : Hid (Past w6 w8) := Lib.hid (HP7.out.trans' hp8); clear hr hp8)
        | (go_at_call 15; (with_reducible refine (rsame_any _ _ _ _ _ _ _ _ _ (H6.out.2.2.2.past HP8.out) (HS.out.past (H6.out.1.trans' HP8.out))).mono ?_); rintro e9 w9 ⟨rfl, q, rfl⟩; rw [sameB_refl]; have HP9 : Hid (Past w6 (w8.drewN q)) := Lib.hid (HP8.out.drewN q)))) | fail
      all_goals
        go_wp2_with fail
        go_ret
        exact ⟨rfl, H6.out.1.trans' HP9.out⟩

theorem walk (A : Option Addr) (n c : Nat) (zs : List Int) (w : World) (h : IsRow .u8 w A n c zs) (hG : Glob10 w) :
    Calls Tryd.prog 3 #[.slice A n c] w fun e w' => e = .returned (.bool true) ∧ Past w w' := walk' A n c _ w (Sl.of_row h) hG

def args0 : Array Value := #[.slice none 0 0]
theorem laid_met (os : Os) : laidMetH Tryd.prog Rows.cborMatchesReferenceRow.laid ((laidWorld os).forCall (fun _ _ => 0) ⟨#[], args0, []⟩).memory :=
  laid_world os args0
theorem witness_row (os : Os) {H : Type} (enc : TypeId × Value → H) :
    (OpenSpec.ofChange Rows.cborMatchesReferenceSpec).preRow enc Tryd.prog Tryd.f3 Rows.cborMatchesReferenceRow.domain false Rows.cborMatchesReferenceRow.laid ((laidWorld os).forCall (fun _ _ => 0) ⟨#[], args0, []⟩).memory args0 := by
  have hw : (DataW.whole enc Tryd.prog ((laidWorld os).forCall (fun _ _ => 0) ⟨#[], args0, []⟩).memory Tryd.f3.params.toList (OpenSpec.ofChange Rows.cborMatchesReferenceSpec).vars false args0.toList 8).map (fun x => (x.1, x.2.1)) =
      some ([.nil], []) := by kernel_rfl
  obtain ⟨⟨x1, x2, x3⟩, hx, hx1⟩ := Option.map_eq_some_iff.1 hw
  simp only [Prod.mk.injEq] at hx1
  obtain ⟨rfl, rfl⟩ := hx1
  exact OpenSpec.preRow_of_cond 8 hx (by kernel_rfl) (fun k hk => by cases hk) (by kernel_rfl) (laid_met os)

set_option maxRecDepth 100000 in
set_option maxHeartbeats 2000000 in
theorem lifted (os : Os) (started : os.Started) (H : Type) (enc : TypeId × Value → H) (F : Stop.Interp) :
    ReturnsInHanded {} Tryd.checked os 3 .any ((OpenSpec.ofChange Rows.cborMatchesReferenceSpec).preRow enc Tryd.prog Tryd.f3 Rows.cborMatchesReferenceRow.domain false Rows.cborMatchesReferenceRow.laid) (((OpenSpec.ofChange Rows.cborMatchesReferenceSpec).at F).post enc Tryd.prog Tryd.f3 false true false false) := by
  refine returnsInHanded_of_row (C := Tryd.checked) (s := OpenSpec.ofChange Rows.cborMatchesReferenceSpec) own started (by kernel_rfl) Tryd.func3
    (witness_row_atRef (enc := enc) (C := Tryd.checked) false (laidWorld os) args0 rfl (by kernel_rfl) (by kernel_rfl) (by kernel_rfl) (witness_row os enc)) ?_
  intro W base args ds gs before hval0 hW _ hcnd _ hL hsh _
  have hval : ∀ (j : Nat) t v, Tryd.f3.params[j]? = some t → args[j]? = some v → Value.okWide Tryd.prog W .any base t v := hval0
  have hW' := hW
  obtain ⟨p, q, hA0, hV, rfl, hfz, hnd⟩ := hW
  have hA : DataW.TrodAll enc Tryd.prog W 0 (fun _ => true) true Tryd.f3.params.toList args.toList ds p := hA0
  rw [Tryd.params3] at hA hval
  obtain ⟨v0, vs0, d0, ds0, p0, q0, hargs, rfl, rfl, h0, r0⟩ := trodAll_cons hA
  obtain ⟨rfl, rfl, rfl⟩ := trodAll_nil r0
  obtain rfl : args = #[v0] := by cases args; simp_all
  obtain ⟨rfl, rfl⟩ := trodVars_none hV
  have k0 := h0
  have lt0 : ∀ x ∈ p0, x.block < W.heap.size := by obtain ⟨m, hm⟩ := k0; exact DataW.trod_lt m _ _ _ hm
  obtain ⟨a0, len0, cap0, rfl⟩ := okWide_slice Tryd.underlying22 (hval 0 22 v0 rfl rfl)
  obtain ⟨z0, w0⟩ := row_of h0
  have hG := glob_of_row hL
  clear hA0 hval0
  refine (walk a0 len0 cap0 z0 W w0 hG).mono fun e W' ⟨he, bel⟩ => ?_
  subst he
  exact ⟨_, rfl, _, _, _, [], _, [], hW', trodAll_mk1 (shut_bool Tryd.underlying4 _), (trodAll_cons_mk (Below.trod laidOut (by kernel_rfl) (of_decide_eq_true (by kernel_rfl)) k0 bel lt0) trodAll_mk0), rfl, bel.frame _, fun h => by cases h⟩

theorem row_holds : Rows.CborMatchesReferenceSaid :=
  OpenClaim.holds_of_cond 3 Tryd.f3 rfl rfl rfl rfl rfl rfl rfl ⟨rfl, rfl, rfl, rfl, rfl⟩ rfl rfl rfl rfl rfl (by kernel_rfl) Tryd.func3 (by kernel_rfl)
    (of_decide_eq_true (by kernel_rfl)) (by unfold Func.isWrapper; first | (rw [if_pos (by decide +kernel)]; kernel_rfl) | (rw [if_neg (by decide +kernel)]; exact ⟨rfl, rfl⟩))
    (fun os started H enc _ F0 => by rw [OpenClaim.pre_eq_preRow]; exact lifted os started H enc F0)

theorem card : Rows.CborMatchesReferenceCardSaid :=
  Claim7.holds_tied_plain_at .later [] [.data, .data, .handle] true Rows.cborMatchesReferenceCard.stood.harness true
    row_holds (fun _ h => by cases h) (by kernel_rfl) (fun _ h => by cases h) cborMatchesReference_row_tie rfl ⟨rfl, rfl⟩ (by kernel_rfl) rfl
    (fun f fn hf hfn => by
      obtain rfl : f = 3 := Option.some.inj ((show Tryd.prog.funcNamed "pyx/pyxlaw10.CborMatchesReference" = some 3 by kernel_rfl).symm.trans hf) |>.symm
      obtain rfl : fn = Tryd.f3 := (Option.some.inj (Tryd.func3.symm.trans hfn)).symm
      exact ⟨by kernel_rfl, fun j t ht => by
        rw [Tryd.params3] at ht
        obtain rfl : t = 22 := by
          rcases j with _ | j
          · simpa using ht.symm
          · simp at ht
        exact (show Tryd.prog.wantsStandIn 22 = false by kernel_rfl)⟩)
    (by kernel_rfl)


end Go.Proofs.YtmhgpdfllpgjpaaDoor.cborMatchesReference
