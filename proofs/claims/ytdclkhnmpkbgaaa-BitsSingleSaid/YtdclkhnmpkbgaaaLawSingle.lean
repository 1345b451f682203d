/- For every width, every list of numbers and every place the law BitsSingle of package pyxlaw05 returns true and leaves its arguments alone; there is no further condition. -/
import Derived.Test.YtdclkhnmpkbgaaaFrame
namespace Go.Proofs.Ytdclkhnmpkbgaaa.bitsSingle
open Go.ChangeShapes Go.WideShapes Go.ChangeAt Go.RowKit
set_option linter.unusedVariables false

theorem mask_u32 {z : Int} (h0 : 0 ≤ z) (h1 : z < 4294967296) : bits .and .u32 z 1 = z % 2 := bits_mask .u32 32 (by decide) wraps_u32 1 (by decide) z h0 (by omega)

set_option maxHeartbeats 2000000 in
theorem walk' (d at' : Int) (A : Option Addr) (n c : Nat) (ls : List Int) (w : World) (hd0 : 0 ≤ d) (hd1 : d ≤ 255) (ha0 : 0 ≤ at') (ha1 : at' ≤ 65535) (hS : SlK .u32 w A n c ls) (hr : ∀ i, 0 ≤ ls.getD i 0 ∧ ls.getD i 0 < 4294967296) :
    Calls Try.prog 6 #[.int .u8 d, .slice A n c, .int .u16 at'] w fun e w' => e = .returned (.bool true) ∧ Past w w' := by
  have hcap := hS.cap
  have hbig := hS.big
  unfold maxLen at hbig
  have HA := fun w => Lib.hid (awake_any w)
  by_cases t1 : 300 < n
  · clear hS hr
    go_enter Try.func6, Try.ntmps6
    go_wp2_with fail
    refine (HA _).out.mono ?_
    rintro e w1 ⟨rfl, hp1⟩
    have H1 := Lib.hid hp1
    clear hp1
    go_wp2_with fail
    refine (HA _).out.mono ?_
    rintro e w2 ⟨rfl, hp⟩
    replace H1 := Lib.hid (H1.out.trans' hp)
    clear hp
    go_wp2_with fail
    go_ret
    exact ⟨rfl, H1.out⟩
  by_cases t2 : n = 0
  · subst t2
    clear hS hr
    go_enter Try.func6, Try.ntmps6
    go_wp2_with fail
    refine (HA _).out.mono ?_
    rintro e w1 ⟨rfl, hp1⟩
    have H1 := Lib.hid hp1
    clear hp1
    go_wp2_with fail
    refine (HA _).out.mono ?_
    rintro e w2 ⟨rfl, hp⟩
    replace H1 := Lib.hid (H1.out.trans' hp)
    clear hp
    go_wp2_with fail
    go_ret
    exact ⟨rfl, H1.out⟩
  have HS := Lib.hid hS
  have HR := Lib.hid hr
  have HLN := Lib.hid hS.len
  have hn : n ≤ 300 := by omega
  have hn1 : ¬ (300 : Int) < (n : Int) := by omega
  have hn2 : ((n : Int) == 0) = false := by simp; omega
  obtain ⟨K, hK⟩ : ∃ K : Nat, 1 + d % 32 = (K : Int) := ⟨(1 + d % 32).toNat, by omega⟩
  have hK1 : 1 ≤ K := by omega
  have hK2 : K ≤ 32 := by omega
  clear hS hr t1
  cases ho : rpack K ls with
  | none =>
    have HO := Lib.hid ho
    clear ho t2
    go_enter Try.func6, Try.ntmps6
    go_wp2_with fail
    refine (HA _).out.mono ?_
    rintro e w1 ⟨rfl, hp1⟩
    have H1 := Lib.hid hp1
    clear hp1
    go_wp2_with fail
    have HP := ppack_any K A n c ls w1 (HS.out.past H1.out) HR.out (by omega)
    rw [HO.out] at HP
    replace HP := Lib.hid HP
    refine HP.out.mono ?_
    rintro e w2 ⟨rfl, hp⟩
    replace H1 := Lib.hid (H1.out.trans' hp)
    clear hp HP
    go_wp2_with fail
    go_ret
    exact ⟨rfl, H1.out⟩
  | some ys =>
    have hys : ys = packs K ls (nbytes K n) := by
      unfold rpack at ho
      split at ho
      · cases ho
      · injection ho with ho
        rw [← ho, HLN.out, Int.toNat_natCast]
    have HO := Lib.hid ho
    clear ho
    obtain ⟨M, hM⟩ : ∃ M : Nat, K * n = M := ⟨_, rfl⟩
    have hMi : (K : Int) * (n : Int) = (M : Int) := by rw [← hM, Int.natCast_mul]
    have hM1 : 1 ≤ M := by
      have := Nat.mul_le_mul hK1 (show 1 ≤ n by omega)
      omega
    have hM2 : M ≤ 9600 := by
      have := Nat.mul_le_mul hK2 hn
      omega
    obtain ⟨I, hI⟩ : ∃ I : Nat, at' % (M : Int) = (I : Int) := ⟨(at' % (M : Int)).toNat, by have := Int.emod_nonneg at' (show (M : Int) ≠ 0 by omega); omega⟩
    have hIM : I < M := by
      have := Int.emod_lt_of_pos at' (show 0 < (M : Int) by omega)
      omega
    obtain ⟨q, hq⟩ : ∃ q, I / K = q := ⟨_, rfl⟩
    obtain ⟨m, hm⟩ : ∃ m, I % K = m := ⟨_, rfl⟩
    have hqi : (I : Int) / (K : Int) = (q : Int) := by rw [← hq]; exact (Int.natCast_ediv I K).symm
    have hmi : (I : Int) % (K : Int) = (m : Int) := by rw [← hm]; exact (Int.natCast_emod I K).symm
    have hqn : q < n := by
      rw [← hq]
      exact (Nat.div_lt_iff_lt_mul (by omega)).2 (by rw [Nat.mul_comm, hM]; exact hIM)
    have hm32 : m < 32 := by
      have := Nat.mod_lt I (show 0 < K by omega)
      omega
    obtain ⟨NB, hNB⟩ : ∃ NB, nbytes K n = NB := ⟨_, rfl⟩
    have hNB1 : M ≤ 8 * NB := by rw [← hNB]; unfold nbytes; omega
    have hNB2 : NB ≤ 1300 := by rw [← hNB]; unfold nbytes; omega
    have hL : ys.length = NB := by rw [hys, packs_len, hNB]
    have hb1 : bitB NB I = true := decide_eq_true ⟨by omega, by omega⟩
    have hb2 : bitB NB (8 * (NB : Int)) = false := decide_eq_false fun h => by omega
    have hb3 : bitB NB (-1 - (I : Int)) = false := decide_eq_false fun h => by omega
    have hv1 : bitV ys NB I = ls.getD q 0 / 2 ^ m % 2 := by
      unfold bitV
      rw [hb1, if_pos rfl, Int.toNat_natCast, hys, hNB, lbit_packs K ls NB I (by omega)]
      unfold pbit
      rw [hq, hm]
    have hv2 : bitV ys NB (8 * (NB : Int)) = 0 := by unfold bitV; rw [hb2]; rfl
    have hv3 : bitV ys NB (-1 - (I : Int)) = 0 := by unfold bitV; rw [hb3]; rfl
    have HB1 := Lib.hid (fun A c w (h : Sl w A NB c ys) => pbitat_any I A NB c ys w h (by omega) (by omega))
    have HB2 := Lib.hid (fun A c w (h : Sl w A NB c ys) => pbitat_any (8 * (NB : Int)) A NB c ys w h (by omega) (by omega))
    have HB3 := Lib.hid (fun A c w (h : Sl w A NB c ys) => pbitat_any (-1 - (I : Int)) A NB c ys w h (by omega) (by omega))
    rw [hb1, hv1] at HB1
    rw [hb2, hv2] at HB2
    rw [hb3, hv3] at HB3
    have HL := Lib.hid hL
    clear hb1 hb2 hb3 hv1 hv2 hv3 hys hL hq hm hNB hM t2
    have HX := Lib.hid (HR.out q)
    have HCE : Hid (∀ wx, Past w wx → ∀ b o, A = some ⟨b, o, none⟩ → wx.cell? ⟨b, o + q, none⟩ = some (.int .u32 (ls.getD q 0))) := Lib.hid (fun (wx : World) (hp : Past w wx) b o e => by
      obtain ⟨b', o', e', hx⟩ := (HS.out.past hp).cells (by omega)
      rw [e] at e'
      injection e' with e'
      injection e' with e1 e2
      subst e1 e2
      exact hx q hqn)
    obtain ⟨b, o, rfl, _⟩ := HS.out.cells (by omega)
    generalize ls.getD q 0 = X at *
    obtain ⟨hx0, hx1⟩ := HX.out
    have hz : Hid (bits .and .u32 (X / 2 ^ m) 1 = X / 2 ^ m % 2) := by
      have h0 : 0 ≤ X / 2 ^ m := Int.ediv_nonneg hx0 (Int.le_of_lt (Int.pow_pos (by decide)))
      have h1 : X / 2 ^ m ≤ X := Int.ediv_le_self _ hx0
      exact mask_u32 h0 (by omega)
    have hKi : 1 ≤ (K : Int) := by omega
    have hqni : (q : Int) < (n : Int) := by omega
    have hq0 : 0 ≤ (q : Int) := by omega
    go_enter Try.func6, Try.ntmps6
    go_wp2_with fail
    refine (HA _).out.mono ?_
    rintro e w1 ⟨rfl, hp1⟩
    have H1 := Lib.hid hp1
    clear hp1
    go_wp2_with fail
    have HP := ppack_any K (some ⟨b, o, none⟩) n c ls w1 (HS.out.past H1.out) HR.out (by omega)
    rw [HO.out] at HP
    replace HP := Lib.hid HP
    refine HP.out.mono ?_
    rintro e w2 ⟨B, nb, cb, rfl, hb, hp⟩
    obtain rfl : NB = nb := HL.out.symm.trans hb.len
    replace H1 := Lib.hid (And.intro hb (H1.out.trans' hp))
    clear hp HP hb
    go_wp2_with fail
    refine (HB1.out B cb _ H1.out.1).mono ?_
    rintro e w' ⟨rfl, rfl⟩
    go_wp2_with fail
    refine (HB2.out B cb _ H1.out.1).mono ?_
    rintro e w' ⟨rfl, rfl⟩
    go_wp2_with fail
    refine (HB3.out B cb _ H1.out.1).mono ?_
    rintro e w' ⟨rfl, rfl⟩
    have hcx := HCE.out _ H1.out.2 b o rfl
    go_wp2_with fail
    go_quiet (fail)
    have hfin : (X / 2 ^ m % 2 == wrap64 (bits .and .u32 (X / 2 ^ m) 1)) = true := by
      rw [hz.out]
      generalize X / 2 ^ m = z
      simp [wrap64]
      omega
    go_wp2
    go_ret
    exact ⟨congrArg (fun z => Ending.returned (Value.bool z)) hfin, H1.out.2.drewN _⟩

theorem walk (d : Int) (A : Option Addr) (len cap : Nat) (zs : List Int) (at' : Int) (w : World) (wd : (Lit.int .u8 d).wf = true) (h : IsRow .u32 w A len cap zs) (wa : (Lit.int .u16 at').wf = true) :
    Calls Try.prog 6 #[.int .u8 d, .slice A len cap, .int .u16 at'] w fun e w' => e = .returned (.bool true) ∧ Past w w' :=
  walk' d at' A len cap _ w (bounds_u8 wd).1 (bounds_u8 wd).2 (bounds_u16 wa).1 (bounds_u16 wa).2 (SlK.of_row h).1 (SlK.of_row h).2

set_option maxRecDepth 100000 in
theorem lifted (os : Os) (started : os.Started) (H : Type) (enc : TypeId × Value → H) :
    ReturnsInHanded {} Try.checked os 6 .any (Rows.bitsSingleSpec.pre6 enc Try.prog Try.f6 Rows.bitsSingleRow.domain false) (Rows.bitsSingleSpec.post enc Try.prog Try.f6 false true false false) := by
  refine returnsInHanded_of_change (C := Try.checked) own started (by kernel_rfl) Try.func6
    (ChangeSpec.witness6 (enc := enc) (C := Try.checked) false ⟨#[], #[.int .u8 0, .slice none 0 0, .int .u16 0], []⟩ 8 (by kernel_rfl) (by kernel_rfl) (by kernel_rfl) (by kernel_rfl)) ?_
  intro W base args ds gs before hval0 hW hcnd _
  have hval : ∀ (j : Nat) t v, Try.f6.params[j]? = some t → args[j]? = some v → Value.okWide Try.prog W .any base t v := hval0
  have hW' := hW
  obtain ⟨p, q, hA0, hV, rfl, hfz, hnd⟩ := hW
  have hA : DataW.TrodAll enc Try.prog W 0 (fun _ => true) true Try.f6.params.toList args.toList ds p := hA0
  rw [Try.params6] at hA hval
  obtain ⟨v0, vs0, d0, ds0, p0, q0, hargs, rfl, rfl, h0, r0⟩ := trodAll_cons hA
  obtain ⟨v1, vs1, d1, ds1, p1, q1, rfl, rfl, rfl, h1, r1⟩ := trodAll_cons r0
  obtain ⟨v2, vs2, d2, ds2, p2, q2, rfl, rfl, rfl, h2, r2⟩ := trodAll_cons r1
  obtain ⟨rfl, rfl, rfl⟩ := trodAll_nil r2
  obtain rfl : args = #[v0, v1, v2] := by cases args; simp_all
  obtain ⟨rfl, rfl⟩ := trodVars_none hV
  obtain ⟨a0, rfl, rfl, rfl, w0⟩ := open_int Try.underlying5 (hval 0 5 v0 rfl rfl) h0
  obtain ⟨a1, len1, cap1, rfl⟩ := okWide_slice Try.underlying22 (hval 1 22 v1 rfl rfl)
  have k1 := h1
  have lt1 : ∀ x ∈ p1, x.block < W.heap.size := by obtain ⟨m, hm⟩ := k1; exact DataW.trod_lt m _ _ _ hm
  obtain ⟨z1, w1⟩ : ∃ zs, IsRow .u32 W a1 len1 cap1 zs := by
    obtain ⟨fuel, hf⟩ := h1
    rcases open_ints Try.underlying22 Try.underlying35 (by kernel_rfl) hf with ⟨hcs, _⟩ | ⟨x, l, c, zs, hcs, _, hl, hm, hz, _, hcell, hwz⟩
    · simp [Value.cells] at hcs
      obtain ⟨rfl, rfl, rfl⟩ := hcs
      exact ⟨[], .inl ⟨rfl, rfl, rfl, rfl⟩⟩
    · simp [Value.cells] at hcs
      obtain ⟨rfl, rfl, rfl⟩ := hcs
      exact ⟨zs, .inr ⟨_, rfl, hl, hm, by simpa using hz, hcell, hwz⟩⟩
  obtain ⟨a2, rfl, rfl, rfl, w2⟩ := open_int Try.underlying39 (hval 2 39 v2 rfl rfl) h2
  clear hA0 hval0
  refine (walk a0 a1 len1 cap1 z1 a2 W w0 w1 w2).mono fun e W' ⟨he, bel⟩ => ?_
  subst he
  exact ⟨_, rfl, _, _, _, [], _, [], hW', trodAll_mk1 (shut_bool Try.underlying4 _), (trodAll_cons_mk (shut_int Try.underlying5 w0) (trodAll_cons_mk (Below.trod laidOut (by kernel_rfl) (of_decide_eq_true (by kernel_rfl)) k1 bel lt1) (trodAll_cons_mk (shut_int Try.underlying39 w2) trodAll_mk0))), rfl, bel.frame _, fun h => by cases h⟩

theorem over : Rows.bitsSingleRow.holds Try.pinned (OpenSpec.ofChange Rows.bitsSingleSpec) :=
  OpenClaim.holds_of_wide 6 Try.f6 rfl rfl rfl rfl rfl rfl rfl ⟨rfl, rfl, rfl, rfl, rfl⟩ rfl rfl rfl rfl rfl (by kernel_rfl) Try.func6 (by kernel_rfl)
    (of_decide_eq_true (by kernel_rfl)) (by unfold Func.isWrapper; first | (rw [if_pos (by decide +kernel)]; kernel_rfl) | (rw [if_neg (by decide +kernel)]; exact ⟨rfl, rfl⟩))
    (fun os started H enc _ => lifted os started H enc)

theorem proved : Rows.BitsSingleSaid := over

end Go.Proofs.Ytdclkhnmpkbgaaa.bitsSingle
