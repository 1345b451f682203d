/- For every width and every list of numbers the law BitsInverse of package pyxlaw05 returns true and leaves its arguments alone; there is no further condition. -/
import Derived.Test.YtdclkhnmpkbgaaaFrame
namespace Go.Proofs.Ytdclkhnmpkbgaaa.bitsInverse
open Go.ChangeShapes Go.WideShapes Go.ChangeAt Go.RowKit
set_option linter.unusedVariables false

/-- The numbers, each made small enough. -/
def smalls (P : Int) (ls : List Int) (i : Nat) : List Int := (List.range i).map fun j => ls.getD j 0 % P
theorem smalls_len (P : Int) (ls : List Int) (i : Nat) : (smalls P ls i).length = i := by simp [smalls]
theorem smalls_succ (P : Int) (ls : List Int) (i : Nat) : smalls P ls (i + 1) = smalls P ls i ++ [ls.getD i 0 % P] := by simp [smalls, List.range_succ]
theorem smalls_at (P : Int) (hP : 0 < P) (ls : List Int) (n i : Nat) : 0 ≤ (smalls P ls n).getD i 0 ∧ (smalls P ls n).getD i 0 < P := by
  by_cases h : i < n
  · simp only [smalls, List.getD_eq_getElem?_getD, List.getElem?_map, List.getElem?_range h, Option.map_some, Option.getD_some]
    exact ⟨Int.emod_nonneg _ (by omega), Int.emod_lt_of_pos _ hP⟩
  · rw [List.getD_eq_getElem?_getD, List.getElem?_eq_none (by rw [smalls_len]; omega)]
    exact ⟨Int.le_refl _, hP⟩

set_option maxHeartbeats 2000000 in
theorem walk' (d : Int) (A : Option Addr) (n c : Nat) (ls : List Int) (w : World) (hd0 : 0 ≤ d) (hd1 : d ≤ 255) (hS : SlK .u32 w A n c ls) (hr : ∀ i, 0 ≤ ls.getD i 0 ∧ ls.getD i 0 < 4294967296) :
    Calls Try.prog 5 #[.int .u8 d, .slice A n c] w fun e w' => e = .returned (.bool true) ∧ Past w w' := by
  have hcap := hS.cap
  have hbig := hS.big
  unfold maxLen at hbig
  have HA := fun w => Lib.hid (awake_any w)
  by_cases t1 : 300 < n
  · clear hS hr
    go_enter Try.func5, Try.ntmps5
    go_wp2_with fail
    refine (HA _).out.mono ?_
    rintro e w1 ⟨rfl, hp1⟩
    have H1 := Lib.hid hp1
    clear hp1
    go_wp2_with fail
    refine (HA _).out.mono ?_
    rintro e w2 ⟨rfl, hp⟩
    replace H1 := Lib.hid (H1.out.trans' hp)
    clear hp
    go_wp2_with fail
    go_ret
    exact ⟨rfl, H1.out⟩
  · have HS := Lib.hid hS
    have HR := Lib.hid hr
    have hn : n ≤ 300 := by omega
    obtain ⟨K, hK⟩ : ∃ K : Nat, 1 + d % 32 = (K : Int) := ⟨(1 + d % 32).toNat, by omega⟩
    have hK1 : 1 ≤ K := by omega
    have hK2 : K ≤ 32 := by omega
    clear hS hr t1
    obtain ⟨P, hP⟩ : ∃ P : Int, P = 2 ^ K := ⟨_, rfl⟩
    have hP0 : 0 < P := by rw [hP]; exact Int.pow_pos (by decide)
    have hP1 : P ≤ 4294967296 := by
      have h := pow_le K 32 hK2
      have e : (2 : Int) ^ 32 = 4294967296 := by decide
      omega
    have hw : IntKind.u64.wrap (2 ^ K) = P := by rw [← hP]; exact wraps_u64 _ (by omega) (by omega)
    have hsm := smalls_at P hP0 ls n
    have hnb : nbytes K n ≤ 1300 := by
      unfold nbytes
      have := Nat.mul_le_mul hK2 hn
      omega
    have HSome : Hid (rpack (K : Int) (smalls P ls n) = some (packs K (smalls P ls n) (nbytes K n))) := rpack_some_of (smalls_len P ls n) (by unfold fits; exact decide_eq_true ⟨by omega, by omega, by omega, by omega⟩) (fun i _ => by rw [← hP]; exact (hsm i).2)
    have HUn : Hid (runpack (K : Int) (n : Int) (packs K (smalls P ls n) (nbytes K n)) = some (smalls P ls n)) := by
      have h := runpack_pack hK1 hK2 (smalls P ls n) (by rw [smalls_len]; omega) (fun i _ => by rw [← hP]; exact hsm i)
      rw [smalls_len] at h
      exact h
    have HPL := Lib.hid (packs_len K (smalls P ls n) (nbytes K n))
    have HSM : Hid (∀ i, 0 ≤ (smalls P ls n).getD i 0 ∧ (smalls P ls n).getD i 0 < 4294967296) := fun i => by
      have := hsm i
      omega
    have HSZ := fun w => Lib.hid (psize_any K n w)
    simp only [sizeI_nat hK1 hK2 n (by omega)] at HSZ
    clear hsm hP
    generalize packs K (smalls P ls n) (nbytes K n) = bs at *
    generalize nbytes K n = NB at *
    go_enter Try.func5, Try.ntmps5
    go_wp2_with fail
    refine (HA _).out.mono ?_
    rintro e w1 ⟨rfl, hp1⟩
    have H1 := Lib.hid hp1
    clear hp1
    go_wp2_with fail
    have HO0 : Hid (w1.ownsRow w1.heap.size 35 1 (.slice none 0 0) 0 ((smalls P ls 0).map (Value.int .u32)) ∧ Past w1 w1) := ⟨World.ownsRow_nil _ _ _ _, Below.refl _ _⟩
    go_loopg [6, 7] n (fun k s6 s7 wx => ∃ i : Nat, i ≤ n ∧ k = n - i ∧ s7 = .int .i64 (i : Int) ∧ Hid (wx.ownsRow w1.heap.size 35 1 s6 i ((smalls P ls i).map (Value.int .u32)) ∧ Past w1 wx))
    case atStart => exact ⟨0, Nat.zero_le _, rfl, rfl, HO0⟩
    case round =>
      clear HO0
      obtain ⟨i, hin, hgk, rfl, HO⟩ := hrel
      have HGK := Lib.hid hgk
      clear hgk
      have H2 := Lib.hid (H1.out.trans' HO.out.2)
      by_cases hlt : i < n
      · obtain ⟨b, o, rfl, hc⟩ := (HS.out.past H2.out).cells (by omega)
        have hx := hc i hlt
        clear hc
        have hi0 : (0 : Int) ≤ (i : Int) := by omega
        have hin1 : (i : Int) < (n : Int) := by omega
        obtain ⟨hx0, hx1⟩ := HR.out i
        have HSU := Lib.hid (smalls_succ P ls i)
        generalize ls.getD i 0 = X at *
        have hm0 : 0 ≤ X % P := Int.emod_nonneg _ (by omega)
        have hm1 : X % P ≤ 4294967295 := by
          have := Int.emod_lt_of_pos X hP0
          omega
        obtain ⟨i3, hi3, hz30, hz31, hz32⟩ := info_parts info32
        go_wp2_with (at_builtin; refine wpList_append_own _ rfl _ _ 22 rfl w1.heap.size 35 i3 (.int .u32 0) 1 4 Try.underlying22 hi3 hz30 hz31 hz32 rfl (by decide) _ i _ rfl (HO.out.1.alloc _) ⟨wr.heap.size, 0, none⟩ 1 1 [.int .u32 (X % P)] rfl rfl ?c1 ?c2 ?c3 ?c4 ?c5 ?_)
        case c1 => exact one_cell wr _ _
        case c2 => simp [Value.oneCell']
        case c3 => unfold maxLen; omega
        case c4 => omega
        case c5 => exact Nat.le_trans HO.out.2.size (by simp)
        intro v' w3 hown1 hgrow1 _
        have HO2 : Hid (w3.ownsRow w1.heap.size 35 1 v' (i + 1) ((smalls P ls (i + 1)).map (Value.int .u32)) ∧ Past w1 w3) := by
          rw [HSU.out, List.map_append]
          exact ⟨hown1, (HO.out.2.trans' (past_alloc _ _)).grown hgrow1 (Nat.le_trans HO.out.2.size (by simp)) (own_block_ge HO.out.1)⟩
        clear hown1 hgrow1 HO
        go_wp2_with fail
        go_roundg (n - (i + 1))
        case rel => exact ⟨i + 1, by omega, rfl, by go_num, HO2⟩
        case measure => have := HGK.out; omega
      · obtain rfl : i = n := by omega
        obtain ⟨A6, c6, rfl⟩ := own_slice HO.out.1
        have H3 : Hid (SlK .u32 wr A6 i c6 (smalls P ls i) ∧ Past w wr) := ⟨SlK.of_own HO.out.1, H2.out⟩
        clear HO H1 H2 hw hP0 hP1
        generalize smalls P ls i = ss at *
        go_wp2_with fail
        have HP := ppack_any K A6 i c6 ss wr H3.out.1 HSM.out (by omega)
        rw [HSome.out] at HP
        replace HP := Lib.hid HP
        refine HP.out.mono ?_
        rintro e w4 ⟨B, nb, cb, rfl, hb, hp⟩
        obtain rfl : NB = nb := HPL.out.symm.trans hb.len
        have H4 : Hid (Sl w4 B NB cb bs ∧ SlK .u32 w4 A6 i c6 ss ∧ Past w w4) := ⟨hb, H3.out.1.past hp, H3.out.2.trans' hp⟩
        clear hb hp HP H3
        go_wp2_with fail
        have HP := punpack_any K i B NB cb bs w4 H4.out.1 (by omega)
        rw [HUn.out] at HP
        replace HP := Lib.hid HP
        refine HP.out.mono ?_
        rintro e w5 ⟨B2, nb2, cb2, rfl, hb, hp⟩
        obtain rfl : i = nb2 := H4.out.2.1.len.symm.trans hb.len
        replace H4 : Hid (SlK .u32 w5 B2 i cb2 ss ∧ SlK .u32 w5 A6 i c6 ss ∧ Past w w5) := ⟨hb, H4.out.2.1.past hp, H4.out.2.2.trans' hp⟩
        clear hb hp HP
        go_wp2_with fail
        refine (rsame5_self B2 A6 i cb2 c6 ss w5 H4.out.1 H4.out.2.1).mono ?_
        rintro e w6 ⟨rfl, m, hw⟩
        replace H4 : Hid (Past w w6) := by rw [hw]; exact H4.out.2.2.drewN m
        clear hw
        go_wp2_with fail
        refine (HSZ _).out.mono ?_
        rintro e w' ⟨rfl, rfl⟩
        go_wp2_with fail
        go_ret
        exact ⟨rfl, H4.out⟩

theorem walk (d : Int) (A : Option Addr) (len cap : Nat) (zs : List Int) (w : World) (wd : (Lit.int .u8 d).wf = true) (h : IsRow .u32 w A len cap zs) :
    Calls Try.prog 5 #[.int .u8 d, .slice A len cap] w fun e w' => e = .returned (.bool true) ∧ Past w w' :=
  walk' d A len cap _ w (bounds_u8 wd).1 (bounds_u8 wd).2 (SlK.of_row h).1 (SlK.of_row h).2

set_option maxRecDepth 100000 in
theorem lifted (os : Os) (started : os.Started) (H : Type) (enc : TypeId × Value → H) :
    ReturnsInHanded {} Try.checked os 5 .any (Rows.bitsInverseSpec.pre6 enc Try.prog Try.f5 Rows.bitsInverseRow.domain false) (Rows.bitsInverseSpec.post enc Try.prog Try.f5 false true false false) := by
  refine returnsInHanded_of_change (C := Try.checked) own started (by kernel_rfl) Try.func5
    (ChangeSpec.witness6 (enc := enc) (C := Try.checked) false ⟨#[], #[.int .u8 0, .slice none 0 0], []⟩ 8 (by kernel_rfl) (by kernel_rfl) (by kernel_rfl) (by kernel_rfl)) ?_
  intro W base args ds gs before hval0 hW hcnd _
  have hval : ∀ (j : Nat) t v, Try.f5.params[j]? = some t → args[j]? = some v → Value.okWide Try.prog W .any base t v := hval0
  have hW' := hW
  obtain ⟨p, q, hA0, hV, rfl, hfz, hnd⟩ := hW
  have hA : DataW.TrodAll enc Try.prog W 0 (fun _ => true) true Try.f5.params.toList args.toList ds p := hA0
  rw [Try.params5] at hA hval
  obtain ⟨v0, vs0, d0, ds0, p0, q0, hargs, rfl, rfl, h0, r0⟩ := trodAll_cons hA
  obtain ⟨v1, vs1, d1, ds1, p1, q1, rfl, rfl, rfl, h1, r1⟩ := trodAll_cons r0
  obtain ⟨rfl, rfl, rfl⟩ := trodAll_nil r1
  obtain rfl : args = #[v0, v1] := by cases args; simp_all
  obtain ⟨rfl, rfl⟩ := trodVars_none hV
  obtain ⟨a0, rfl, rfl, rfl, w0⟩ := open_int Try.underlying5 (hval 0 5 v0 rfl rfl) h0
  obtain ⟨a1, len1, cap1, rfl⟩ := okWide_slice Try.underlying22 (hval 1 22 v1 rfl rfl)
  have k1 := h1
  have lt1 : ∀ x ∈ p1, x.block < W.heap.size := by obtain ⟨m, hm⟩ := k1; exact DataW.trod_lt m _ _ _ hm
  obtain ⟨z1, w1⟩ : ∃ zs, IsRow .u32 W a1 len1 cap1 zs := by
    obtain ⟨fuel, hf⟩ := h1
    rcases open_ints Try.underlying22 Try.underlying35 (by kernel_rfl) hf with ⟨hcs, _⟩ | ⟨x, l, c, zs, hcs, _, hl, hm, hz, _, hcell, hwz⟩
    · simp [Value.cells] at hcs
      obtain ⟨rfl, rfl, rfl⟩ := hcs
      exact ⟨[], .inl ⟨rfl, rfl, rfl, rfl⟩⟩
    · simp [Value.cells] at hcs
      obtain ⟨rfl, rfl, rfl⟩ := hcs
      exact ⟨zs, .inr ⟨_, rfl, hl, hm, by simpa using hz, hcell, hwz⟩⟩
  clear hA0 hval0
  refine (walk a0 a1 len1 cap1 z1 W w0 w1).mono fun e W' ⟨he, bel⟩ => ?_
  subst he
  exact ⟨_, rfl, _, _, _, [], _, [], hW', trodAll_mk1 (shut_bool Try.underlying4 _), (trodAll_cons_mk (shut_int Try.underlying5 w0) (trodAll_cons_mk (Below.trod laidOut (by kernel_rfl) (of_decide_eq_true (by kernel_rfl)) k1 bel lt1) trodAll_mk0)), rfl, bel.frame _, fun h => by cases h⟩

theorem over : Rows.bitsInverseRow.holds Try.pinned (OpenSpec.ofChange Rows.bitsInverseSpec) :=
  OpenClaim.holds_of_wide 5 Try.f5 rfl rfl rfl rfl rfl rfl rfl ⟨rfl, rfl, rfl, rfl, rfl⟩ rfl rfl rfl rfl rfl (by kernel_rfl) Try.func5 (by kernel_rfl)
    (of_decide_eq_true (by kernel_rfl)) (by unfold Func.isWrapper; first | (rw [if_pos (by decide +kernel)]; kernel_rfl) | (rw [if_neg (by decide +kernel)]; exact ⟨rfl, rfl⟩))
    (fun os started H enc _ => lifted os started H enc)

theorem proved : Rows.BitsInverseSaid := over

end Go.Proofs.Ytdclkhnmpkbgaaa.bitsInverse
