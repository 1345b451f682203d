/- For every width and every list of numbers the law BitsMatchesReference of package pyxlaw05 returns true and leaves its arguments alone; there is no further condition. -/
import Derived.Test.YtdclkhnmpkbgaaaFrame
namespace Go.Proofs.Ytdclkhnmpkbgaaa.bitsMatches
open Go.ChangeShapes Go.WideShapes Go.ChangeAt Go.RowKit
set_option linter.unusedVariables false

set_option maxHeartbeats 1000000 in
theorem walk' (d : Int) (A : Option Addr) (n c : Nat) (ls : List Int) (w : World) (hS : SlK .u32 w A n c ls) (hr : ∀ i, 0 ≤ ls.getD i 0 ∧ ls.getD i 0 < 4294967296) :
    Calls Try.prog 3 #[.int .i64 d, .slice A n c] w fun e w' => e = .returned (.bool true) ∧ Past w w' := by
  have hcap := hS.cap
  have hbig := hS.big
  unfold maxLen at hbig
  have HA := fun w => Lib.hid (awake_any w)
  by_cases t1 : 300 < n
  · clear hS hr
    go_enter Try.func3, Try.ntmps3
    go_wp2_with fail
    refine (HA _).out.mono ?_
    rintro e w1 ⟨rfl, hp1⟩
    have H1 := Lib.hid hp1
    clear hp1
    go_wp2_with fail
    refine (HA _).out.mono ?_
    rintro e w2 ⟨rfl, hp⟩
    replace H1 := Lib.hid (H1.out.trans' hp)
    clear hp
    go_wp2_with fail
    go_ret
    exact ⟨rfl, H1.out⟩
  · have HS := Lib.hid (And.intro hS hr)
    have hn : n ≤ 10000 := by omega
    clear hS hr
    cases ho : rpack d ls with
    | none =>
      have HO := Lib.hid ho
      clear ho
      go_enter Try.func3, Try.ntmps3
      go_wp2_with fail
      refine (HA _).out.mono ?_
      rintro e w1 ⟨rfl, hp1⟩
      have H1 := Lib.hid hp1
      clear hp1
      go_wp2_with fail
      have HP := ppack_any d A n c ls w1 (HS.out.1.past H1.out) HS.out.2 hn
      rw [HO.out] at HP
      replace HP := Lib.hid HP
      refine HP.out.mono ?_
      rintro e w2 ⟨rfl, hp⟩
      replace H1 := Lib.hid (H1.out.trans' hp)
      clear hp HP
      go_wp2_with fail
      have HP := rpack_any d A n c ls w2 (HS.out.1.past H1.out) HS.out.2 hn
      rw [HO.out] at HP
      replace HP := Lib.hid HP
      refine HP.out.mono ?_
      rintro e w3 ⟨rfl, hp⟩
      replace H1 := Lib.hid (H1.out.trans' hp)
      clear hp HP
      go_wp2_with fail
      refine (rsame_nil _).mono ?_
      rintro e w4 ⟨rfl, m, hw⟩
      replace H1 : Hid (Past w w4) := by rw [hw]; exact H1.out.drewN m
      clear hw
      go_wp2_with fail
      go_ret
      exact ⟨rfl, H1.out⟩
    | some ys =>
      have HO := Lib.hid ho
      clear ho
      go_enter Try.func3, Try.ntmps3
      go_wp2_with fail
      refine (HA _).out.mono ?_
      rintro e w1 ⟨rfl, hp1⟩
      have H1 := Lib.hid hp1
      clear hp1
      go_wp2_with fail
      have HP := ppack_any d A n c ls w1 (HS.out.1.past H1.out) HS.out.2 hn
      rw [HO.out] at HP
      replace HP := Lib.hid HP
      refine HP.out.mono ?_
      rintro e w2 ⟨B, nb, cb, rfl, hb, hp⟩
      replace H1 := Lib.hid (And.intro hb (H1.out.trans' hp))
      clear hp HP hb
      go_wp2_with fail
      have HP := rpack_any d A n c ls w2 (HS.out.1.past H1.out.2) HS.out.2 hn
      rw [HO.out] at HP
      replace HP := Lib.hid HP
      refine HP.out.mono ?_
      rintro e w3 ⟨B2, nb2, cb2, rfl, hb, hp⟩
      obtain rfl : nb = nb2 := H1.out.1.len.symm.trans hb.len
      replace H1 := Lib.hid (And.intro hb (And.intro (H1.out.1.past hp) (H1.out.2.trans' hp)))
      clear hp HP hb
      go_wp2_with fail
      refine (rsame_self B B2 nb cb cb2 ys _ H1.out.2.1 H1.out.1).mono ?_
      rintro e w4 ⟨rfl, m, hw⟩
      replace H1 : Hid (Past w w4) := by rw [hw]; exact H1.out.2.2.drewN m
      clear hw
      go_wp2_with fail
      go_ret
      exact ⟨rfl, H1.out⟩

theorem walk (d : Int) (A : Option Addr) (len cap : Nat) (zs : List Int) (w : World) (wd : (Lit.int .i64 d).wf = true) (h : IsRow .u32 w A len cap zs) :
    Calls Try.prog 3 #[.int .i64 d, .slice A len cap] w fun e w' => e = .returned (.bool true) ∧ Past w w' :=
  walk' d A len cap _ w (SlK.of_row h).1 (SlK.of_row h).2

set_option maxRecDepth 100000 in
theorem lifted (os : Os) (started : os.Started) (H : Type) (enc : TypeId × Value → H) :
    ReturnsInHanded {} Try.checked os 3 .any (Rows.bitsMatchesReferenceSpec.pre6 enc Try.prog Try.f3 Rows.bitsMatchesReferenceRow.domain false) (Rows.bitsMatchesReferenceSpec.post enc Try.prog Try.f3 false true false false) := by
  refine returnsInHanded_of_change (C := Try.checked) own started (by kernel_rfl) Try.func3
    (ChangeSpec.witness6 (enc := enc) (C := Try.checked) false ⟨#[], #[.int .i64 0, .slice none 0 0], []⟩ 8 (by kernel_rfl) (by kernel_rfl) (by kernel_rfl) (by kernel_rfl)) ?_
  intro W base args ds gs before hval0 hW hcnd _
  have hval : ∀ (j : Nat) t v, Try.f3.params[j]? = some t → args[j]? = some v → Value.okWide Try.prog W .any base t v := hval0
  have hW' := hW
  obtain ⟨p, q, hA0, hV, rfl, hfz, hnd⟩ := hW
  have hA : DataW.TrodAll enc Try.prog W 0 (fun _ => true) true Try.f3.params.toList args.toList ds p := hA0
  rw [Try.params3] at hA hval
  obtain ⟨v0, vs0, d0, ds0, p0, q0, hargs, rfl, rfl, h0, r0⟩ := trodAll_cons hA
  obtain ⟨v1, vs1, d1, ds1, p1, q1, rfl, rfl, rfl, h1, r1⟩ := trodAll_cons r0
  obtain ⟨rfl, rfl, rfl⟩ := trodAll_nil r1
  obtain rfl : args = #[v0, v1] := by cases args; simp_all
  obtain ⟨rfl, rfl⟩ := trodVars_none hV
  obtain ⟨a0, rfl, rfl, rfl, w0⟩ := open_int Try.underlying3 (hval 0 3 v0 rfl rfl) h0
  obtain ⟨a1, len1, cap1, rfl⟩ := okWide_slice Try.underlying22 (hval 1 22 v1 rfl rfl)
  have k1 := h1
  have lt1 : ∀ x ∈ p1, x.block < W.heap.size := by obtain ⟨m, hm⟩ := k1; exact DataW.trod_lt m _ _ _ hm
  obtain ⟨z1, w1⟩ : ∃ zs, IsRow .u32 W a1 len1 cap1 zs := by
    obtain ⟨fuel, hf⟩ := h1
    rcases open_ints Try.underlying22 Try.underlying35 (by kernel_rfl) hf with ⟨hcs, _⟩ | ⟨x, l, c, zs, hcs, _, hl, hm, hz, _, hcell, hwz⟩
    · simp [Value.cells] at hcs
      obtain ⟨rfl, rfl, rfl⟩ := hcs
      exact ⟨[], .inl ⟨rfl, rfl, rfl, rfl⟩⟩
    · simp [Value.cells] at hcs
      obtain ⟨rfl, rfl, rfl⟩ := hcs
      exact ⟨zs, .inr ⟨_, rfl, hl, hm, by simpa using hz, hcell, hwz⟩⟩
  clear hA0 hval0
  refine (walk a0 a1 len1 cap1 z1 W w0 w1).mono fun e W' ⟨he, bel⟩ => ?_
  subst he
  exact ⟨_, rfl, _, _, _, [], _, [], hW', trodAll_mk1 (shut_bool Try.underlying4 _), (trodAll_cons_mk (shut_int Try.underlying3 w0) (trodAll_cons_mk (Below.trod laidOut (by kernel_rfl) (of_decide_eq_true (by kernel_rfl)) k1 bel lt1) trodAll_mk0)), rfl, bel.frame _, fun h => by cases h⟩

theorem over : Rows.bitsMatchesReferenceRow.holds Try.pinned (OpenSpec.ofChange Rows.bitsMatchesReferenceSpec) :=
  OpenClaim.holds_of_wide 3 Try.f3 rfl rfl rfl rfl rfl rfl rfl ⟨rfl, rfl, rfl, rfl, rfl⟩ rfl rfl rfl rfl rfl (by kernel_rfl) Try.func3 (by kernel_rfl)
    (of_decide_eq_true (by kernel_rfl)) (by unfold Func.isWrapper; first | (rw [if_pos (by decide +kernel)]; kernel_rfl) | (rw [if_neg (by decide +kernel)]; exact ⟨rfl, rfl⟩))
    (fun os started H enc _ => lifted os started H enc)

theorem proved : Rows.BitsMatchesReferenceSaid := over

end Go.Proofs.Ytdclkhnmpkbgaaa.bitsMatches
