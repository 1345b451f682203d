/- Contracts of package fault's readers: Code and At. -/
import Derived.Test.YtdpnfojpeafdhaaDoorErr8
import Derived.Test.YtdpnfojpeafdhaaDoorErr3
namespace Go.Proofs.YtdpnfojpeafdhaaDoor
open Go.RowKit Go.Extern.Stop Go.Stop Go.Extern

theorem Ch.cd_base (r : Ch) : r.base.cd = r.cd := by
  induction r with
  | code => rfl
  | flt => rfl
  | shf g b r ih => exact ih
theorem Ch.base_in (r : Ch) (w : World) : r.base.In w := by
  induction r with
  | code => trivial
  | flt => trivial
  | shf g b r ih => exact ih
theorem Ch.base_base (r : Ch) : r.base.base = r.base := by
  induction r with
  | code => rfl
  | flt => rfl
  | shf g b r ih => exact ih

theorem find_nil (w : World) : Calls Tryd.prog 46 #[.nilIface] w fun e w' => e = .returned (.tuple #[.nilIface, .int .i64 0]) ∧ w = w' := by
  go_enter Tryd.func46, Tryd.ntmps46
  go_wp2
  refine wp_loop_rounds 1 ?_
  rw [rounds_succ]
  go_wp2
  go_ret2
  exact ⟨rfl, rfl⟩

theorem code_nil (w : World) : Calls Tryd.prog 35 #[.nilIface] w fun e w' => e = .returned (.tuple #[.int .i64 0, .bool false]) ∧ Past w w' := by
  go_enter Tryd.func35, Tryd.ntmps35
  go_wp2_with fail
  refine (find_nil _).mono ?_
  rintro e w1 ⟨rfl, rfl⟩
  go_wp2_with fail
  refine (asNil_any _ _).mono ?_
  rintro e w1 ⟨rfl, rfl⟩
  go_wp2_with fail
  go_ret2
  exact ⟨rfl, (Below.refl _ _).alloc (Nat.le_refl _) _⟩

theorem code_any (r : Ch) (w : World) (hI : r.In w) (hG : Glob w) : Calls Tryd.prog 35 #[r.val] w fun e w' => e = .returned (.tuple #[.int .i64 r.cd, .bool true]) ∧ Past w w' := by
  have HF := Lib.hid (find_any r w hI)
  have HG := Lib.hid hG
  have HB : Hid (r.base.cd = r.cd) := r.cd_base
  have HBI : Hid (∀ W, r.base.In W) := r.base_in
  generalize r.base = B at HF HB HBI
  generalize r.acc 0 = A at HF
  obtain ⟨T, y, hv⟩ := r.shape
  rw [hv] at HF ⊢
  clear hv hI hG
  go_enter Tryd.func35, Tryd.ntmps35
  go_wp2_with fail
  refine HF.out.mono ?_
  rintro e w1 ⟨rfl, hp⟩
  have HP := Lib.hid hp
  clear hp
  have h1 : Past w1 (w1.alloc (.cells #[.int .i64 0] 56)) := (Below.refl _ _).alloc (Nat.le_refl _) _
  have HA := Lib.hid (asCode_any B w1.heap.size 0 _ (HBI.out _) (HG.out.past (HP.out.trans' h1)) (Row.new w1 _ _))
  clear h1
  rw [HB.out] at HA
  obtain ⟨T2, y2, hv2⟩ := B.shape
  rw [hv2] at HA ⊢
  clear hv2
  go_wp2_with fail
  refine HA.out.mono ?_
  rintro e w2 ⟨rfl, h2, h3⟩
  have hc := h2.cell 0
  simp at hc
  have HP2 : Hid (Past w w2) := past_of_only (HP.out.trans' ((Below.refl _ _).alloc (Nat.le_refl _) _)) h3 (by
    have := HP.out.size
    simp
    omega) HP.out.size
  clear h2 h3
  go_wp2_with fail
  go_ret2
  exact ⟨rfl, HP2.out⟩

theorem at_nil (w : World) : Calls Tryd.prog 29 #[.nilIface] w fun e w' => e = .returned (.tuple #[.int .i64 0, .bool false]) ∧ Past w w' := by
  go_enter Tryd.func29, Tryd.ntmps29
  go_wp2_with fail
  refine (find_nil _).mono ?_
  rintro e w1 ⟨rfl, rfl⟩
  go_wp2_with fail
  refine (asNil_any _ _).mono ?_
  rintro e w1 ⟨rfl, rfl⟩
  go_wp2_with fail
  go_ret2
  exact ⟨rfl, (Below.refl _ _).alloc (Nat.le_refl _) _⟩

/-- What At answers: the offset with the shifts ahead of it, or nothing. -/
def atVal (r : Ch) : Value :=
  match r.base with
  | .flt _ a => .tuple #[.int .i64 (wrap64 (a + r.acc 0)), .bool true]
  | _ => .tuple #[.int .i64 0, .bool false]

theorem at_any (r : Ch) (w : World) (hI : r.In w) (hG : Glob w) : Calls Tryd.prog 29 #[r.val] w fun e w' => e = .returned (atVal r) ∧ Past w w' := by
  have HF := Lib.hid (find_any r w hI)
  have HG := Lib.hid hG
  have HBI : Hid (∀ W, r.base.In W) := r.base_in
  have HBB : Hid (r.base.base = r.base) := r.base_base
  generalize hav : atVal r = av
  have HV : Hid (atVal r = av) := hav
  clear hav
  have HV2 : Hid ((∀ c a, r.base = .flt c a → av = .tuple #[.int .i64 (wrap64 (a + r.acc 0)), .bool true]) ∧ ∀ c, r.base = .code c → av = .tuple #[.int .i64 0, .bool false]) := by
    refine ⟨fun c a h => ?_, fun c h => ?_⟩ <;> (rw [← HV.out]; unfold atVal; rw [h])
  clear HV
  generalize r.base = B at HF HBI HV2 HBB
  generalize r.acc 0 = A at HF HV2
  obtain ⟨T, y, hv⟩ := r.shape
  rw [hv] at HF ⊢
  clear hv hI hG
  go_enter Tryd.func29, Tryd.ntmps29
  go_wp2_with fail
  refine HF.out.mono ?_
  rintro e w1 ⟨rfl, hp⟩
  have HP := Lib.hid hp
  clear hp
  have h1 : Past w1 (w1.alloc (.cells #[.int .i64 0, .int .i64 0] 73)) := (Below.refl _ _).alloc (Nat.le_refl _) _
  have HA := Lib.hid (asFault_any B w1.heap.size _ _ (HBI.out _) (HG.out.past (HP.out.trans' h1)) (Row.new w1 _ _) rfl)
  clear h1
  rw [HBB.out] at HA
  obtain ⟨T2, y2, hv2⟩ := B.shape
  rw [hv2] at HA ⊢
  clear hv2
  go_wp2_with fail
  refine HA.out.mono ?_
  rintro e w2 (⟨c, a, hb, rfl, h2, h3⟩ | ⟨c, hb, rfl, h2, h3⟩)
  · have hc := h2.cell 1
    simp at hc
    have HP2 : Hid (Past w w2) := past_of_only (HP.out.trans' ((Below.refl _ _).alloc (Nat.le_refl _) _)) h3 (by
      have := HP.out.size
      simp
      omega) HP.out.size
    have HAV := Lib.hid (HV2.out.1 c a hb)
    clear h2 h3 hb
    go_wp2_with fail
    go_ret2
    exact ⟨by rw [HAV.out]; rfl, HP2.out⟩
  · have HP2 : Hid (Past w w2) := (HP.out.trans' ((Below.refl _ _).alloc (Nat.le_refl _) _)).trans' h3
    have HAV := Lib.hid (HV2.out.2 c hb)
    clear h2 h3 hb
    go_wp2_with fail
    go_ret2
    exact ⟨by rw [HAV.out]; rfl, HP2.out⟩

end Go.Proofs.YtdpnfojpeafdhaaDoor
