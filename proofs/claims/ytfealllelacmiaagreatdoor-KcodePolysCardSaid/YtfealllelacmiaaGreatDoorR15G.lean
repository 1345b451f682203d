/- The reference's Bytes. -/
import Derived.Test.YtfealllelacmiaaGreatDoorR15C
import Derived.Test.YtfealllelacmiaaGreatDoorQ15H
namespace Go.Proofs.YtfealllelacmiaaGreatDoor
open Go.RowKit
set_option linter.unusedVariables false
set_option maxRecDepth 100000

theorem polL_take_succ (f : Nat → Int) (i : Nat) (h : i < 256) : (polL f).take (i + 1) = (polL f).take i ++ [f i % 3329] := by
  rw [take_snoc' (polL f) i (by rw [polL_len]; exact h), polL_at f i h]
set_option maxHeartbeats 2000000 in
theorem rbytes15_any (f : Nat → Int) (hf : R16 f) (w : World) : Calls Tryz.prog 22 #[.agg (arr .u16 256 f)] w fun e w' => ∃ A n c, e = .returned (.slice A n c) ∧ Sl w' A n c (bytesL f) ∧ Past w w' := by
  obtain ⟨i32, hi3, hz30, hz31, hz32⟩ := info_parts info32
  obtain ⟨g, hg⟩ : ∃ g, w.heap.size = g := ⟨_, rfl⟩
  have HCS := Lib.hid (fun j (hj : j < 256) => arr_get .u16 256 f j hj)
  obtain ⟨cs, hcs⟩ : ∃ x, arr .u16 256 f = x := ⟨_, rfl⟩
  rw [hcs] at HCS ⊢
  obtain ⟨w1, hw1⟩ : ∃ W, w.alloc (.cells cs 42) = W := ⟨_, rfl⟩
  have hr1 : Row w1 g 42 cs := by rw [← hw1, ← hg]; exact Row.new _ _ _
  have H1 : Hid (Past w w1 ∧ Row w1 g 42 cs) := Lib.hid ⟨by rw [← hw1]; exact (Below.refl _ _).alloc (Nat.le_refl _) _, hr1⟩
  have HW1 := Lib.hid hw1
  have HF := Lib.hid hf
  clear hw1 hr1 hf hcs
  go_enter Tryz.func22, Tryz.ntmps22
  go_upto_region 1 with (fail)
  rw [HW1.out]
  try rw [hg]
  clear hg
  go_wp2_with fail
  go_loopg [3, 4] 256 (fun q s3 s4 wx => ∃ i : Nat, i ≤ 256 ∧ q = 256 - i ∧ s4 = .int .i64 (i : Int) ∧ Hid (wx.ownsRow w1.heap.size 22 1 s3 i (((polL f).take i).map (Value.int .u32)) ∧ Past w1 wx))
  case atStart => exact ⟨0, Nat.zero_le _, rfl, rfl, Lib.hid ⟨⟨rfl, .inl ⟨rfl, rfl⟩⟩, Below.refl _ _⟩⟩
  case round =>
    obtain ⟨i, hi, hq, rfl, HQ⟩ := hrel
    have HGQ := Lib.hid hq
    clear hq
    have hi0 : (0 : Int) ≤ (i : Int) := by omega
    by_cases hlt : i < 256
    · have hii : (i : Int) < 256 := by omega
      have HLT := Lib.hid hlt
      have hc : wr.cell? ⟨g, i, none⟩ = some (.int .u16 (f i)) := by rw [(H1.out.2.past HQ.out.2).cell]; exact HCS.out i hlt
      obtain ⟨p0, p1⟩ := HF.out i
      have HTS := Lib.hid (polL_take_succ f i hlt)
      generalize f i = p at *
      have HWP : Hid (IntKind.u32.wrap p = p) := Lib.hid (by rw [IntKind.wrap_u32]; omega)
      have hb1 : i + 1 ≤ maxLen := by unfold maxLen; omega
      have hb2 : (i + 1) * 4 ≤ 140737488355328 := by omega
      clear hlt hi
      have hwp := HWP.out
      go_wp2_with (at_builtin; refine wpList_append_own _ rfl _ _ 64 rfl w1.heap.size 22 i32 (.int .u32 0) 1 4 Tryz.underlying64 hi3 hz30 hz31 hz32 rfl (by decide) _ i _ rfl (HQ.out.1.alloc _) ⟨wr.heap.size, 0, none⟩ 1 1 [.int .u32 (p % 3329)] rfl rfl ?d1 ?d2 ?d3 ?d4 ?d5 ?_)
      case d1 => exact one_cell wr _ _
      case d2 => simp [Value.oneCell']
      case d3 => exact hb1
      case d4 => exact hb2
      case d5 => exact Nat.le_trans HQ.out.2.size (by simp)
      intro v' w2 hown1 hgrow1 _
      clear hwp
      have HQ2 : Hid (w2.ownsRow w1.heap.size 22 1 v' (i + 1) (((polL f).take (i + 1)).map (Value.int .u32)) ∧ Past w1 w2) := Lib.hid (by
        rw [HTS.out, List.map_append, List.map_take]
        exact ⟨hown1, (HQ.out.2.trans' ((Below.refl _ _).alloc (Nat.le_refl _) _)).grown hgrow1 (Nat.le_trans HQ.out.2.size (by simp)) (own_block_ge HQ.out.1)⟩)
      clear hown1 hgrow1 HQ
      go_wp2_with fail
      go_roundg (256 - (i + 1))
      case rel => exact ⟨i + 1, HLT.out, rfl, by go_num, HQ2⟩
      case measure => have := HGQ.out; have := HLT.out; omega
    · obtain rfl : i = 256 := by omega
      obtain ⟨A, c, rfl⟩ := own_slice HQ.out.1
      have hown := HQ.out.1
      rw [List.take_of_length_le (by rw [polL_len]; exact Nat.le_refl _)] at hown
      have hS : SlK .u32 wr A 256 c (polL f) := SlK.of_own hown
      have HP := Lib.hid (rpack_any 12 A 256 c (polL f) wr hS (fun j => by have := polL_rng f j; omega) (by decide))
      rw [pack12 (polL f) 128 (polL_len f) (fun j _ => by have := polL_rng f j; omega)] at HP
      have HPW := Lib.hid (H1.out.1.trans' HQ.out.2)
      clear hS hown HQ
      go_wp2_with fail
      refine HP.out.mono ?_
      rintro e w5 ⟨A5, n5, c5, rfl, hS5, hp5⟩
      have HS5 := Lib.hid hS5
      have HP5 := Lib.hid (HPW.out.trans' hp5)
      clear hS5 hp5
      go_wp2_with fail
      go_ret
      exact ⟨A5, n5, c5, rfl, HS5.out, HP5.out⟩
end Go.Proofs.YtfealllelacmiaaGreatDoor
