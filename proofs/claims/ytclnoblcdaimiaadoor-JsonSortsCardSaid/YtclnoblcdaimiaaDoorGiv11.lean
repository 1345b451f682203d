/- The law's given and back: pairs of one package as pairs of the other one. -/
import Derived.Test.YtclnoblcdaimiaaDoorPg11S
namespace Go.Proofs.YtclnoblcdaimiaaDoor
open Go.RowKit
set_option linter.unusedVariables false

theorem infoR : (Tryd.prog.info? 48).map (fun i => (i.zero, i.size, i.bytes)) = some (some (.agg #[.string ⟨#[]⟩, .string ⟨#[]⟩]), 2, 32) := by kernel_rfl
set_option maxHeartbeats 4000000 in
set_option maxRecDepth 100000 in
theorem given_any (A : Option Addr) (n c : Nat) (l : List P2) (w : World) (h : Ps w A n c l) (hn : n ≤ 2000000) : Calls Tryd.prog 16 #[.slice A n c] w fun e w' => ∃ A c, e = .returned (.slice A n c) ∧ Ps w' A n c l ∧ Past w w' := by
  have HP := Lib.hid h
  have HL := Lib.hid h.len
  have hbig : (n : Int) ≤ 2000000 := by omega
  obtain ⟨ti, hi, hz, hsz, hby⟩ := info_parts infoP
  have HI := Lib.hid (And.intro hi (And.intro hz (And.intro hsz hby)))
  clear h hi hz hsz hby
  go_enter Tryd.func16, Tryd.ntmps16
  go_wp2_with fail
  go_loopg [3, 4] n (fun q s3 s4 wx => ∃ i : Nat, i ≤ n ∧ q = n - i ∧ s4 = .int .i64 (i : Int) ∧ Hid (wx.ownsRow w.heap.size 54 2 s3 i (pcells (l.take i)) ∧ Past w wx))
  case atStart => exact ⟨0, Nat.zero_le _, rfl, rfl, Lib.hid ⟨World.ownsRow_nil _ _ _ _, Below.refl _ _⟩⟩
  case round =>
    obtain ⟨i, hi, hgk, rfl, HQ⟩ := hrel
    have HGK := Lib.hid hgk
    clear hgk
    by_cases hlt : i < n
    · have hli : (i : Int) < (n : Int) := by omega
      obtain ⟨b, o, rfl, hc⟩ := HP.out.cells (by omega)
      obtain ⟨f0, f1⟩ := hc i (by omega)
      rw [← Below.cell HQ.out.2 (cell_lt f0)] at f0
      rw [← Below.cell HQ.out.2 (cell_lt f1)] at f1
      have HLT := Lib.hid hlt
      have hi0 : (0 : Int) ≤ (i : Int) := by omega
      have HT := Lib.hid (take_snoc11 l i (by rw [HL.out]; exact hlt))
      obtain ⟨p, hp⟩ : ∃ p, l.getD i default = p := ⟨_, rfl⟩
      rw [hp] at f0 f1 HT
      obtain ⟨a, b'⟩ := p
      have HR : Hid (Row (wr.alloc (.cells #[.string a, .string b'] 54)) wr.heap.size 54 #[.string a, .string b']) := Lib.hid (Row.new _ _ _)
      have HO : Hid ((wr.alloc (.cells #[.string a, .string b'] 54)).ownsRow w.heap.size 54 2 u3 i (pcells (l.take i)) ∧ Past w (wr.alloc (.cells #[.string a, .string b'] 54))) := Lib.hid ⟨own_past HQ.out.1 (past_alloc8 _ _), HQ.out.2.trans' (past_alloc8 _ _)⟩
      have hb1 : i + 1 ≤ maxLen := by unfold maxLen; omega
      have hb2 : (i + 1) * 32 ≤ 140737488355328 := by omega
      have hb3 : w.heap.size ≤ (wr.alloc (.cells #[.string a, .string b'] 54)).heap.size := HO.out.2.size
      have hnw : Hid (∀ (j : Nat) u, [Value.string a, Value.string b'][j]? = some u → (wr.alloc (.cells #[.string a, .string b'] 54)).cell? ((⟨wr.heap.size, 0, none⟩ : Addr).add j) = some u) := Lib.hid fun j u hj => by
        rw [add_none, HR.out.cell]
        match j, hj with
        | 0, hj => exact hj
        | 1, hj => exact hj
      clear hc hp hlt hi
      go_wp2_with (at_builtin; refine wpList_append_own _ rfl _ _ 24 rfl w.heap.size 54 ti _ 2 32 Tryd.underlying24 HI.out.1 HI.out.2.1 HI.out.2.2.1 HI.out.2.2.2 rfl (by decide) _ i _ rfl HO.out.1 ⟨wr.heap.size, 0, none⟩ 1 1 [.string a, .string b'] rfl rfl hnw.out (by simp [Value.oneCell']) hb1 hb2 hb3 ?_; intro v' w' hown hgrow _)
      have H2 : Hid (w'.ownsRow w.heap.size 54 2 v' (i + 1) (pcells (l.take (i + 1))) ∧ Past w w') := Lib.hid ⟨by rw [HT.out, pcells_snoc]; exact hown, past_push HO.out.2 (Nat.le_refl _) HO.out.1 hgrow⟩
      clear hown hgrow hb1 hb2 hb3
      go_wp2_with fail
      go_roundg (n - (i + 1))
      case rel => exact ⟨i + 1, by have := HLT.out; omega, rfl, by go_num, H2⟩
      case measure => have := HGK.out; have := HLT.out; omega
    · obtain rfl : i = n := by omega
      have hli : ¬ (i : Int) < (i : Int) := by omega
      have hown := HQ.out.1
      rw [List.take_of_length_le (by rw [HL.out]; exact Nat.le_refl _)] at hown
      obtain ⟨A2, c2, rfl⟩ := own_slice hown
      have HF := Lib.hid (And.intro (Ps.of_own hown) HQ.out.2)
      clear hlt hi hown HQ
      go_wp2_with fail
      go_ret
      exact ⟨A2, c2, rfl, HF.out.1, HF.out.2⟩
set_option maxHeartbeats 4000000 in
set_option maxRecDepth 100000 in
theorem back_any (A : Option Addr) (n c : Nat) (l : List P2) (w : World) (h : Ps w A n c l) (hn : n ≤ 2000000) : Calls Tryd.prog 13 #[.slice A n c] w fun e w' => ∃ A c, e = .returned (.slice A n c) ∧ Ps w' A n c l ∧ Past w w' := by
  have HP := Lib.hid h
  have HL := Lib.hid h.len
  have hbig : (n : Int) ≤ 2000000 := by omega
  obtain ⟨ti, hi, hz, hsz, hby⟩ := info_parts infoR
  have HI := Lib.hid (And.intro hi (And.intro hz (And.intro hsz hby)))
  clear h hi hz hsz hby
  go_enter Tryd.func13, Tryd.ntmps13
  go_wp2_with fail
  go_loopg [3, 4] n (fun q s3 s4 wx => ∃ i : Nat, i ≤ n ∧ q = n - i ∧ s4 = .int .i64 (i : Int) ∧ Hid (wx.ownsRow w.heap.size 48 2 s3 i (pcells (l.take i)) ∧ Past w wx))
  case atStart => exact ⟨0, Nat.zero_le _, rfl, rfl, Lib.hid ⟨World.ownsRow_nil _ _ _ _, Below.refl _ _⟩⟩
  case round =>
    obtain ⟨i, hi, hgk, rfl, HQ⟩ := hrel
    have HGK := Lib.hid hgk
    clear hgk
    by_cases hlt : i < n
    · have hli : (i : Int) < (n : Int) := by omega
      obtain ⟨b, o, rfl, hc⟩ := HP.out.cells (by omega)
      obtain ⟨f0, f1⟩ := hc i (by omega)
      rw [← Below.cell HQ.out.2 (cell_lt f0)] at f0
      rw [← Below.cell HQ.out.2 (cell_lt f1)] at f1
      have HLT := Lib.hid hlt
      have hi0 : (0 : Int) ≤ (i : Int) := by omega
      have HT := Lib.hid (take_snoc11 l i (by rw [HL.out]; exact hlt))
      obtain ⟨p, hp⟩ : ∃ p, l.getD i default = p := ⟨_, rfl⟩
      rw [hp] at f0 f1 HT
      obtain ⟨a, b'⟩ := p
      have HR : Hid (Row (wr.alloc (.cells #[.string a, .string b'] 48)) wr.heap.size 48 #[.string a, .string b']) := Lib.hid (Row.new _ _ _)
      have HO : Hid ((wr.alloc (.cells #[.string a, .string b'] 48)).ownsRow w.heap.size 48 2 u3 i (pcells (l.take i)) ∧ Past w (wr.alloc (.cells #[.string a, .string b'] 48))) := Lib.hid ⟨own_past HQ.out.1 (past_alloc8 _ _), HQ.out.2.trans' (past_alloc8 _ _)⟩
      have hb1 : i + 1 ≤ maxLen := by unfold maxLen; omega
      have hb2 : (i + 1) * 32 ≤ 140737488355328 := by omega
      have hb3 : w.heap.size ≤ (wr.alloc (.cells #[.string a, .string b'] 48)).heap.size := HO.out.2.size
      have hnw : Hid (∀ (j : Nat) u, [Value.string a, Value.string b'][j]? = some u → (wr.alloc (.cells #[.string a, .string b'] 48)).cell? ((⟨wr.heap.size, 0, none⟩ : Addr).add j) = some u) := Lib.hid fun j u hj => by
        rw [add_none, HR.out.cell]
        match j, hj with
        | 0, hj => exact hj
        | 1, hj => exact hj
      clear hc hp hlt hi
      go_wp2_with (at_builtin; refine wpList_append_own _ rfl _ _ 29 rfl w.heap.size 48 ti _ 2 32 Tryd.underlying29 HI.out.1 HI.out.2.1 HI.out.2.2.1 HI.out.2.2.2 rfl (by decide) _ i _ rfl HO.out.1 ⟨wr.heap.size, 0, none⟩ 1 1 [.string a, .string b'] rfl rfl hnw.out (by simp [Value.oneCell']) hb1 hb2 hb3 ?_; intro v' w' hown hgrow _)
      have H2 : Hid (w'.ownsRow w.heap.size 48 2 v' (i + 1) (pcells (l.take (i + 1))) ∧ Past w w') := Lib.hid ⟨by rw [HT.out, pcells_snoc]; exact hown, past_push HO.out.2 (Nat.le_refl _) HO.out.1 hgrow⟩
      clear hown hgrow hb1 hb2 hb3
      go_wp2_with fail
      go_roundg (n - (i + 1))
      case rel => exact ⟨i + 1, by have := HLT.out; omega, rfl, by go_num, H2⟩
      case measure => have := HGK.out; have := HLT.out; omega
    · obtain rfl : i = n := by omega
      have hli : ¬ (i : Int) < (i : Int) := by omega
      have hown := HQ.out.1
      rw [List.take_of_length_le (by rw [HL.out]; exact Nat.le_refl _)] at hown
      obtain ⟨A2, c2, rfl⟩ := own_slice hown
      have HF := Lib.hid (And.intro (Ps.of_own hown) HQ.out.2)
      clear hlt hi hown HQ
      go_wp2_with fail
      go_ret
      exact ⟨A2, c2, rfl, HF.out.1, HF.out.2⟩

end Go.Proofs.YtclnoblcdaimiaaDoor
