/- strconv.Itoa, whatever its table of powers holds: the same text each time. -/
import Derived.Test.YtjaklopkammmdaaDoorFmt1
import Derived.Test.YtjaklopkammmdaaDoorShelf
import Derived.Lib.ItoaMem
namespace Go.Proofs.YtjaklopkammmdaaDoor
open Go.RowKit Go.Lib

/-- Every cell holds a byte. -/
def AllB (cs : Array Value) : Prop := ∀ v ∈ cs, ∃ b : UInt8, v = b8 b
theorem AllB.set {cs : Array Value} (h : AllB cs) (i : Nat) (b : UInt8) : AllB (cs.setIfInBounds i (b8 b)) := fun v hv => by
  rcases Array.mem_or_eq_of_mem_setIfInBounds hv with h1 | h1
  · exact h v h1
  · exact ⟨b, h1⟩
theorem AllB.pr {cs : Array Value} (h : AllB cs) (i x : Nat) : AllB (pr cs i x) := (h.set _ _).set _ _
theorem AllB.f1 {cs : Array Value} (h : AllB cs) (off nd y : Nat) : AllB (f1 off nd y cs) := by
  unfold Proofs.YtjaklopkammmdaaDoor.f1
  split
  · have e : (Value.int .u8 (((48 + y) % 4294967296 % 256 : Nat) : Int)) = b8 (UInt8.ofNat ((48 + y) % 4294967296 % 256)) := by
      unfold b8
      congr 2
      simp
    rw [e]
    exact h.set _ _
  · exact h
theorem AllB.f2 {cs : Array Value} (h : AllB cs) (off nd y : Nat) : AllB (f2 off nd y cs) := by
  unfold Proofs.YtjaklopkammmdaaDoor.f2
  split
  · exact (h.pr _ _).f1 _ _ _
  · exact h.f1 _ _ _
theorem AllB.f4 {cs : Array Value} (h : AllB cs) (off nd y : Nat) : AllB (f4 off nd y cs) := by
  unfold Proofs.YtjaklopkammmdaaDoor.f4
  split
  · exact ((h.pr _ _).pr _ _).f2 _ _ _
  · exact h.f2 _ _ _
theorem AllB.fRun (off : Nat) : ∀ (nd v : Nat) (cs : Array Value), AllB cs → AllB (fRun off nd v cs) := by
  intro nd
  induction nd using Nat.strongRecOn with
  | ind nd ih =>
    intro v cs h
    by_cases h8 : 8 ≤ nd
    · rw [fRun_ge _ _ _ _ h8]
      exact ih _ (by omega) _ _ ((((h.pr _ _).pr _ _).pr _ _).pr _ _)
    · rw [fRun_lt _ _ _ _ (by omega)]
      exact h.f4 _ _ _

/-- The bytes in the cells from lo on. -/
def rd (cs : Array Value) (lo n : Nat) : List UInt8 := (List.range n).map fun j => UInt8.ofNat (RowKit.intOf (cs.getD (lo + j) undef)).toNat
theorem rd_len (cs : Array Value) (lo n : Nat) : (rd cs lo n).length = n := by simp [rd]
theorem rd_at {cs : Array Value} (h : AllB cs) (lo n j : Nat) (hj : j < (rd cs lo n).length) (hs : lo + n ≤ cs.size) : cs[lo + j]? = some (.int .u8 (((rd cs lo n)[j].toNat : Nat) : Int)) := by
  rw [rd_len] at hj
  have hlt : lo + j < cs.size := by omega
  obtain ⟨b, hb⟩ := h cs[lo + j] (Array.getElem_mem hlt)
  rw [Array.getElem?_eq_getElem hlt, hb]
  simp only [rd, List.getElem_map, List.getElem_range, Array.getD, hlt, dif_pos]
  have e : cs[lo + j]'hlt = b8 b := hb
  simp [e, b8, RowKit.intOf]

/-- The table of powers holds the numbers T. -/
def Tab (T : Nat → Int) (w : World) : Prop := ∀ i, i < 20 → w.cell? ⟨2, i, none⟩ = some (.int .u64 (T i)) ∧ 0 ≤ T i ∧ T i ≤ 18446744073709551615
theorem Tab.past {T : Nat → Int} {w w' : World} (h : Tab T w) (hp : Past w w') : Tab T w' := fun i hi => ⟨(hp.cell (cell_lt (h i hi).1)).trans (h i hi).1, (h i hi).2⟩

def ndig (T : Nat → Int) (u : Nat) : Nat := l10 (Lib.bitLen u) + if T (l10 (Lib.bitLen u)) ≤ (u : Int) then 1 else 0
theorem l10_19 (u : Nat) (hu : u < 18446744073709551616) : Lib.bitLen u ≤ 64 ∧ l10 (Lib.bitLen u) ≤ 19 := by
  have h : Lib.bitLen u ≤ 64 := bitLen_le u 64 (by omega) (by simpa using hu)
  refine ⟨h, ?_⟩
  unfold l10
  omega
theorem ndig_le (T : Nat → Int) (u : Nat) (hu : u < 18446744073709551616) : ndig T u ≤ 20 := by
  have := (l10_19 u hu).2
  unfold ndig
  split <;> omega

theorem numDigits_any (T : Nat → Int) (u : Nat) (w : World) (hT : Tab T w) (hu : u < 18446744073709551616) :
    Calls Tryd.prog 51 #[.int .u64 (u : Int)] w fun e w' => e = .returned (.int .i64 (ndig T u : Int)) ∧ w = w' := by
  obtain ⟨hb, hl⟩ := l10_19 u hu
  obtain ⟨hc, ht0, ht1⟩ := hT (l10 (Lib.bitLen u)) (by omega)
  have HN : Hid (ndig T u = l10 (Lib.bitLen u) + if T (l10 (Lib.bitLen u)) ≤ (u : Int) then 1 else 0) := rfl
  have HL := Lib.hid (Tryd.bits_Len64 (u : Int) · (by omega) (by omega))
  rw [Int.toNat_natCast] at HL
  have HG := Lib.hid (Tryd.internal_strconv_log10Pow2 (Lib.bitLen u) (by omega))
  clear hT
  generalize Lib.bitLen u = b at *
  generalize l10 b = d at *
  generalize T d = t at *
  by_cases htu : t ≤ (u : Int)
  · have HN2 : Hid (ndig T u = d + 1) := by
      have h := HN.out
      rwa [if_pos htu] at h
    clear HN
    go_enter Tryd.func51, Tryd.ntmps51
    go_wp2_with fail
    refine (HL.out _).mono ?_
    rintro e w1 ⟨rfl, rfl⟩
    go_wp2_with fail
    refine (HG.out _).mono ?_
    rintro e w1 ⟨rfl, rfl⟩
    go_wp2_with fail
    refine (Tryd.internal_strconv_bool2_int _ _).mono ?_
    rintro e w1 ⟨rfl, rfl⟩
    go_wp2_with fail
    go_ret
    exact ⟨by rw [HN2.out]; go_num, rfl⟩
  · have htu' : (u : Int) < t := by omega
    have HN2 : Hid (ndig T u = d) := by
      have h := HN.out
      rwa [if_neg htu, Nat.add_zero] at h
    clear HN
    go_enter Tryd.func51, Tryd.ntmps51
    go_wp2_with fail
    refine (HL.out _).mono ?_
    rintro e w1 ⟨rfl, rfl⟩
    go_wp2_with fail
    refine (HG.out _).mono ?_
    rintro e w1 ⟨rfl, rfl⟩
    go_wp2_with fail
    refine (Tryd.internal_strconv_bool2_int _ _).mono ?_
    rintro e w1 ⟨rfl, rfl⟩
    go_wp2_with fail
    go_ret
    exact ⟨by rw [HN2.out]; go_num, rfl⟩

def zeros : Array Value := #[.int .u8 0, .int .u8 0, .int .u8 0, .int .u8 0, .int .u8 0, .int .u8 0, .int .u8 0, .int .u8 0, .int .u8 0, .int .u8 0, .int .u8 0, .int .u8 0, .int .u8 0, .int .u8 0, .int .u8 0, .int .u8 0, .int .u8 0, .int .u8 0, .int .u8 0, .int .u8 0, .int .u8 0, .int .u8 0, .int .u8 0, .int .u8 0]
theorem zeros_all : AllB zeros := fun v hv => by
  refine ⟨0, ?_⟩
  simp [zeros] at hv
  exact hv

/-- The text of n. -/
def itS (T : Nat → Int) (n : Int) : ByteArray :=
  if 0 ≤ n ∧ n < 100 then ⟨(Lib.decDigits n.toNat).toArray⟩
  else if n < 0 then ⟨((45 : UInt8) :: rd (fRun 1 (ndig T n.natAbs) n.natAbs zeros) 1 (ndig T n.natAbs)).toArray⟩
  else ⟨(rd (fRun 1 (ndig T n.natAbs) n.natAbs zeros) 1 (ndig T n.natAbs)).toArray⟩

set_option maxHeartbeats 2000000 in
set_option maxRecDepth 100000 in
theorem format_big (T : Nat → Int) (u : Nat) (w : World) (hT : Tab T w) (hu : u < 9223372036854775808) (h100 : 100 ≤ u) :
    Calls Tryd.prog 49 #[.int .i64 (u : Int), .int .i64 10] w fun e w' => e = .returned (.string ⟨(rd (fRun 1 (ndig T u) u zeros) 1 (ndig T u)).toArray⟩) ∧ Past w w' := by
  have hn := ndig_le T u (by omega)
  have hp1 : Past w (w.alloc (.cells zeros 111)) := (Below.refl _ _).alloc (Nat.le_refl _) _
  have HD := Lib.hid (numDigits_any T u _ (hT.past hp1) (by omega))
  have HF := Lib.hid (fmt_any w.heap.size 1 (ndig T u) 23 u zeros _ (Row.new w 111 zeros) (by simp [zeros]; omega) hn (by omega))
  have HA := Lib.hid (zeros_all.fRun 1 (ndig T u) u)
  have HP := Lib.hid hp1
  clear hT hp1
  generalize fRun 1 (ndig T u) u zeros = cs at *
  generalize ndig T u = nd at *
  have hal : Tryd.prog.arrayLen 111 = 24 := by kernel_rfl
  have hsl1 : ∀ W, (Instr.sliceAt 111 (.pointer (some ⟨w.heap.size, 0, none⟩)) (some (.int .i64 1)) (some (.int .i64 (1 + (nd : Int)))) none).run Tryd.prog W = .ok (.slice (some ⟨w.heap.size, 1, none⟩) nd 23) W := fun W => by
    rw [run_sliceAt_array_lh W 111 ⟨w.heap.size, 0, none⟩ (by kernel_rfl) .i64 .i64 1 (1 + (nd : Int)) (by omega) (by omega) (by rw [hal]; omega)]
    go_simp
    omega
  clear hal
  unfold zeros at HF HD HP
  go_enter Tryd.func49, Tryd.ntmps49
  go_wp2_with fail
  refine HD.out.mono ?_
  rintro e w1 ⟨rfl, rfl⟩
  go_wp2_with fail
  refine HF.out.mono ?_
  rintro e w1 ⟨rfl, hN⟩
  have hcv : (convert 115 9 (.slice (some ⟨w.heap.size, 1, none⟩) nd 23)).run Tryd.prog w1 = .ok (.string ⟨(rd cs 1 nd).toArray⟩) w1 := by
    have h := run_convert_bytes_back (P := Tryd.prog) w1 115 9 5 ⟨w.heap.size, 1, none⟩ 23 (rd cs 1 nd) Tryd.underlying115 Tryd.underlying5 Tryd.underlying9 (fun j hj => by
      rw [Lib.add_plain, hN.row.cell]
      exact rd_at HA.out 1 nd j hj hN.size)
    rwa [rd_len] at h
  have HP2 : Hid (Past w w1) := past_of_only HP.out hN.only HP.out.size (Nat.le_refl _)
  clear hN
  go_wp2_with fail
  go_ret
  exact ⟨rfl, HP2.out⟩

set_option maxHeartbeats 2000000 in
set_option maxRecDepth 100000 in
theorem format_neg (T : Nat → Int) (u : Nat) (w : World) (hT : Tab T w) (hu : u ≤ 9223372036854775808) (h1 : 1 ≤ u) :
    Calls Tryd.prog 49 #[.int .i64 (-(u : Int)), .int .i64 10] w fun e w' => e = .returned (.string ⟨((45 : UInt8) :: rd (fRun 1 (ndig T u) u zeros) 1 (ndig T u)).toArray⟩) ∧ Past w w' := by
  have hn := ndig_le T u (by omega)
  have hp1 : Past w (w.alloc (.cells zeros 111)) := (Below.refl _ _).alloc (Nat.le_refl _) _
  have HD := Lib.hid (numDigits_any T u _ (hT.past hp1) (by omega))
  have HF := Lib.hid (fmt_any w.heap.size 1 (ndig T u) 23 u zeros _ (Row.new w 111 zeros) (by simp [zeros]; omega) hn (by omega))
  have HA := Lib.hid (zeros_all.fRun 1 (ndig T u) u)
  have HP := Lib.hid hp1
  clear hT hp1
  generalize fRun 1 (ndig T u) u zeros = cs at *
  generalize ndig T u = nd at *
  have hal : Tryd.prog.arrayLen 111 = 24 := by kernel_rfl
  have hsl1 : ∀ W, (Instr.sliceAt 111 (.pointer (some ⟨w.heap.size, 0, none⟩)) (some (.int .i64 1)) (some (.int .i64 (1 + (nd : Int)))) none).run Tryd.prog W = .ok (.slice (some ⟨w.heap.size, 1, none⟩) nd 23) W := fun W => by
    rw [run_sliceAt_array_lh W 111 ⟨w.heap.size, 0, none⟩ (by kernel_rfl) .i64 .i64 1 (1 + (nd : Int)) (by omega) (by omega) (by rw [hal]; omega)]
    go_simp
    omega
  have hsl2 : ∀ W, (Instr.sliceAt 111 (.pointer (some ⟨w.heap.size, 0, none⟩)) none (some (.int .i64 (1 + (nd : Int)))) none).run Tryd.prog W = .ok (.slice (some ⟨w.heap.size, 0, none⟩) (1 + nd) 24) W := fun W => by
    rw [run_sliceAt_array_h W 111 ⟨w.heap.size, 0, none⟩ (by kernel_rfl) .i64 (1 + (nd : Int)) (by omega) (by rw [hal]; omega)]
    go_simp
    omega
  have hwr : IntKind.u64.wrap (-IntKind.u64.wrap (-(u : Int))) = (u : Int) := by rw [IntKind.wrap_u64, IntKind.wrap_u64]; omega
  clear hal
  unfold zeros at HF HD HP
  go_enter Tryd.func49, Tryd.ntmps49
  go_wp2_with fail
  refine HD.out.mono ?_
  rintro e w1 ⟨rfl, rfl⟩
  go_wp2_with fail
  refine HF.out.mono ?_
  rintro e w1 ⟨rfl, hN⟩
  have hc0 : w1.cell? ⟨w.heap.size, 0, none⟩ = some (cs.getD 0 undef) := by
    rw [hN.row.cell]
    have := hN.size
    simp [Array.getD, show 0 < cs.size by omega]
  have hf0 : w1.frozen? ⟨w.heap.size, 0, none⟩ = false := hN.row.fr 0
  have hcv : (convert 115 9 (.slice (some ⟨w.heap.size, 0, none⟩) (1 + nd) 24)).run Tryd.prog (w1.setCell ⟨w.heap.size, 0, none⟩ (.int .u8 45)) = .ok (.string ⟨((45 : UInt8) :: rd cs 1 nd).toArray⟩) (w1.setCell ⟨w.heap.size, 0, none⟩ (.int .u8 45)) := by
    have h := run_convert_bytes_back (P := Tryd.prog) (w1.setCell ⟨w.heap.size, 0, none⟩ (.int .u8 45)) 115 9 5 ⟨w.heap.size, 0, none⟩ 24 ((45 : UInt8) :: rd cs 1 nd) Tryd.underlying115 Tryd.underlying5 Tryd.underlying9 (fun j hj => by
      rw [Lib.add_plain]
      cases j with
      | zero => exact World.cell?_setCell_same' _ _ _ (by rw [hc0]; rfl)
      | succ i =>
        have hi : i < (rd cs 1 nd).length := by simpa using hj
        rw [World.cell?_setCell_other _ _ _ _ (by simp), List.getElem_cons_succ, hN.row.cell, show 0 + (i + 1) = 1 + i by omega]
        exact rd_at HA.out 1 nd i hi hN.size)
    rw [List.length_cons, rd_len, Nat.add_comm] at h
    exact h
  have HP2 : Hid (Past w (w1.setCell ⟨w.heap.size, 0, none⟩ (.int .u8 45))) := (past_of_only HP.out hN.only HP.out.size (Nat.le_refl _)).setCell (Nat.le_refl _) _
  clear hN
  go_wp2_with fail
  go_ret
  exact ⟨rfl, HP2.out⟩


theorem itoa_any (T : Nat → Int) (n : Int) (w : World) (hT : Tab T w) (h0 : -9223372036854775808 ≤ n) (h1 : n ≤ 9223372036854775807) :
    Calls Tryd.prog 47 #[.int .i64 n] w fun e w' => e = .returned (.string (itS T n)) ∧ Past w w' := by
  have HF : Hid (Calls Tryd.prog 49 #[.int .i64 n, .int .i64 10] w fun e w' => e = .returned (.string (itS T n)) ∧ Past w w') := by
    show Calls _ _ _ _ _
    unfold itS
    by_cases hs : 0 ≤ n ∧ n < 100
    · rw [if_pos hs]
      obtain ⟨i, rfl⟩ : ∃ i : Nat, n = i := ⟨n.toNat, by omega⟩
      rw [Int.toNat_natCast]
      refine (Tryd.internal_strconv_FormatInt_10_small i (by omega) w).mono ?_
      rintro e w' ⟨rfl, rfl⟩
      exact ⟨rfl, Below.refl _ _⟩
    · rw [if_neg hs]
      by_cases hn : n < 0
      · rw [if_pos hn]
        obtain ⟨u, rfl⟩ : ∃ u : Nat, n = -(u : Int) := ⟨n.natAbs, by omega⟩
        rw [Int.natAbs_neg, Int.natAbs_natCast]
        exact format_neg T u w hT (by omega) (by omega)
      · rw [if_neg hn]
        obtain ⟨u, rfl⟩ : ∃ u : Nat, n = u := ⟨n.toNat, by omega⟩
        rw [Int.natAbs_natCast]
        exact format_big T u w hT (by omega) (by omega)
  clear hT
  generalize itS T n = s at *
  go_enter Tryd.func47, Tryd.ntmps47
  go_wp2_with (go_at_call 48; go_in)
  refine HF.out.mono ?_
  rintro e w1 ⟨rfl, hp⟩
  have HP := Lib.hid hp
  clear hp
  go_wp2
  go_ret
  exact ⟨rfl, HP.out⟩

end Go.Proofs.YtjaklopkammmdaaDoor
