/- The program's Encode and Valid. The program's Int and Value. -/
import Derived.Test.YtmhgpdfllpgjpaaDoorC10H
import Derived.Test.YtmhgpdfllpgjpaaDoorRef10L
import Derived.Test.YtmhgpdfllpgjpaaDoorErrM1
import Derived.Handy
namespace Go.Proofs.YtmhgpdfllpgjpaaDoor
open Go.RowKit
set_option linter.unusedVariables false

mutual
theorem shp_shw : ∀ t : T, shp t = true → shw t = true
  | .node kd nm bs ks, h => by
    have h1 : (hasB kd nm bs ks.length && shpL ks && (!decide (kd = 5) || ordN ks ks.length)) = true := h
    simp only [Bool.and_eq_true] at h1
    show (hasB kd nm bs ks.length && shwL ks) = true
    rw [h1.1.1, shpL_shwL ks h1.1.2]
    rfl
theorem shpL_shwL : ∀ ks : List T, shpL ks = true → shwL ks = true
  | [], _ => rfl
  | k :: ks, h => by
    have h1 : (shp k && shpL ks) = true := h
    simp only [Bool.and_eq_true] at h1
    show (shw k && shwL ks) = true
    rw [shp_shw k h1.1, shpL_shwL ks h1.2]
    rfl
end
theorem vld_ok (t : T) : vldT t = (okA 0 t && shp t) := by
  unfold vldT okA
  rw [Bool.eq_iff_iff]
  simp only [Bool.and_eq_true, decide_eq_true_iff, Nat.zero_add]
  constructor
  · rintro ⟨h1, h2, h3⟩
    exact ⟨⟨h1, shp_shw t h2, h3⟩, h2⟩
  · rintro ⟨⟨h1, _, h3⟩, h2⟩
    exact ⟨h1, h2, h3⟩
def EncP (t : T) (w : World) (e : Ending) (w' : World) : Prop :=
  (vldT t = true → ∃ A c, e = .returned (.tuple #[.slice A (txt t).length c, .nilIface]) ∧ Sl w' A (txt t).length c (txt t) ∧ Past w w') ∧
  (vldT t = false → ∃ A c, e = .returned (.tuple #[.slice A 0 c, (Ch.code 12).val]) ∧ Past w w')

set_option maxHeartbeats 2000000 in
theorem encode_any {w : World} (hBr : Bru w) {v : Value} {t : T} (h : InM w v t) (hf : cnt t ≤ 2000000) : Calls Tryd.prog 14 #[v] w (EncP t w) := by
  have HV := Lib.hid (fun w1 (hp : Past w w1) => size_any h 0 w1 hp (by omega) hf)
  have HE := Lib.hid (fun w1 (hp : Past w w1) (hs : shw t = true) => encoding_any hBr h w1 hp hf hs)
  have e0 : ((0 : Nat) : Int) = 0 := rfl
  rw [e0] at HV
  obtain ⟨kd, nm, A, n, c, K, m, d, rfl⟩ := h.agg
  have HP := Lib.hid (box1 w #[.int .i64 kd, .int .u64 nm, .slice A n c, .slice K m d])
  have hvo := vld_ok t
  clear h hf hBr e0
  cases hok : okA 0 t with
  | false =>
    rw [hok] at hvo
    have HO : Hid (vldT t = false) := Lib.hid (by rw [hvo]; rfl)
    clear hvo
    have HOK := Lib.hid hok
    clear hok
    go_enter Tryd.func14, Tryd.ntmps14
    go_wp2_with fail
    refine (HV.out _ HP.out.1).mono ?_
    rintro e w2 ⟨⟨k, rfl, _, _⟩, hp⟩
    rw [HOK.out]
    have HF : Hid (Past w w2) := HP.out.1.trans' hp
    clear hp
    go_wp2_with fail
    go_ret2
    refine ⟨fun h => (by rw [HO.out] at h; cases h), fun _ => ⟨none, 0, rfl, HF.out⟩⟩
  | true =>
    rw [hok, Bool.true_and] at hvo
    have HVO := Lib.hid hvo
    have HOK := Lib.hid hok
    have HS : Hid (shw t = true) := (of_decide_eq_true hok).2.1
    clear hok hvo
    cases hsp : shp t with
    | false =>
      have HSP := Lib.hid hsp
      clear hsp
      go_enter Tryd.func14, Tryd.ntmps14
      go_wp2_with fail
      refine (HV.out _ HP.out.1).mono ?_
      rintro e w2 ⟨⟨k, rfl, _, _⟩, hp⟩
      rw [HOK.out]
      have H2 : Hid (Past w w2 ∧ Row w2 w.heap.size 27 #[.int .i64 kd, .int .u64 nm, .slice A n c, .slice K m d]) := ⟨HP.out.1.trans' hp, HP.out.2.past hp⟩
      clear hp HP
      have f0 : w2.cell? ⟨w.heap.size, 0, none⟩ = some (.int .i64 kd) := H2.out.2.cell 0
      have f1 : w2.cell? ⟨w.heap.size, 1, none⟩ = some (.int .u64 nm) := H2.out.2.cell 1
      have f2 : w2.cell? ⟨w.heap.size, 2, none⟩ = some (.slice A n c) := H2.out.2.cell 2
      have f3 : w2.cell? ⟨w.heap.size, 3, none⟩ = some (.slice K m d) := H2.out.2.cell 3
      go_wp2_with fail
      refine (HE.out _ H2.out.1 HS.out).mono ?_
      rintro e w3 ⟨_, hq⟩
      obtain ⟨rfl, hp3⟩ := hq HSP.out
      have HF : Hid (Past w w3) := H2.out.1.trans' hp3
      clear hp3 hq
      go_wp2_with fail
      go_ret2
      refine ⟨fun h => (by rw [HVO.out, HSP.out] at h; cases h), fun _ => ⟨none, 0, rfl, HF.out⟩⟩
    | true =>
      have HSP := Lib.hid hsp
      clear hsp
      go_enter Tryd.func14, Tryd.ntmps14
      go_wp2_with fail
      refine (HV.out _ HP.out.1).mono ?_
      rintro e w2 ⟨⟨k, rfl, _, _⟩, hp⟩
      rw [HOK.out]
      have H2 : Hid (Past w w2 ∧ Row w2 w.heap.size 27 #[.int .i64 kd, .int .u64 nm, .slice A n c, .slice K m d]) := ⟨HP.out.1.trans' hp, HP.out.2.past hp⟩
      clear hp HP
      have f0 : w2.cell? ⟨w.heap.size, 0, none⟩ = some (.int .i64 kd) := H2.out.2.cell 0
      have f1 : w2.cell? ⟨w.heap.size, 1, none⟩ = some (.int .u64 nm) := H2.out.2.cell 1
      have f2 : w2.cell? ⟨w.heap.size, 2, none⟩ = some (.slice A n c) := H2.out.2.cell 2
      have f3 : w2.cell? ⟨w.heap.size, 3, none⟩ = some (.slice K m d) := H2.out.2.cell 3
      obtain ⟨tl, htl⟩ : ∃ tl, (txt t).length = tl := ⟨_, rfl⟩
      have HTL := Lib.hid htl
      clear htl
      go_wp2_with fail
      refine (HE.out _ H2.out.1 HS.out).mono ?_
      rintro e w3 ⟨hq, _⟩
      obtain ⟨A3, c3, rfl, hs3, hp3, _⟩ := hq HSP.out
      have HF : Hid (Past w w3 ∧ Sl w3 A3 (txt t).length c3 (txt t)) := ⟨H2.out.1.trans' hp3, hs3⟩
      rw [HTL.out]
      clear hp3 hq hs3
      go_wp2_with fail
      go_ret2
      refine ⟨fun _ => ?_, fun h => (by rw [HVO.out, HSP.out] at h; cases h)⟩
      have htl := HTL.out
      subst htl
      exact ⟨A3, c3, rfl, HF.out.2, HF.out.1⟩

theorem valid_any {w : World} (hBr : Bru w) {v : Value} {t : T} (h : InM w v t) (hf : cnt t ≤ 2000000) : Calls Tryd.prog 18 #[v] w fun e w' => e = .returned (.bool (vldT t)) ∧ Past w w' := by
  have HE := Lib.hid (fun w1 (hp : Past w w1) => encode_any (hBr.past hp) (h.past hp) hf)
  obtain ⟨kd, nm, A, n, c, K, m, d, rfl⟩ := h.agg
  have HP := Lib.hid (box1 w #[.int .i64 kd, .int .u64 nm, .slice A n c, .slice K m d])
  clear h hf hBr
  cases hok : vldT t with
  | false =>
    have HO := Lib.hid hok
    clear hok
    go_enter Tryd.func18, Tryd.ntmps18
    go_wp2_with fail
    refine (HE.out _ HP.out.1).mono ?_
    rintro e w2 ⟨_, hq⟩
    obtain ⟨A2, c2, rfl, hp2⟩ := hq HO.out
    have HF : Hid (Past w w2) := HP.out.1.trans' hp2
    clear hp2 hq
    simp only [valCode]
    go_wp2_with fail
    go_ret
    exact ⟨rfl, HF.out⟩
  | true =>
    have HO := Lib.hid hok
    clear hok
    go_enter Tryd.func18, Tryd.ntmps18
    go_wp2_with fail
    refine (HE.out _ HP.out.1).mono ?_
    rintro e w2 ⟨hq, _⟩
    obtain ⟨A2, c2, rfl, _, hp2⟩ := hq HO.out
    have HF : Hid (Past w w2) := HP.out.1.trans' hp2
    clear hp2 hq
    go_wp2_with fail
    go_ret
    exact ⟨rfl, HF.out⟩

end Go.Proofs.YtmhgpdfllpgjpaaDoor

namespace Go.Proofs.YtmhgpdfllpgjpaaDoor
open Go.RowKit
set_option linter.unusedVariables false

def intV (k : Int) : Value := if 0 ≤ k then .agg (item4 0 k none 0 0 none 0 0) else .agg (item4 1 (-(k + 1)) none 0 0 none 0 0)
set_option maxHeartbeats 1000000 in
theorem int_any (k : Int) (w : World) (hk : -9223372036854775808 ≤ k ∧ k < 9223372036854775808) :
    Calls Tryd.prog 22 #[.int .i64 k] w fun e w' => e = .returned (intV k) ∧ Past w w' := by
  by_cases h0 : 0 ≤ k
  · have hu : IntKind.u64.wrap k = k := by rw [IntKind.wrap_u64]; omega
    have h1 : ¬ k < 0 := by omega
    have HI : Hid (intV k = .agg (item4 0 k none 0 0 none 0 0)) := Lib.hid (if_pos h0)
    go_enter Tryd.func22, Tryd.ntmps22
    go_wp2_with fail
    go_returns
    rw [HI.out]
    exact ⟨rfl, by first | exact past_alloc8 _ _ | skip⟩
  · have h1 : k < 0 := by omega
    have e1 : IntKind.i64.wrap (-1 - k) = -1 - k := IntWalk.i64_in _ (by omega)
    have e3 : IntKind.u64.wrap (-1 - k) = -1 - k := by rw [IntKind.wrap_u64]; omega
    have HI : Hid (intV k = .agg (item4 1 (-1 - k) none 0 0 none 0 0)) := Lib.hid (by unfold intV; rw [if_neg h0, show -(k + 1) = -1 - k by omega])
    go_enter Tryd.func22, Tryd.ntmps22
    go_wp2_with fail
    go_returns
    rw [HI.out]
    exact ⟨rfl, by first | exact past_alloc8 _ _ | skip⟩
theorem intV_in (k : Int) (w : World) (hk : -9223372036854775808 ≤ k ∧ k < 9223372036854775808) : InM w (intV k) (intT k) := by
  unfold intV intT
  by_cases h0 : 0 ≤ k
  · rw [if_pos h0, if_pos h0]
    exact .mk (fun _ => undef) (fun _ => undef) (fun _ => undef) (fun _ => undef) (by omega) (by omega) (Sl.nil w) rfl (Nat.le_refl _) (Nat.zero_le _) (fun _ => rfl) (fun h => absurd h (Nat.lt_irrefl 0)) (fun i hi => absurd hi (Nat.not_lt_zero i))
  · rw [if_neg h0, if_neg h0]
    exact .mk (fun _ => undef) (fun _ => undef) (fun _ => undef) (fun _ => undef) (by omega) (by omega) (Sl.nil w) rfl (Nat.le_refl _) (Nat.zero_le _) (fun _ => rfl) (fun h => absurd h (Nat.lt_irrefl 0)) (fun i hi => absurd hi (Nat.not_lt_zero i))

/-- What Value gives. -/
def valI (kd nm : Int) : Int := if nm < 9223372036854775808 then if kd = 0 then nm else if kd = 1 then -1 - nm else 0 else 0
def valB (kd nm : Int) : Bool := decide (nm < 9223372036854775808 ∧ (kd = 0 ∨ kd = 1))
set_option maxHeartbeats 1000000 in
theorem value_any (kd nm : Int) (A : Option Addr) (n c : Nat) (K : Option Addr) (m d : Nat) (w : World) (hu : 0 ≤ nm ∧ nm < 18446744073709551616) :
    Calls Tryd.prog 23 #[.agg (item4 kd nm A n c K m d)] w fun e w' => e = .returned (.tuple #[.int .i64 (valI kd nm), .bool (valB kd nm)]) ∧ Past w w' := by
  have HR := Lib.hid (box1 w (item4 kd nm A n c K m d))
  by_cases hbig : nm < 9223372036854775808
  · have hw : IntKind.i64.wrap nm = nm := by rw [IntKind.wrap_i64]; omega
    have hn : ¬ nm < 0 := by omega
    by_cases h0 : kd = 0
    · subst h0
      have HV : Hid (valI 0 nm = nm ∧ valB 0 nm = true) := Lib.hid ⟨by unfold valI; rw [if_pos hbig, if_pos rfl], by unfold valB; simp [hbig]⟩
      go_enter Tryd.func23, Tryd.ntmps23
      go_wp2_with fail
      go_ret2
      exact ⟨by rw [HV.out.1, HV.out.2]; rfl, HR.out.1⟩
    have b0 : (kd == 0) = false := by simpa using h0
    by_cases h1 : kd = 1
    · subst h1
      have HV : Hid (valI 1 nm = -1 - nm ∧ valB 1 nm = true) := Lib.hid ⟨by unfold valI; rw [if_pos hbig, if_neg h0, if_pos rfl], by unfold valB; simp [hbig]⟩
      have e1 : IntKind.i64.wrap (-1 - nm) = -1 - nm := IntWalk.i64_in _ (by omega)
      clear h0
      go_enter Tryd.func23, Tryd.ntmps23
      go_wp2_with fail
      go_ret2
      exact ⟨by rw [HV.out.1, HV.out.2]; rfl, HR.out.1⟩
    have b1 : (kd == 1) = false := by simpa using h1
    have HV : Hid (valI kd nm = 0 ∧ valB kd nm = false) := Lib.hid ⟨by unfold valI; rw [if_pos hbig, if_neg h0, if_neg h1], by unfold valB; simp [h0, h1]⟩
    clear h0 h1
    go_enter Tryd.func23, Tryd.ntmps23
    go_wp2_with fail
    go_ret2
    exact ⟨by rw [HV.out.1, HV.out.2]; rfl, HR.out.1⟩
  · have hw : IntKind.i64.wrap nm = nm - 18446744073709551616 := by rw [IntKind.wrap_i64]; omega
    have hn : nm - 18446744073709551616 < 0 := by omega
    have HV : Hid (valI kd nm = 0 ∧ valB kd nm = false) := Lib.hid ⟨by unfold valI; rw [if_neg hbig], by unfold valB; simp [hbig]⟩
    go_enter Tryd.func23, Tryd.ntmps23
    go_wp2_with fail
    go_ret2
    exact ⟨by rw [HV.out.1, HV.out.2]; rfl, HR.out.1⟩

end Go.Proofs.YtmhgpdfllpgjpaaDoor
