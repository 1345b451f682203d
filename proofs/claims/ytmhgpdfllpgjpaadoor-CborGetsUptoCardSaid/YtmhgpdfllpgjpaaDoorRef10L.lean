/- The reference's Valid, Few and Int. -/
import Derived.Test.YtmhgpdfllpgjpaaDoorRef10K
import Derived.Handy
namespace Go.Proofs.YtmhgpdfllpgjpaaDoor
open Go.RowKit
set_option linter.unusedVariables false

/-- What Valid tells. -/
def vldT (t : T) : Bool := decide (dep t ≤ 8) && (shp t && decide ((txt t).length ≤ 1048576))

set_option maxHeartbeats 2000000 in
set_option maxRecDepth 100000 in
theorem rvalid10_any {w0 : World} {v : Value} {t : T} (h : InM w0 v t) (w : World) (hw : Past w0 w) (hn : cnt t ≤ 1000000) :
    Calls Tryd.prog 19 #[v] w fun e w' => e = .returned (.bool (vldT t)) ∧ Past w w' := by
  have HD := Lib.hid (fun w1 (hp : Past w0 w1) => rdepth_any h w1 hp (by omega))
  have HS := Lib.hid (fun w1 (hp : Past w0 w1) => rshaped_any h w1 hp hn)
  have HC := Lib.hid (fun w1 (hp : Past w0 w1) (hs : shp t = true) => rcode_any h w1 hp (by omega) (by have := txt_len t; omega) (shp_kok t hs))
  have HL : Hid ((txt t).length ≤ 9000000) := Lib.hid (by have := txt_len t; omega)
  obtain ⟨kd, nm, A, n, c, K, m, d, rfl⟩ := h.agg
  have HR : Hid (Iw w0 w (w.alloc (.cells #[.int .i64 kd, .int .u64 nm, .slice A n c, .slice K m d] 34)) w.heap.size kd nm A n c K m d) := Lib.hid ⟨hw.trans' (past_alloc8 _ _), past_alloc8 _ _, Row.new _ _ _⟩
  have hvd : vldT t = (decide (dep t ≤ 8) && (shp t && decide ((txt t).length ≤ 1048576))) := rfl
  have HV := Lib.hid hvd
  clear h hw hn hvd
  generalize vldT t = vd at *
  generalize dep t = dp at *
  go_enter Tryd.func19, Tryd.ntmps19
  go_wp2_with fail
  generalize w.alloc (.cells #[.int .i64 kd, .int .u64 nm, .slice A n c, .slice K m d] 34) = w1 at *
  generalize w.heap.size = g at *
  have f0 : w1.cell? ⟨g, 0, none⟩ = some (.int .i64 kd) := HR.out.row.cell 0
  have f1 : w1.cell? ⟨g, 1, none⟩ = some (.int .u64 nm) := HR.out.row.cell 1
  have f2 : w1.cell? ⟨g, 2, none⟩ = some (.slice A n c) := HR.out.row.cell 2
  have f3 : w1.cell? ⟨g, 3, none⟩ = some (.slice K m d) := HR.out.row.cell 3
  have HD1 := Lib.hid (HD.out w1 HR.out.base)
  by_cases hd8 : dp ≤ 8
  · have hd9 : (dp : Int) ≤ 8 := by omega
    cases hsh : shp t with
    | false =>
      have HE : Hid (vd = false) := Lib.hid (by rw [HV.out, hsh]; simp)
      clear hd8
      simp only [hsh] at HS
      go_wp2_with (first
        | (go_at_call 27; (with_reducible refine HD1.out.mono ?_); rintro e2 w2 ⟨rfl, hp2⟩; have HQ2 := Lib.hid (HR.out.later hp2); clear hp2; have e0 : w2.cell? ⟨g, 0, none⟩ = some (.int .i64 kd) := HQ2.out.row.cell 0; have e1 : w2.cell? ⟨g, 1, none⟩ = some (.int .u64 nm) := HQ2.out.row.cell 1; have e2 : w2.cell? ⟨g, 2, none⟩ = some (.slice A n c) := HQ2.out.row.cell 2; have e3 : w2.cell? ⟨g, 3, none⟩ = some (.slice K m d) := HQ2.out.row.cell 3)
        | (go_at_call 39; (with_reducible refine (HS.out _ HQ2.out.base).mono ?_); rintro e3 w3 ⟨rfl, hp3⟩; have HQ3 := Lib.hid (HQ2.out.later hp3); clear hp3))
      go_ret
      rw [HE.out]
      exact ⟨rfl, HQ3.out.past⟩
    | true =>
      have HC2 := Lib.hid (fun w1 hp => HC.out w1 hp hsh)
      have HE : Hid (vd = decide ((txt t).length ≤ 1048576)) := Lib.hid (by rw [HV.out, hsh, decide_eq_true hd8]; simp)
      simp only [hsh] at HS
      clear hd8 HC HV
      have hlen := HL.out
      generalize txt t = xs at *
      generalize hxl : xs.length = L at *
      by_cases hL : L ≤ 1048576
      · have hL2 : (L : Int) ≤ 1048576 := by omega
        have HF : Hid (vd = true) := Lib.hid (by rw [HE.out]; exact decide_eq_true hL)
        clear hlen hxl
        go_wp2_with (first
          | (go_at_call 27; (with_reducible refine HD1.out.mono ?_); rintro e2 w2 ⟨rfl, hp2⟩; have HQ2 := Lib.hid (HR.out.later hp2); clear hp2; have e0 : w2.cell? ⟨g, 0, none⟩ = some (.int .i64 kd) := HQ2.out.row.cell 0; have e1 : w2.cell? ⟨g, 1, none⟩ = some (.int .u64 nm) := HQ2.out.row.cell 1; have e2 : w2.cell? ⟨g, 2, none⟩ = some (.slice A n c) := HQ2.out.row.cell 2; have e3 : w2.cell? ⟨g, 3, none⟩ = some (.slice K m d) := HQ2.out.row.cell 3)
          | (go_at_call 39; (with_reducible refine (HS.out _ HQ2.out.base).mono ?_); rintro e3 w3 ⟨rfl, hp3⟩; have HQ3 := Lib.hid (HQ2.out.later hp3); clear hp3; have i0 : w3.cell? ⟨g, 0, none⟩ = some (.int .i64 kd) := HQ3.out.row.cell 0; have i1 : w3.cell? ⟨g, 1, none⟩ = some (.int .u64 nm) := HQ3.out.row.cell 1; have i2 : w3.cell? ⟨g, 2, none⟩ = some (.slice A n c) := HQ3.out.row.cell 2; have i3 : w3.cell? ⟨g, 3, none⟩ = some (.slice K m d) := HQ3.out.row.cell 3)
          | (go_at_call 21; (with_reducible refine (HC2.out _ HQ3.out.base).mono ?_); rintro e4 w4 ⟨A4, c4, rfl, hs4, hp4⟩; have HQ4 := Lib.hid (HQ3.out.later hp4); clear hp4 hs4))
        go_ret
        rw [HF.out]
        exact ⟨rfl, HQ4.out.past⟩
      · have hL2 : ¬ (L : Int) ≤ 1048576 := by omega
        have HF : Hid (vd = false) := Lib.hid (by rw [HE.out]; exact decide_eq_false hL)
        have HDC : Hid (decide ((L : Int) ≤ 1048576) = false) := Lib.hid (decide_eq_false hL2)
        clear hlen hxl
        go_wp2_with (first
          | (go_at_call 27; (with_reducible refine HD1.out.mono ?_); rintro e2 w2 ⟨rfl, hp2⟩; have HQ2 := Lib.hid (HR.out.later hp2); clear hp2; have e0 : w2.cell? ⟨g, 0, none⟩ = some (.int .i64 kd) := HQ2.out.row.cell 0; have e1 : w2.cell? ⟨g, 1, none⟩ = some (.int .u64 nm) := HQ2.out.row.cell 1; have e2 : w2.cell? ⟨g, 2, none⟩ = some (.slice A n c) := HQ2.out.row.cell 2; have e3 : w2.cell? ⟨g, 3, none⟩ = some (.slice K m d) := HQ2.out.row.cell 3)
          | (go_at_call 39; (with_reducible refine (HS.out _ HQ2.out.base).mono ?_); rintro e3 w3 ⟨rfl, hp3⟩; have HQ3 := Lib.hid (HQ2.out.later hp3); clear hp3; have i0 : w3.cell? ⟨g, 0, none⟩ = some (.int .i64 kd) := HQ3.out.row.cell 0; have i1 : w3.cell? ⟨g, 1, none⟩ = some (.int .u64 nm) := HQ3.out.row.cell 1; have i2 : w3.cell? ⟨g, 2, none⟩ = some (.slice A n c) := HQ3.out.row.cell 2; have i3 : w3.cell? ⟨g, 3, none⟩ = some (.slice K m d) := HQ3.out.row.cell 3)
          | (go_at_call 21; (with_reducible refine (HC2.out _ HQ3.out.base).mono ?_); rintro e4 w4 ⟨A4, c4, rfl, hs4, hp4⟩; have HQ4 := Lib.hid (HQ3.out.later hp4); clear hp4 hs4))
        go_ret
        rw [HF.out]
        exact ⟨congrArg (fun q => Ending.returned (.bool q)) HDC.out, HQ4.out.past⟩
  · have hd9 : ¬ (dp : Int) ≤ 8 := by omega
    have HE : Hid (vd = false) := Lib.hid (by rw [HV.out, decide_eq_false hd8]; rfl)
    clear hd8
    go_wp2_with (go_at_call 27; (with_reducible refine HD1.out.mono ?_); rintro e2 w2 ⟨rfl, hp2⟩; have HQ2 := Lib.hid (HR.out.later hp2); clear hp2)
    go_ret
    rw [HE.out]
    exact ⟨rfl, HQ2.out.past⟩

/-- What Int gives. -/
def intT (k : Int) : T := if 0 ≤ k then .node 0 k [] [] else .node 1 (-(k + 1)) [] []
set_option maxHeartbeats 1000000 in
theorem rint10_any (k : Int) (w : World) (hk : -9223372036854775808 ≤ k ∧ k < 9223372036854775808) :
    Calls Tryd.prog 24 #[.int .i64 k] w fun e w' => e = .returned (if 0 ≤ k then .agg #[.int .i64 0, .int .u64 k, .slice none 0 0, .slice none 0 0] else .agg #[.int .i64 1, .int .u64 (-(k + 1)), .slice none 0 0, .slice none 0 0]) ∧ Past w w' := by
  by_cases h0 : 0 ≤ k
  · have hu : IntKind.u64.wrap k = k := by rw [IntKind.wrap_u64]; omega
    rw [if_pos h0]
    have h1 : k ≥ 0 := h0
    go_enter Tryd.func24, Tryd.ntmps24
    go_wp2_with fail
    go_returns
    exact ⟨rfl, by first | exact past_alloc8 _ _ | skip⟩
  · rw [if_neg h0]
    have h1 : ¬ k ≥ 0 := h0
    have e1 : IntKind.i64.wrap (k + 1) = k + 1 := IntWalk.i64_in _ (by omega)
    have e2 : IntKind.i64.wrap (-(k + 1)) = -(k + 1) := IntWalk.i64_in _ (by omega)
    have e3 : IntKind.u64.wrap (-(k + 1)) = -(k + 1) := by rw [IntKind.wrap_u64]; omega
    go_enter Tryd.func24, Tryd.ntmps24
    go_wp2_with fail
    go_returns
    exact ⟨rfl, by first | exact past_alloc8 _ _ | skip⟩
end Go.Proofs.YtmhgpdfllpgjpaaDoor
