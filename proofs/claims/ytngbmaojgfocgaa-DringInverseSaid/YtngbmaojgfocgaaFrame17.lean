/- What the rows of this seat share: the knob of the program, its layout, and how an array of three numbers that came in is read. -/
import Derived.Test.YtngbmaojgfocgaaAwake17
import Derived.ProofKit
import Derived.OpenShut
import Derived.ChangeOld
import Derived.Below
import Derived.WideKeyArr2
namespace Go.Proofs.Ytngbmaojgfocgaa.dr
open Go.RowKit Go.ChangeShapes Go.WideShapes Go.ChangeAt

theorem own : ownKnob Try.prog.godebug = none := by kernel_rfl
theorem laidOut : laidOutB Try.prog = true := by kernel_rfl

theorem size3 (xs : Array Value) (h : xs.size = 3) : ∃ x y z, xs = #[x, y, z] := by
  obtain ⟨l⟩ := xs
  match l, h with
  | [x, y, z], _ => exact ⟨x, y, z, rfl⟩
theorem threeKey : WideMaps.ArrKey Try.prog 23 22 3 := ⟨by kernel_rfl, by kernel_rfl, by kernel_rfl, by kernel_rfl⟩
section
variable {H : Type} {enc : TypeId × Value → H} {W : World} {base : Nat} {sp : Nat → Bool} {held : Bool}
/-- An array of three numbers that came in. -/
theorem open3 {r : Reach} {b0 : Nat} {v : Value} {d : DataW H} {ps : List MemPlace} (hval : Value.okWide Try.prog W r b0 23 v) (hd : DataW.Trod enc Try.prog W base sp held 23 v d ps) :
    ∃ a b c : Int, v = .agg #[.int .u32 a, .int .u32 b, .int .u32 c] ∧ d = .agg [.lit (.int .u32 a), .lit (.int .u32 b), .lit (.int .u32 c)] ∧ ps = [] ∧ (Lit.int .u32 a).wf = true ∧ (Lit.int .u32 b).wf = true ∧ (Lit.int .u32 c).wf = true := by
  obtain ⟨xs, rfl, hn⟩ := WideMaps.okWide_arr threeKey hval
  obtain ⟨fuel, hf⟩ := hd
  obtain ⟨x, y, z, rfl⟩ := size3 xs hn
  cases fuel with
  | zero => simp [DataW.trod] at hf
  | succ m =>
    rw [DataW.trod_step] at hf
    unfold DataW.trodStep at hf
    simp only [threeKey.hu, Value.cells] at hf
    rw [if_pos (by rw [threeKey.size]; rfl)] at hf
    simp only [Option.map_eq_some_iff] at hf
    obtain ⟨ys, hy, e1⟩ := hf
    simp [threeKey.one, List.range_succ, List.range_zero, bind, Option.bind_eq_some_iff] at hy
    obtain ⟨d0, p0, h0, _, ⟨d1, p1, h1, _, ⟨d2, p2, h2, rfl⟩, rfl⟩, rfl⟩ := hy
    obtain ⟨a, ea, xa, wa⟩ := DataW.trod_int Try.underlying22 h0
    obtain ⟨b, eb, xb, wb⟩ := DataW.trod_int Try.underlying22 h1
    obtain ⟨c, ec, xc, wc⟩ := DataW.trod_int Try.underlying22 h2
    simp at ea eb ec xa xb xc
    obtain ⟨rfl, rfl⟩ := xa
    obtain ⟨rfl, rfl⟩ := xb
    obtain ⟨rfl, rfl⟩ := xc
    subst ea eb ec
    simp at e1
    exact ⟨a, b, c, rfl, e1.1.symm, e1.2, wa, wb, wc⟩
theorem shut3 {a b c : Int} (ha : (Lit.int .u32 a).wf = true) (hb : (Lit.int .u32 b).wf = true) (hc : (Lit.int .u32 c).wf = true) :
    DataW.Trod enc Try.prog W base sp held 23 (.agg #[.int .u32 a, .int .u32 b, .int .u32 c]) (.agg [.lit (.int .u32 a), .lit (.int .u32 b), .lit (.int .u32 c)]) [] := by
  refine ⟨2, ?_⟩
  rw [DataW.trod_step]
  unfold DataW.trodStep
  simp only [threeKey.hu, Value.cells]
  rw [if_pos (by rw [threeKey.size]; rfl)]
  simp [threeKey.one, List.range_succ, List.range_zero, DataW.trod, Try.underlying22, ha, hb, hc]
end

theorem eqA (f g : Nat → Int) (h : ∀ i, i < 256 → f i = g i) (w : World) : (Op.equalIn 10000 25 (.agg (arr .u32 256 f)) (.agg (arr .u32 256 g))).run Try.prog w = .ok true w := by
  obtain ⟨i, hi, hz⟩ : ∃ i, Try.prog.info? 22 = some i ∧ i.size = 1 := by
    cases hq : Try.prog.info? 22 with
    | none =>
      have : (Try.prog.info? 22).isSome = true := by kernel_rfl
      rw [hq] at this
      cases this
    | some i =>
      have : (Try.prog.info? 22).map (·.size) = some 1 := by kernel_rfl
      rw [hq] at this
      exact ⟨i, rfl, by simpa using this⟩
  rw [run_eq_arr w Try.underlying25 Try.underlying22 hi hz, eqB_true h]
theorem egA : Try.prog.eqGuardType Try.prog.depth 25 = false := by kernel_rfl
end Go.Proofs.Ytngbmaojgfocgaa.dr
