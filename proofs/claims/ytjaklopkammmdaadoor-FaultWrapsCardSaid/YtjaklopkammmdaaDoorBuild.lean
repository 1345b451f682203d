/- The error that the law builds from a description. -/
import Derived.Test.YtjaklopkammmdaaDoorFew
namespace Go.Proofs.YtjaklopkammmdaaDoor
open Go.RowKit

/-- What is known of the error after k wrappings. -/
structure Built (w : World) (fl : Bool) (c a : Int) (k : Nat) (r : Ch) : Prop where
  here : r.In w
  cd : r.cd = c
  base : r.base = if fl then .flt c a else .code c
  ok : r.ok
  depth : r.depth ≤ 2 * k + 1
theorem Built.past {w w' : World} {fl : Bool} {c a : Int} {k : Nat} {r : Ch} (h : Built w fl c a k r) (hp : Past w w') : Built w' fl c a k r := ⟨h.here.past hp, h.cd, h.base, h.ok, h.depth⟩

theorem build_nil (fl : Bool) (c a : Int) (A : Option Addr) (n cap : Nat) (w : World) :
    Calls Tryd.prog 6 #[.agg #[.bool true, .slice A n cap, .int .i64 c, .int .i64 a, .bool fl]] w fun e w' => e = .returned .nilIface ∧ Past w w' := by
  have HP : Hid (Past w (w.alloc (.cells #[.bool true, .slice A n cap, .int .i64 c, .int .i64 a, .bool fl] 24))) := (Below.refl _ _).alloc (Nat.le_refl _) _
  go_enter Tryd.func6, Tryd.ntmps6
  go_wp2_with fail
  go_ret
  exact ⟨rfl, HP.out⟩

/-- The result of build. -/
def BuiltAs (w : World) (fl : Bool) (c a : Int) (n : Nat) (e : Ending) (w' : World) : Prop := ∃ r, e = .returned r.val ∧ Built w' fl c a n r ∧ Past w w'

set_option maxHeartbeats 2000000 in
theorem build_any (fl : Bool) (c a : Int) (A : Option Addr) (n cap : Nat) (K : Nat → Int) (P : Nat → ByteArray) (B : Nat → Int) (w : World) (hW : Ws w A n K P B) (hn : n ≤ 20) (hs : ∀ i, i < n → small P B i)
    (h0 : -9223372036854775808 ≤ c) (h1 : c ≤ 9223372036854775807) :
    Calls Tryd.prog 6 #[.agg #[.bool false, .slice A n cap, .int .i64 c, .int .i64 a, .bool fl]] w (BuiltAs w fl c a n) := by
  have hp : Past w (w.alloc (.cells #[.bool false, .slice A n cap, .int .i64 c, .int .i64 a, .bool fl] 24)) := (Below.refl _ _).alloc (Nat.le_refl _) _
  have HX := Lib.hid (Row.new w 24 #[.bool false, .slice A n cap, .int .i64 c, .int .i64 a, .bool fl])
  have HW := Lib.hid (hW.past hp)
  have HP := Lib.hid hp
  have HS := Lib.hid hs
  have HC := Lib.hid (And.intro h0 h1)
  clear hW hp hs
  generalize hw1 : w.alloc (.cells #[.bool false, .slice A n cap, .int .i64 c, .int .i64 a, .bool fl] 24) = w1 at *
  have HW1 := Lib.hid hw1
  have hlt := HX.out.lt
  have base : ∀ wx : World, Built wx fl c a 0 (if fl then Ch.flt c a else Ch.code c) := fun wx => by
    cases fl
    · exact ⟨trivial, rfl, rfl, HC.out, by simp [Ch.depth]⟩
    · exact ⟨trivial, rfl, rfl, HC.out, by simp [Ch.depth]⟩
  have HB := Lib.hid base
  clear base hw1
  cases fl with
  | false =>
    go_enter Tryd.func6, Tryd.ntmps6
    go_wp2_with fail
    rw [HW1.out]
    go_loopw [3, 4] (fun s3 s4 wr => ∃ (j : Nat) (r : Ch), j ≤ n ∧ s3 = r.val ∧ s4 = .int .i64 (j : Int) ∧ Hid (Built wr false c a j r ∧ Past w1 wr)) (fun _ i _ => n - (intOf i).toNat)
    case atStart => exact ⟨0, _, Nat.zero_le _, rfl, rfl, HB.out w1, Below.refl _ _⟩
    case round =>
      obtain ⟨j, r, hj, rfl, rfl, HR⟩ := hrel
      have hx := HX.out.past HR.out.2
      have x0 := hx.cell 1
      have x1 := hx.cell 2
      simp at x0 x1
      clear hx
      obtain ⟨T, y, hv⟩ := r.shape
      have HV := Lib.hid hv
      by_cases hltj : j < n
      · obtain ⟨b, o, rfl, hc⟩ := (HW.out.past HR.out.2).at' (by omega)
        obtain ⟨hc0, hc1, hc2⟩ := hc j hltj
        clear hc
        have HSJ : Hid ((P j).size ≤ 50) := (HS.out j hltj).1
        by_cases hk : K j = 0
        · have hk1 : (K j == 0) = true := by simpa using hk
          have HN := fun W h => Lib.hid (in_any (P j) r W h)
          rw [hv]
          rw [hv] at HN
          have HN2 := Lib.hid HN
          clear HN hv hk
          generalize K j = kj at *
          generalize P j = pj at *
          go_wp2_with fail
          refine (HN2.out _ HR.out.1.here).out.mono ?_
          rintro e w2 ⟨g, rfl, hi, hp2⟩
          have HB2 : Hid (Built w2 false c a (j + 1) (.loc g pj r) ∧ Past w1 w2) := by
            obtain ⟨h1, h2⟩ := HR.out
            exact ⟨⟨hi, h1.cd, h1.base, ⟨HSJ.out, h1.ok⟩, by have := h1.depth; simp [Ch.depth]; omega⟩, h2.trans' hp2⟩
          clear hi hp2 HR
          simp only [valLoc]
          go_wp2_with fail
          go_roundw
          case rel => exact ⟨j + 1, .loc g pj r, by omega, rfl, by go_num, HB2⟩
          case measure => simp [RowKit.intOf]; omega
        · have hk1 : (K j == 0) = false := by simpa using hk
          have HN := fun W h => Lib.hid (shift_any (B j) r W h)
          rw [hv]
          rw [hv] at HN
          have HN2 := Lib.hid HN
          clear HN hv hk
          generalize K j = kj at *
          generalize B j = bj at *
          go_wp2_with fail
          refine (HN2.out _ HR.out.1.here).out.mono ?_
          rintro e w2 ⟨g, rfl, hi, hp2⟩
          have HB2 : Hid (Built w2 false c a (j + 1) (.shf g bj r) ∧ Past w1 w2) := by
            obtain ⟨h1, h2⟩ := HR.out
            exact ⟨⟨hi, h1.cd, h1.base, h1.ok, by have := h1.depth; simp [Ch.depth]; omega⟩, h2.trans' hp2⟩
          clear hi hp2 HR
          simp only [valShf]
          go_wp2_with fail
          go_roundw
          case rel => exact ⟨j + 1, .shf g bj r, by omega, rfl, by go_num, HB2⟩
          case measure => simp [RowKit.intOf]; omega
      · obtain rfl : j = n := by omega
        rw [hv]
        clear hv
        go_wp2_with fail
        go_ret
        exact ⟨r, by rw [HV.out]; rfl, HR.out.1, HP.out.trans' HR.out.2⟩
  | true =>
    go_enter Tryd.func6, Tryd.ntmps6
    go_wp2_with fail
    rw [HW1.out]
    go_loopw [3, 4] (fun s3 s4 wr => ∃ (j : Nat) (r : Ch), j ≤ n ∧ s3 = r.val ∧ s4 = .int .i64 (j : Int) ∧ Hid (Built wr true c a j r ∧ Past w1 wr)) (fun _ i _ => n - (intOf i).toNat)
    case atStart => exact ⟨0, _, Nat.zero_le _, rfl, rfl, HB.out w1, Below.refl _ _⟩
    case round =>
      obtain ⟨j, r, hj, rfl, rfl, HR⟩ := hrel
      have hx := HX.out.past HR.out.2
      have x0 := hx.cell 1
      have x1 := hx.cell 2
      simp at x0 x1
      clear hx
      obtain ⟨T, y, hv⟩ := r.shape
      have HV := Lib.hid hv
      by_cases hltj : j < n
      · obtain ⟨b, o, rfl, hc⟩ := (HW.out.past HR.out.2).at' (by omega)
        obtain ⟨hc0, hc1, hc2⟩ := hc j hltj
        clear hc
        have HSJ : Hid ((P j).size ≤ 50) := (HS.out j hltj).1
        by_cases hk : K j = 0
        · have hk1 : (K j == 0) = true := by simpa using hk
          have HN := fun W h => Lib.hid (in_any (P j) r W h)
          rw [hv]
          rw [hv] at HN
          have HN2 := Lib.hid HN
          clear HN hv hk
          generalize K j = kj at *
          generalize P j = pj at *
          go_wp2_with fail
          refine (HN2.out _ HR.out.1.here).out.mono ?_
          rintro e w2 ⟨g, rfl, hi, hp2⟩
          have HB2 : Hid (Built w2 true c a (j + 1) (.loc g pj r) ∧ Past w1 w2) := by
            obtain ⟨h1, h2⟩ := HR.out
            exact ⟨⟨hi, h1.cd, h1.base, ⟨HSJ.out, h1.ok⟩, by have := h1.depth; simp [Ch.depth]; omega⟩, h2.trans' hp2⟩
          clear hi hp2 HR
          simp only [valLoc]
          go_wp2_with fail
          go_roundw
          case rel => exact ⟨j + 1, .loc g pj r, by omega, rfl, by go_num, HB2⟩
          case measure => simp [RowKit.intOf]; omega
        · have hk1 : (K j == 0) = false := by simpa using hk
          have HN := fun W h => Lib.hid (shift_any (B j) r W h)
          rw [hv]
          rw [hv] at HN
          have HN2 := Lib.hid HN
          clear HN hv hk
          generalize K j = kj at *
          generalize B j = bj at *
          go_wp2_with fail
          refine (HN2.out _ HR.out.1.here).out.mono ?_
          rintro e w2 ⟨g, rfl, hi, hp2⟩
          have HB2 : Hid (Built w2 true c a (j + 1) (.shf g bj r) ∧ Past w1 w2) := by
            obtain ⟨h1, h2⟩ := HR.out
            exact ⟨⟨hi, h1.cd, h1.base, h1.ok, by have := h1.depth; simp [Ch.depth]; omega⟩, h2.trans' hp2⟩
          clear hi hp2 HR
          simp only [valShf]
          go_wp2_with fail
          go_roundw
          case rel => exact ⟨j + 1, .shf g bj r, by omega, rfl, by go_num, HB2⟩
          case measure => simp [RowKit.intOf]; omega
      · obtain rfl : j = n := by omega
        rw [hv]
        clear hv
        go_wp2_with fail
        go_ret
        exact ⟨r, by rw [HV.out]; rfl, HR.out.1, HP.out.trans' HR.out.2⟩

end Go.Proofs.YtjaklopkammmdaaDoor
