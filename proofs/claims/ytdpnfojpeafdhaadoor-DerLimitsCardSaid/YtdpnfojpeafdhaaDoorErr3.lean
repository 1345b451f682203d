/- Contracts of package fault's readers: find. -/
import Derived.Test.YtdpnfojpeafdhaaDoorErr2
import Derived.Deep.LoopGhost
namespace Go.Proofs.YtdpnfojpeafdhaaDoor
open Go.RowKit

/-- The innermost error of package api's first met in a chain. -/
def Ch.base : Ch → Ch
  | .shf _ _ r => r.base
  | r => r
/-- The sum of the shifts ahead of it, as the machine adds them. -/
def Ch.acc (a : Int) : Ch → Int
  | .shf _ b r => r.acc (wrap64 (a + b))
  | _ => a

theorem find_any (r : Ch) (w : World) (h : r.In w) : Calls Tryd.prog 46 #[r.val] w fun e w' => e = .returned (.tuple #[r.base.val, .int .i64 (r.acc 0)]) ∧ Past w w' := by
  have HS : Hid (Past w w) := Below.refl _ _
  have HI := Lib.hid h
  clear h
  obtain ⟨T, x, hv⟩ := r.shape
  generalize hb : r.base = B
  generalize ha : r.acc 0 = A
  have HV := Lib.hid hv
  have HB := Lib.hid hb
  have HA := Lib.hid ha
  rw [hv]
  clear hb ha
  clear hv
  go_enter Tryd.func46, Tryd.ntmps46
  go_wp2
  go_loopg [0, 4] r.depth (fun k s0 s4 wx => ∃ (q : Ch) (a : Int), k = q.depth ∧ s0 = q.val ∧ s4 = .int .i64 a ∧ Hid (q.base = B ∧ q.acc a = A ∧ q.In wx ∧ Past w wx))
  case atStart => exact ⟨r, 0, rfl, HV.out.symm, rfl, HB.out, HA.out, HI.out, HS.out⟩
  case round =>
    obtain ⟨q, a, hgk, rfl, rfl, hin⟩ := hrel
    have HGK := Lib.hid hgk
    clear hgk
    cases q with
    | code c =>
      have t1 := toShfCode (.int .i64 c)
      have t2 := toFaultCode (.int .i64 c)
      have t3 := toCodeCode (.int .i64 c)
      simp only [valCode]
      go_wp2
      go_ret2
      obtain ⟨h1, h2, _, h4⟩ := hin.out
      subst h1 h2
      exact ⟨rfl, h4⟩
    | flt c a2 =>
      have t1 := toShfFault (.agg #[.int .i64 c, .int .i64 a2])
      have t2 := toFaultFault (.agg #[.int .i64 c, .int .i64 a2])
      have t3 := toCodeFault (.agg #[.int .i64 c, .int .i64 a2])
      simp only [valFlt]
      go_wp2
      go_ret2
      obtain ⟨h1, h2, _, h4⟩ := hin.out
      subst h1 h2
      exact ⟨rfl, h4⟩
    | shf g b q =>
      have t1 := toShfShf (.pointer (some ⟨g, 0, none⟩))
      have HN := Lib.hid (next_shf g b q wr hin.out.2.2.1)
      have hc := hin.out.2.2.1.1.cell 0
      simp at hc
      obtain ⟨T2, x2, hv2⟩ := q.shape
      have HV2 := Lib.hid hv2
      rw [hv2] at HN
      simp only [valShf] at HN ⊢
      clear hv2
      go_wp2_with fail
      refine HN.out.mono ?_
      rintro e w1 ⟨rfl, hp⟩
      have HIN : Hid (q.base = B ∧ q.acc (wrap64 (a + b)) = A ∧ q.In w1 ∧ Past w w1) := by
        obtain ⟨h1, h2, h3, h4⟩ := hin.out
        exact ⟨h1, h2, h3.2.past hp, h4.trans' hp⟩
      clear hp hin
      go_wp2_with fail
      go_roundg q.depth
      case rel => exact ⟨q, _, rfl, HV2.out.symm, rfl, HIN⟩
      case measure => rw [HGK.out]; simp [Ch.depth]

end Go.Proofs.YtdpnfojpeafdhaaDoor
