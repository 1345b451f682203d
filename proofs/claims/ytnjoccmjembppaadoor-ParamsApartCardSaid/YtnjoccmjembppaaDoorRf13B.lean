/- The law's own comparison of a set with a row, where they are the same. -/
import Derived.Test.YtnjoccmjembppaaDoorFrame13
import Derived.Deep.RegionHeld3
namespace Go.Proofs.YtnjoccmjembppaaDoor
open Go.RowKit
set_option linter.unusedVariables false

/-- A row of the reference. -/
abbrev refA (r : R13) : Array Value := #[.int .i64 r.alg, .int .i64 r.fam, .string r.name, .int .i64 r.pub, .int .i64 r.priv, .int .i64 r.seed, .int .i64 r.sig, .string r.text, .int .i64 r.cose, .int .u32 r.typ]
theorem oid_rng : ∀ k : Fin 25, ((oidL ((k.val : Int) + 1)).all fun x => decide (0 ≤ x ∧ x < 4294967296)) = true := by decide +kernel
theorem oid_in {a : Int} (h : 1 ≤ a ∧ a ≤ 25) : ∀ x ∈ oidL a, 0 ≤ x ∧ x < 4294967296 := by
  have := oid_rng ⟨(a - 1).toNat, by omega⟩
  simp only at this
  rw [show (((a - 1).toNat : Nat) : Int) + 1 = a by omega] at this
  intro x hx
  simpa using List.all_eq_true.1 this x hx
theorem oid_text {a : Int} (h : 1 ≤ a ∧ a ≤ 25) : textS (oidL a) = (row13 a).text := (parse_text (oid_some h).1).1
set_option maxHeartbeats 8000000 in
set_option maxRecDepth 100000 in
theorem lsame_any (r : R13) (A : Option Addr) (n c : Nat) (l : List Int) (w : World) (h : SlK .u32 w A n c l) (hr : ∀ x ∈ l, 0 ≤ x ∧ x < 4294967296) (ht : textS l = r.text) (hn : n ≤ 1000) :
    Calls Tryd.prog 10 #[setV r (.slice A n c), .agg (refA r)] w fun e w' => e = .returned (.bool true) ∧ Past w w' := by
  have HT := Lib.hid (fun w h => rtext_any A n c l w h hr)
  rw [ht] at HT
  have HS := Lib.hid h
  have heqn : (r.name.toList == r.name.toList) = true := by simp
  have heqt : (r.text.toList == r.text.toList) = true := by simp
  unfold setV
  clear h hr ht
  go_enter Tryd.func10, Tryd.ntmps10
  go_upto_region 1 with (fail)
  obtain ⟨u, hu⟩ : ∃ u, w.heap.size = u := ⟨_, rfl⟩
  obtain ⟨w1, hw1⟩ : ∃ w1, w1 = w.alloc (.cells (setC r (.slice A n c)) 26) := ⟨_, rfl⟩
  have hp1 : Past w w1 := by rw [hw1]; exact past_alloc13 _ _
  have hr1 : Row w1 u 26 (setC r (.slice A n c)) := by rw [hw1, ← hu]; exact Row.new _ _ _
  have hz1 : w1.heap.size = u + 1 := by rw [hw1, ← hu]; simp
  obtain ⟨w2, hw2⟩ : ∃ w2, w2 = w1.alloc (.cells (refA r) 31) := ⟨_, rfl⟩
  have hp2 : Past w1 w2 := by rw [hw2]; exact past_alloc13 _ _
  obtain ⟨v, hv⟩ : ∃ v, u + 1 = v := ⟨_, rfl⟩
  have hr2 : Row w2 v 31 (refA r) := by rw [hw2, ← hv, ← hz1]; exact Row.new _ _ _
  have hr12 := hr1.past hp2
  have H2 : Hid (Past w w2) := Lib.hid (hp1.trans' hp2)
  have HSK : Hid (∀ w', Past w2 w' → (w'.cell? ⟨u, 0, none⟩ = some (.int .i64 r.alg) ∧ w'.cell? ⟨u, 1, none⟩ = some (.int .i64 r.fam) ∧ w'.cell? ⟨u, 2, none⟩ = some (.string r.name) ∧ w'.cell? ⟨u, 3, none⟩ = some (.int .i64 r.pub) ∧ w'.cell? ⟨u, 4, none⟩ = some (.int .i64 r.priv) ∧ w'.cell? ⟨u, 5, none⟩ = some (.int .i64 r.seed) ∧ w'.cell? ⟨u, 6, none⟩ = some (.int .i64 r.sig) ∧ w'.cell? ⟨u, 7, none⟩ = some (.slice A n c) ∧ w'.cell? ⟨u, 8, none⟩ = some (.int .i64 r.cose) ∧ w'.cell? ⟨u, 9, none⟩ = some (.int .u32 r.typ) ∧ w'.cell? ⟨v, 0, none⟩ = some (.int .i64 r.alg) ∧ w'.cell? ⟨v, 1, none⟩ = some (.int .i64 r.fam) ∧ w'.cell? ⟨v, 2, none⟩ = some (.string r.name) ∧ w'.cell? ⟨v, 3, none⟩ = some (.int .i64 r.pub) ∧ w'.cell? ⟨v, 4, none⟩ = some (.int .i64 r.priv) ∧ w'.cell? ⟨v, 5, none⟩ = some (.int .i64 r.seed) ∧ w'.cell? ⟨v, 6, none⟩ = some (.int .i64 r.sig) ∧ w'.cell? ⟨v, 7, none⟩ = some (.string r.text) ∧ w'.cell? ⟨v, 8, none⟩ = some (.int .i64 r.cose) ∧ w'.cell? ⟨v, 9, none⟩ = some (.int .u32 r.typ))) := by
    refine Lib.hid fun w' hp => ?_
    have q := hr12.past hp
    have q2 := hr2.past hp
    exact ⟨q.cell 0, q.cell 1, q.cell 2, q.cell 3, q.cell 4, q.cell 5, q.cell 6, q.cell 7, q.cell 8, q.cell 9, q2.cell 0, q2.cell 1, q2.cell 2, q2.cell 3, q2.cell 4, q2.cell 5, q2.cell 6, q2.cell 7, q2.cell 8, q2.cell 9⟩
  have HW1 := Lib.hid hw1
  have HW2 := Lib.hid hw2
  have HV := Lib.hid hv
  have HPD : Hid (Past w2 w2.drew) := Lib.hid (Past.drewN (Below.refl _ w2) 1)
  clear hw1 hw2 hp1 hp2 hr1 hr2 hr12 hz1 hv
  rw [← HW1.out]
  rw [← HW2.out]
  try rw [hu]
  try rw [HV.out]
  clear HW1 HW2 HV hu
  simp only [List.append_eq, List.cons_append, List.nil_append]
  first | (go_region_held3 (fun w' => w'.cell? ⟨u, 0, none⟩ = some (.int .i64 r.alg) ∧ w'.cell? ⟨u, 1, none⟩ = some (.int .i64 r.fam) ∧ w'.cell? ⟨u, 2, none⟩ = some (.string r.name) ∧ w'.cell? ⟨u, 3, none⟩ = some (.int .i64 r.pub) ∧ w'.cell? ⟨u, 4, none⟩ = some (.int .i64 r.priv) ∧ w'.cell? ⟨u, 5, none⟩ = some (.int .i64 r.seed) ∧ w'.cell? ⟨u, 6, none⟩ = some (.int .i64 r.sig) ∧ w'.cell? ⟨u, 7, none⟩ = some (.slice A n c) ∧ w'.cell? ⟨u, 8, none⟩ = some (.int .i64 r.cose) ∧ w'.cell? ⟨u, 9, none⟩ = some (.int .u32 r.typ) ∧ w'.cell? ⟨v, 0, none⟩ = some (.int .i64 r.alg) ∧ w'.cell? ⟨v, 1, none⟩ = some (.int .i64 r.fam) ∧ w'.cell? ⟨v, 2, none⟩ = some (.string r.name) ∧ w'.cell? ⟨v, 3, none⟩ = some (.int .i64 r.pub) ∧ w'.cell? ⟨v, 4, none⟩ = some (.int .i64 r.priv) ∧ w'.cell? ⟨v, 5, none⟩ = some (.int .i64 r.seed) ∧ w'.cell? ⟨v, 6, none⟩ = some (.int .i64 r.sig) ∧ w'.cell? ⟨v, 7, none⟩ = some (.string r.text) ∧ w'.cell? ⟨v, 8, none⟩ = some (.int .i64 r.cose) ∧ w'.cell? ⟨v, 9, none⟩ = some (.int .u32 r.typ))
    (first
    | exact HSK.out _ HP7.out
    | exact HSK.out _ HPD.out)
    (first
    | (go_at_call 17; (with_reducible refine (HT.out _ (HS.out.past (H2.out.trans' HPD.out))).mono ?_); rintro e7 w7 ⟨rfl, hp7⟩; have HP7 : Hid (Past w2 w7) := Lib.hid (HPD.out.trans' hp7); clear hp7))) | fail
  all_goals
    go_wp2_with fail
    go_ret
    exact ⟨rfl, H2.out.trans' HP7.out⟩
end Go.Proofs.YtnjoccmjembppaaDoor
