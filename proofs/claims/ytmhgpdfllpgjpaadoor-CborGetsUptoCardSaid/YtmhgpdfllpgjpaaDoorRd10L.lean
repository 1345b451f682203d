/- Reading items: no error bears the code 0; an item has at most as many nodes and bytes as its encoding. -/
import Derived.Test.YtmhgpdfllpgjpaaDoorKid10
namespace Go.Proofs.YtmhgpdfllpgjpaaDoor
open Go.RowKit
set_option linter.unusedVariables false

theorem items_err {rc : Nat → R10} (hrc : ∀ p c a, rc p = .bad c a → c ≠ 0) (mp : Bool) : ∀ (n nx : Nat) (acc : List T) (c a : Nat), itemsR rc mp n nx acc = .inl (c, a) → c ≠ 0
  | 0, nx, acc, c, a, h => by cases h
  | n + 1, nx, acc, c, a, h => by
    unfold itemsR at h
    cases hk : rc nx with
    | bad c1 p1 =>
      rw [hk] at h
      injection h with h
      injection h with h1 h2
      have := hrc _ _ _ hk
      omega
    | good k nk =>
      rw [hk] at h
      simp only at h
      split at h
      · split at h
        · injection h with h
          injection h with h1 h2
          omega
        · cases hv : rc nk with
          | bad c1 p1 =>
            rw [hv] at h
            injection h with h
            injection h with h1 h2
            have := hrc _ _ _ hv
            omega
          | good v nv =>
            rw [hv] at h
            exact items_err hrc mp n nv _ c a h
      · exact items_err hrc mp n nk _ c a h
theorem rdW_err {rc : Nat → R10} (hrc : ∀ p c a, rc p = .bad c a → c ≠ 0) (deep : Bool) (b : List Int) (p c a : Nat) (h : rdW rc deep b p = .bad c a) : c ≠ 0 := by
  unfold rdW at h
  generalize (b.getD p 0).toNat / 32 = k at h
  generalize (b.getD p 0).toNat % 32 = l at h
  split at h
  · injection h with h1 h2; omega
  split at h
  · injection h with h1 h2; omega
  split at h
  · injection h with h1 h2; omega
  split at h
  · injection h with h1 h2; omega
  split at h
  · injection h with h1 h2; omega
  split at h
  · cases h
  split at h
  · split at h
    · injection h with h1 h2; omega
    · generalize (if k = 3 then findBad ((b.drop (p + 1 + szOf l)).take (numAt b p l)) (p + 1 + szOf l) else none) = o at h
      cases o with
      | none => cases h
      | some i => injection h with h1 h2; omega
  · cases hi : itemsR rc (k == 5) (numAt b p l) (p + 1 + szOf l) [] with
    | inl cq =>
      obtain ⟨c1, q1⟩ := cq
      rw [hi] at h
      injection h with h1 h2
      have := items_err hrc _ _ _ _ _ _ hi
      omega
    | inr ke =>
      obtain ⟨ks, e⟩ := ke
      rw [hi] at h
      cases h
theorem rd_err (b : List Int) : ∀ (f p c a : Nat), rd b f p = .bad c a → c ≠ 0
  | 0, p, c, a, h => rdW_err (fun _ _ _ h => by injection h with h1 h2; omega) true b p c a h
  | f + 1, p, c, a, h => rdW_err (rd_err b f) false b p c a h

mutual
theorem cnt_txt : ∀ t : T, cnt t ≤ (txt t).length
  | .node kd nm bs ks => by
    have h : cntL ks (1 + bs.length) ≤ (txtL ks (headB kd.toNat (numOf kd nm bs.length ks.length) ++ bs)).length :=
      cntL_txt ks _ _ (by rw [List.length_append, headB_len]; omega)
    exact h
theorem cntL_txt : ∀ (ks : List T) (a : Nat) (b : List Int), a ≤ b.length → cntL ks a ≤ (txtL ks b).length
  | [], a, b, h => h
  | k :: ks, a, b, h => by
    have h1 := cnt_txt k
    exact cntL_txt ks (a + cnt k) (b ++ txt k) (by rw [List.length_append]; omega)
end
/-- A tree that was read has a short encoding. -/
theorem rd_short (b : List Int) (hr : ∀ x ∈ b, 0 ≤ x ∧ x < 256) (hb : b.length ≤ 1048576) {f p : Nat} {t : T} {e : Nat} (h : rd b f p = .good t e) : p < e ∧ e ≤ b.length ∧ shp t = true ∧ kok t = true ∧ cnt t ≤ 1000000000 ∧ (txt t).length ≤ 10000000 := by
  have R := rd_good b hr f p t e h
  have hl : (txt t).length ≤ b.length := by
    rw [← R.txt, List.length_take, List.length_drop]
    omega
  have hc := cnt_txt t
  exact ⟨R.lt, R.le, R.shp, shp_kok t R.shp, by omega, by omega⟩

/-- What the loop over the kids keeps. -/
structure Kw (xs : List Int) (f k : Nat) (w wx : World) (g q nm nx0 n i nx m : Nat) (K : Option Addr) (d : Nat) (kids : List T) (cells : List Value) : Prop where
  same : itemsR (rd xs f) (k == 5) nm nx0 [] = itemsR (rd xs f) (k == 5) (nm - i) nx kids
  past : Past w wx
  rg : Row wx g 36 zero7
  rq : Row wx q 34 #[.int .i64 (k : Int), .int .u64 0, .slice none 0 0, .slice K m d]
  kds : Kds wx q 34 (.slice K m d) m kids cells
  gq : g < q
  mn : m ≤ nx
  nn : nx ≤ n
  sh : ∀ j, j < m → kok (kids.getD j default) = true ∧ cnt (kids.getD j default) ≤ 1000000000 ∧ (txt (kids.getD j default)).length ≤ 10000000
theorem infoI : (Tryd.prog.info? 34).map (fun i => (i.zero, i.size, i.bytes)) = some (some (.agg #[.int .i64 0, .int .u64 0, .slice none 0 0, .slice none 0 0]), 4, 64) := by kernel_rfl
theorem four_cells (w : World) (e : TypeId) (x y z u : Value) : ∀ j v, [x, y, z, u][j]? = some v → (w.alloc (.cells #[x, y, z, u] e)).cell? ((⟨w.heap.size, 0, none⟩ : Addr).add j) = some v := by
  intro j v hj
  rw [add_none, (Row.new w e #[x, y, z, u]).cell, Nat.zero_add]
  match j, hj with
  | 0, hj => exact hj
  | 1, hj => exact hj
  | 2, hj => exact hj
  | 3, hj => exact hj
/-- What reading the items gives, as a result. -/
def kidsR (xs : List Int) (f k nm nx : Nat) : R10 := match itemsR (rd xs f) (k == 5) nm nx [] with
  | .inl (c, q) => .bad c q
  | .inr (ks, e) => .good (.node (k : Int) 0 [] ks) e

end Go.Proofs.YtmhgpdfllpgjpaaDoor
