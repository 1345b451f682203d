/- Contract of the reference of the hashes: the padding. -/
import Derived.Test.YtamgbkadiobklaaArr
namespace Go.Proofs.Ytamgbkadiobklaa
open Go.RowKit

theorem info8 : (Try.prog.info? 5).map (fun i => (i.zero, i.size, i.bytes)) = some (some (.int .u8 0), 1, 1) := by kernel_rfl
/-- The first m numbers of f. -/
def bl (f : Nat → Int) (m : Nat) : List Int := (List.range m).map f
theorem bl_len (f : Nat → Int) (m : Nat) : (bl f m).length = m := by simp [bl]
theorem bl_succ (f : Nat → Int) (m : Nat) : bl f (m + 1) = bl f m ++ [f m] := by simp [bl, List.range_succ]
theorem bl_getD (f : Nat → Int) (m i : Nat) (h : i < m) : (bl f m).getD i 0 = f i := by simp [bl, List.getD, h]
theorem bl_ext {f g : Nat → Int} {m : Nat} (h : ∀ i, i < m → f i = g i) : bl f m = bl g m := by
  unfold bl
  exact List.map_congr_left fun i hi => h i (List.mem_range.1 hi)
theorem bl_of (xs : List Int) (f : Nat → Int) (h : ∀ i, i < xs.length → f i = xs.getD i 0) : bl f xs.length = xs := by
  apply List.ext_getElem (bl_len _ _)
  intro i h1 h2
  have := h i h2
  simp [bl, this, List.getElem?_eq_getElem h2]

theorem own_block_ge {w : World} {base : Nat} {e : TypeId} {size : Nat} {v : Value} {n : Nat} {xs : List Value} (h : w.ownsRow base e size v n xs) : ∀ g, v.ownBlock = some g → base ≤ g := by
  intro g hg
  rcases h.2 with ⟨h1, _⟩ | ⟨b, cap, cur, h1, h2, _⟩
  · subst h1
    cases hg
  · subst h1
    cases hg
    exact h2
theorem one_cell (w : World) (e : TypeId) (u : Value) : ∀ j v, [u][j]? = some v → (w.alloc (.cells #[u] e)).cell? ((⟨w.heap.size, 0, none⟩ : Addr).add j) = some v := by
  intro j v hj
  cases j with
  | zero =>
    simp at hj
    subst hj
    rw [add_none, World.cell?_alloc_new]
    rfl
  | succ j => simp at hj
/-- The block of what a call owns. -/
theorem own_row {w : World} {base : Nat} {e : TypeId} {A : Option Addr} {n c : Nat} {k : IntKind} {xs : List Int} (h : w.ownsRow base e 1 (.slice A n c) n (xs.map (Value.int k))) (hn : 0 < n) :
    ∃ g cur, A = some ⟨g, 0, none⟩ ∧ base ≤ g ∧ Row w g e cur ∧ ∀ i, i < n → cur[i]? = some (.int k (xs.getD i 0)) := by
  have hl : xs.length = n := by have := h.1; simpa using this
  rcases h.2 with ⟨e1, e2⟩ | ⟨g, cap, cur, e1, e2, e3, e4, e5, e6, e7⟩
  · omega
  · injection e1 with a1 a2 a3
    subst a1 a3
    refine ⟨g, cur, rfl, e2, e3, fun i hi => ?_⟩
    have h1 : cur[i]? = (cur.toList.take (n * 1))[i]? := by rw [List.getElem?_take_of_lt (by omega), Array.getElem?_toList]
    rw [h1, e7, List.getElem?_map, List.getD_eq_getElem?_getD, List.getElem?_eq_getElem (by omega)]
    rfl
theorem own_set {w : World} {base : Nat} {e : TypeId} {g n c : Nat} {k : IntKind} {xs : List Int} (h : w.ownsRow base e 1 (.slice (some ⟨g, 0, none⟩) n c) n (xs.map (Value.int k))) (i : Nat) (v : Int) :
    (w.setCell ⟨g, i, none⟩ (.int k v)).ownsRow base e 1 (.slice (some ⟨g, 0, none⟩) n c) n ((xs.set i v).map (Value.int k)) := by
  refine ⟨by have := h.1; simpa using this, ?_⟩
  rcases h.2 with ⟨e1, e2⟩ | ⟨g', cap, cur, e1, e2, e3, e4, e5, e6, e7⟩
  · cases e1
  · injection e1 with a1 a2 a3
    injection a1 with a1
    injection a1 with a1
    subst a1 a3
    refine .inr ⟨g, c, cur.setIfInBounds i (.int k v), rfl, e2, ?_, e4, e5, by simpa using e6, ?_⟩
    · exact (show Row w g e cur from e3).set i (.int k v)
    · rw [Array.toList_setIfInBounds, List.take_set, e7, List.map_set]
/-- A number before the last bit of the padding is set. -/
def pd (xs : List Int) (s : Int) (i : Nat) : Int := if i < xs.length then xs.getD i 0 else if i = xs.length then s else 0
/-- The length of what is padded. -/
def plen (n r : Nat) : Nat := n + 1 + (r - (n + 1) % r) % r
def padF (xs : List Int) (r : Nat) (s : Int) (i : Nat) : Int := if i + 1 = plen xs.length r then bits .xor .u8 (pd xs s i) 128 else pd xs s i
def padL (xs : List Int) (r : Nat) (s : Int) : List Int := bl (padF xs r s) (plen xs.length r)
theorem plen_mod (n r : Nat) (hr : 0 < r) : plen n r % r = 0 := by
  unfold plen
  have h1 := Nat.mod_lt (n + 1) hr
  have h2 := Nat.div_add_mod (n + 1) r
  by_cases h : (n + 1) % r = 0
  · rw [h, Nat.sub_zero, Nat.mod_self, Nat.add_zero, h]
  · rw [Nat.mod_eq_of_lt (show r - (n + 1) % r < r by omega)]
    rw [show n + 1 + (r - (n + 1) % r) = r * ((n + 1) / r + 1) by rw [Nat.mul_add]; omega]
    exact Nat.mul_mod_right _ _
theorem plen_before (n r t : Nat) (hr : 0 < r) (ht : t < (r - (n + 1) % r) % r) : (n + 1 + t) % r ≠ 0 := by
  have h1 := Nat.mod_lt (n + 1) hr
  intro h
  by_cases h0 : (n + 1) % r = 0
  · rw [h0, Nat.sub_zero, Nat.mod_self] at ht
    omega
  · rw [Nat.mod_eq_of_lt (show r - (n + 1) % r < r by omega)] at ht
    rw [Nat.add_mod, Nat.mod_eq_of_lt (show t < r by omega), Nat.mod_eq_of_lt (by omega)] at h
    omega
theorem pd_rng (xs : List Int) (s : Int) (hx : ∀ x ∈ xs, 0 ≤ x ∧ x < 256) (hs : 0 ≤ s ∧ s < 256) (i : Nat) : 0 ≤ pd xs s i ∧ pd xs s i < 256 := by
  unfold pd
  split
  · rename_i h
    rw [List.getD_eq_getElem?_getD, List.getElem?_eq_getElem h]
    exact hx _ (List.getElem_mem h)
  · split <;> omega

theorem padL_set (xs : List Int) (R m : Nat) (s : Int) (h : plen xs.length R = m + 1) : padL xs R s = (bl (pd xs s) (m + 1)).set m (bits .xor .u8 (pd xs s m) 128) := by
  unfold padL
  rw [h]
  apply List.ext_getElem (by simp [bl_len])
  intro i h1 h2
  have hi : i < m + 1 := by simpa [bl_len] using h1
  rw [List.getElem_set]
  simp only [bl, List.getElem_map, List.getElem_range]
  unfold padF
  rw [h]
  by_cases e : m = i
  · subst e
    rw [if_pos rfl, if_pos rfl]
  · rw [if_neg (by omega), if_neg e]

set_option maxHeartbeats 4000000 in
theorem rpad_any (A : Option Addr) (n c R : Nat) (s : Int) (xs : List Int) (w : World) (hS : Sl w A n c xs) (hn : n ≤ 100000) (hR : 0 < R) (hR2 : R ≤ 200) :
    Calls Try.prog 30 #[.slice A n c, .int .i64 (R : Int), .int .u8 s] w fun e w' => ∃ v, e = .returned v ∧ w'.ownsRow w.heap.size 5 1 v (plen n R) ((padL xs R s).map (Value.int .u8)) ∧ Past w w' := by
  have HS := Lib.hid hS
  clear hS
  obtain ⟨i8, hi8, hz80, hz81, hz82⟩ := info_parts info8
  go_enter Try.func30, Try.ntmps30
  go_wp2_with (at_builtin; refine wpList_append_sl rfl _ _ 23 5 rfl Try.underlying23 info8 w.heap.size _ 0 [] rfl (own_empty w _ rfl (Nat.le_refl _)) A n c xs rfl (HS.out.past ((Below.refl _ _).alloc (Nat.le_refl _) _)) ?a1 ?a2 ?_)
  case a1 => omega
  case a2 => simp
  intro v1 w1 hown1 hgrow1
  have HO1 : Hid (w1.ownsRow w.heap.size 5 1 v1 n (xs.map (Value.int .u8)) ∧ Past w w1) :=
    ⟨by simpa using hown1, ((Below.refl _ _).alloc (Nat.le_refl _) _).grown hgrow1 (by simp) (own_block_ge (own_empty w 5 rfl (Nat.le_refl _)))⟩
  clear hown1 hgrow1
  obtain ⟨BA, bc, rfl⟩ := own_slice HO1.out.1
  have HLN := Lib.hid HS.out.len
  go_wp2_with (at_builtin; refine wpList_append_own _ rfl _ _ 23 rfl w.heap.size 5 i8 (.int .u8 0) 1 1 Try.underlying23 hi8 hz80 hz81 hz82 rfl (by decide) _ n _ rfl (HO1.out.1.alloc _) ⟨w1.heap.size, 0, none⟩ 1 1 [.int .u8 s] rfl rfl ?c1 ?c2 ?c3 ?c4 ?c5 ?_)
  case c1 => exact one_cell w1 _ _
  case c2 => simp [Value.oneCell']
  case c3 => unfold maxLen; omega
  case c4 => omega
  case c5 => exact Nat.le_trans HO1.out.2.size (by simp)
  intro v2 w2 hown2 hgrow2 _
  have HO2 : Hid (w2.ownsRow w.heap.size 5 1 v2 (n + 1 + 0) ((bl (pd xs s) (n + 1 + 0)).map (Value.int .u8)) ∧ Past w w2) := by
    have e : bl (pd xs s) (n + 1) = xs ++ [s] := by
      rw [bl_succ, ← HLN.out, bl_of xs (pd xs s) fun i hi => by unfold pd; rw [if_pos hi]]
      unfold pd
      rw [if_neg (Nat.lt_irrefl _), if_pos rfl]
    rw [Nat.add_zero, e, List.map_append]
    exact ⟨hown2, (HO1.out.2.trans' ((Below.refl _ _).alloc (Nat.le_refl _) _)).grown hgrow2 (Nat.le_trans HO1.out.2.size (by simp)) (own_block_ge HO1.out.1)⟩
  clear hown2 hgrow2 HO1
  obtain ⟨Z, hZ⟩ : ∃ Z, (R - (n + 1) % R) % R = Z := ⟨_, rfl⟩
  have hZR : Z < R := by rw [← hZ]; exact Nat.mod_lt _ hR
  have HPL : Hid (plen n R = n + 1 + Z) := by show _ = _; rw [← hZ]; rfl
  have HPM := Lib.hid (plen_mod n R hR)
  have HPB : Hid (∀ t, t < Z → (n + 1 + t) % R ≠ 0) := fun t ht => plen_before n R t hR (by rw [hZ]; exact ht)
  clear hZ
  go_wp2_with fail
  go_loopg [7] Z (fun k s7 wx => ∃ t : Nat, t ≤ Z ∧ k = Z - t ∧ Hid (wx.ownsRow w.heap.size 5 1 s7 (n + 1 + t) ((bl (pd xs s) (n + 1 + t)).map (Value.int .u8)) ∧ Past w wx))
  case atStart => exact ⟨0, Nat.zero_le _, rfl, HO2⟩
  case round =>
    clear HO2
    obtain ⟨t, ht, hgk, HO⟩ := hrel
    have HGK := Lib.hid hgk
    clear hgk
    obtain ⟨CA, cc, rfl⟩ := own_slice HO.out.1
    by_cases hlt : t < Z
    · have hb : (((n : Int) + 1 + (t : Int)) % (R : Int) != 0) = true := by
        have h := HPB.out t hlt
        have : ((n : Int) + 1 + (t : Int)) % (R : Int) = ((n + 1 + t) % R : Nat) := by push_cast; rfl
        rw [this]
        simp only [bne_iff_ne, ne_eq]
        omega
      have HZ : Hid (pd xs s (n + 1 + t) = 0) := by
        show pd xs s (n + 1 + t) = 0
        unfold pd
        rw [HLN.out, if_neg (by omega), if_neg (by omega)]
      have HB := Lib.hid (bl_succ (pd xs s) (n + 1 + t))
      go_wp2_with (at_builtin; refine wpList_append_own _ rfl _ _ 23 rfl w.heap.size 5 i8 (.int .u8 0) 1 1 Try.underlying23 hi8 hz80 hz81 hz82 rfl (by decide) _ (n + 1 + t) _ rfl (HO.out.1.alloc _) ⟨wr.heap.size, 0, none⟩ 1 1 [.int .u8 0] rfl rfl ?d1 ?d2 ?d3 ?d4 ?d5 ?_)
      case d1 => exact one_cell wr _ _
      case d2 => simp [Value.oneCell']
      case d3 => unfold maxLen; omega
      case d4 => omega
      case d5 => exact Nat.le_trans HO.out.2.size (by simp)
      intro v' w3 hown hgrow _
      have HO2 : Hid (w3.ownsRow w.heap.size 5 1 v' (n + 1 + (t + 1)) ((bl (pd xs s) (n + 1 + (t + 1))).map (Value.int .u8)) ∧ Past w w3) := by
        have e : n + 1 + (t + 1) = n + 1 + t + 1 := by omega
        rw [e, HB.out, List.map_append, HZ.out]
        exact ⟨hown, (HO.out.2.trans' ((Below.refl _ _).alloc (Nat.le_refl _) _)).grown hgrow (Nat.le_trans HO.out.2.size (by simp)) (own_block_ge HO.out.1)⟩
      clear hown hgrow HO
      go_wp2_with fail
      go_roundg (Z - (t + 1))
      case rel => exact ⟨t + 1, by omega, rfl, HO2⟩
      case measure => have := HGK.out; omega
    · obtain rfl : t = Z := by omega
      obtain ⟨m, hm⟩ : ∃ m, n + 1 + t = m + 1 := ⟨n + t, by omega⟩
      rw [hm] at HO HPL ⊢
      have hmb : m ≤ 100400 := by omega
      have hb : (((m : Int) + 1) % (R : Int) != 0) = false := by
        have h := HPM.out
        rw [HPL.out] at h
        have : ((m : Int) + 1) % (R : Int) = ((m + 1) % R : Nat) := by push_cast; rfl
        rw [this]
        simp only [bne_eq_false_iff_eq]
        omega
      obtain ⟨g, cur, rfl, hg, hrow, hcur⟩ := own_row HO.out.1 (by omega)
      have hc := (hrow.cell m).trans (hcur m (by omega))
      rw [bl_getD _ _ _ (by omega)] at hc
      have hf := hrow.fr m
      have HPS : Hid (padL xs R s = (bl (pd xs s) (m + 1)).set m (bits .xor .u8 (pd xs s m) 128)) := padL_set xs R m s (by rw [HLN.out]; exact HPL.out)
      have HP0 : Hid (w.heap.size ≤ g) := hg
      generalize pd xs s m = y at *
      clear hrow hcur hm hlt hZR hg
      go_wp2_with fail
      go_ret
      rw [HPL.out, HPS.out]
      exact ⟨_, rfl, own_set HO.out.1 m _, HO.out.2.set HP0.out _⟩

end Go.Proofs.Ytamgbkadiobklaa
