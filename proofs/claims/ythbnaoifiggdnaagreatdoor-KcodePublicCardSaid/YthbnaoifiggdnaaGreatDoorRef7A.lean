/- Contract of the reference of the hashes: the padding. Contract of the reference of the hashes: a block is combined with a state. Contract of the reference of the hashes: the permutation of a state. Contract of the reference of the hashes: the output of a sponge. Contracts of the reference of the hashes: the four functions. -/
import Derived.Test.YthbnaoifiggdnaaGreatDoorRef5A
import Derived.Test.YthbnaoifiggdnaaGreatDoorArr
import Derived.Test.YthbnaoifiggdnaaGreatDoorRef6F
namespace Go.Proofs.YthbnaoifiggdnaaGreatDoor
open Go.RowKit
set_option maxRecDepth 100000

/-- The first m numbers of f. -/
def bl (f : Nat → Int) (m : Nat) : List Int := (List.range m).map f
theorem bl_len (f : Nat → Int) (m : Nat) : (bl f m).length = m := by simp [bl]
theorem bl_succ (f : Nat → Int) (m : Nat) : bl f (m + 1) = bl f m ++ [f m] := by simp [bl, List.range_succ]
theorem bl_getD (f : Nat → Int) (m i : Nat) (h : i < m) : (bl f m).getD i 0 = f i := by simp [bl, List.getD, h]
theorem bl_ext {f g : Nat → Int} {m : Nat} (h : ∀ i, i < m → f i = g i) : bl f m = bl g m := by
  unfold bl
  exact List.map_congr_left fun i hi => h i (List.mem_range.1 hi)
theorem bl_of (xs : List Int) (f : Nat → Int) (h : ∀ i, i < xs.length → f i = xs.getD i 0) : bl f xs.length = xs := by
  apply List.ext_getElem (bl_len _ _)
  intro i h1 h2
  have := h i h2
  simp [bl, this, List.getElem?_eq_getElem h2]

/-- The block of what a call owns. -/
theorem own_row {w : World} {base : Nat} {e : TypeId} {A : Option Addr} {n c : Nat} {k : IntKind} {xs : List Int} (h : w.ownsRow base e 1 (.slice A n c) n (xs.map (Value.int k))) (hn : 0 < n) :
    ∃ g cur, A = some ⟨g, 0, none⟩ ∧ base ≤ g ∧ Row w g e cur ∧ ∀ i, i < n → cur[i]? = some (.int k (xs.getD i 0)) := by
  have hl : xs.length = n := by have := h.1; simpa using this
  rcases h.2 with ⟨e1, e2⟩ | ⟨g, cap, cur, e1, e2, e3, e4, e5, e6, e7⟩
  · omega
  · injection e1 with a1 a2 a3
    subst a1 a3
    refine ⟨g, cur, rfl, e2, e3, fun i hi => ?_⟩
    have h1 : cur[i]? = (cur.toList.take (n * 1))[i]? := by rw [List.getElem?_take_of_lt (by omega), Array.getElem?_toList]
    rw [h1, e7, List.getElem?_map, List.getD_eq_getElem?_getD, List.getElem?_eq_getElem (by omega)]
    rfl
theorem own_set {w : World} {base : Nat} {e : TypeId} {g n c : Nat} {k : IntKind} {xs : List Int} (h : w.ownsRow base e 1 (.slice (some ⟨g, 0, none⟩) n c) n (xs.map (Value.int k))) (i : Nat) (v : Int) :
    (w.setCell ⟨g, i, none⟩ (.int k v)).ownsRow base e 1 (.slice (some ⟨g, 0, none⟩) n c) n ((xs.set i v).map (Value.int k)) := by
  refine ⟨by have := h.1; simpa using this, ?_⟩
  rcases h.2 with ⟨e1, e2⟩ | ⟨g', cap, cur, e1, e2, e3, e4, e5, e6, e7⟩
  · cases e1
  · injection e1 with a1 a2 a3
    injection a1 with a1
    injection a1 with a1
    subst a1 a3
    refine .inr ⟨g, c, cur.setIfInBounds i (.int k v), rfl, e2, ?_, e4, e5, by simpa using e6, ?_⟩
    · exact (show Row w g e cur from e3).set i (.int k v)
    · rw [Array.toList_setIfInBounds, List.take_set, e7, List.map_set]
/-- A number before the last bit of the padding is set. -/
def pd (xs : List Int) (s : Int) (i : Nat) : Int := if i < xs.length then xs.getD i 0 else if i = xs.length then s else 0
/-- The length of what is padded. -/
def plen (n r : Nat) : Nat := n + 1 + (r - (n + 1) % r) % r
def padF (xs : List Int) (r : Nat) (s : Int) (i : Nat) : Int := if i + 1 = plen xs.length r then bits .xor .u8 (pd xs s i) 128 else pd xs s i
def padL (xs : List Int) (r : Nat) (s : Int) : List Int := bl (padF xs r s) (plen xs.length r)
theorem plen_mod (n r : Nat) (hr : 0 < r) : plen n r % r = 0 := by
  unfold plen
  have h1 := Nat.mod_lt (n + 1) hr
  have h2 := Nat.div_add_mod (n + 1) r
  by_cases h : (n + 1) % r = 0
  · rw [h, Nat.sub_zero, Nat.mod_self, Nat.add_zero, h]
  · rw [Nat.mod_eq_of_lt (show r - (n + 1) % r < r by omega)]
    rw [show n + 1 + (r - (n + 1) % r) = r * ((n + 1) / r + 1) by rw [Nat.mul_add]; omega]
    exact Nat.mul_mod_right _ _
theorem plen_before (n r t : Nat) (hr : 0 < r) (ht : t < (r - (n + 1) % r) % r) : (n + 1 + t) % r ≠ 0 := by
  have h1 := Nat.mod_lt (n + 1) hr
  intro h
  by_cases h0 : (n + 1) % r = 0
  · rw [h0, Nat.sub_zero, Nat.mod_self] at ht
    omega
  · rw [Nat.mod_eq_of_lt (show r - (n + 1) % r < r by omega)] at ht
    rw [Nat.add_mod, Nat.mod_eq_of_lt (show t < r by omega), Nat.mod_eq_of_lt (by omega)] at h
    omega
theorem pd_rng (xs : List Int) (s : Int) (hx : ∀ x ∈ xs, 0 ≤ x ∧ x < 256) (hs : 0 ≤ s ∧ s < 256) (i : Nat) : 0 ≤ pd xs s i ∧ pd xs s i < 256 := by
  unfold pd
  split
  · rename_i h
    rw [List.getD_eq_getElem?_getD, List.getElem?_eq_getElem h]
    exact hx _ (List.getElem_mem h)
  · split <;> omega

theorem padL_set (xs : List Int) (R m : Nat) (s : Int) (h : plen xs.length R = m + 1) : padL xs R s = (bl (pd xs s) (m + 1)).set m (bits .xor .u8 (pd xs s m) 128) := by
  unfold padL
  rw [h]
  apply List.ext_getElem (by simp [bl_len])
  intro i h1 h2
  have hi : i < m + 1 := by simpa [bl_len] using h1
  rw [List.getElem_set]
  simp only [bl, List.getElem_map, List.getElem_range]
  unfold padF
  rw [h]
  by_cases e : m = i
  · subst e
    rw [if_pos rfl, if_pos rfl]
  · rw [if_neg (by omega), if_neg e]

set_option maxHeartbeats 4000000 in
theorem rpad_any (A : Option Addr) (n c R : Nat) (s : Int) (xs : List Int) (w : World) (hS : Sl w A n c xs) (hn : n ≤ 100000) (hR : 0 < R) (hR2 : R ≤ 200) :
    Calls Tryz.prog 66 #[.slice A n c, .int .i64 (R : Int), .int .u8 s] w fun e w' => ∃ v, e = .returned v ∧ w'.ownsRow w.heap.size 5 1 v (plen n R) ((padL xs R s).map (Value.int .u8)) ∧ Past w w' := by
  have HS := Lib.hid hS
  clear hS
  obtain ⟨i8, hi8, hz80, hz81, hz82⟩ := info_parts info8
  go_enter Tryz.func66, Tryz.ntmps66
  go_wp2_with (at_builtin; refine wpList_append_sl rfl _ _ 25 5 rfl Tryz.underlying25 info8 w.heap.size _ 0 [] rfl (own_empty w _ rfl (Nat.le_refl _)) A n c xs rfl (HS.out.past ((Below.refl _ _).alloc (Nat.le_refl _) _)) ?a1 ?a2 ?_)
  case a1 => omega
  case a2 => simp
  intro v1 w1 hown1 hgrow1
  have HO1 : Hid (w1.ownsRow w.heap.size 5 1 v1 n (xs.map (Value.int .u8)) ∧ Past w w1) :=
    ⟨by simpa using hown1, ((Below.refl _ _).alloc (Nat.le_refl _) _).grown hgrow1 (by simp) (own_block_ge (own_empty w 5 rfl (Nat.le_refl _)))⟩
  clear hown1 hgrow1
  obtain ⟨BA, bc, rfl⟩ := own_slice HO1.out.1
  have HLN := Lib.hid HS.out.len
  go_wp2_with (at_builtin; refine wpList_append_own _ rfl _ _ 25 rfl w.heap.size 5 i8 (.int .u8 0) 1 1 Tryz.underlying25 hi8 hz80 hz81 hz82 rfl (by decide) _ n _ rfl (HO1.out.1.alloc _) ⟨w1.heap.size, 0, none⟩ 1 1 [.int .u8 s] rfl rfl ?c1 ?c2 ?c3 ?c4 ?c5 ?_)
  case c1 => exact one_cell w1 _ _
  case c2 => simp [Value.oneCell']
  case c3 => unfold maxLen; omega
  case c4 => omega
  case c5 => exact Nat.le_trans HO1.out.2.size (by simp)
  intro v2 w2 hown2 hgrow2 _
  have HO2 : Hid (w2.ownsRow w.heap.size 5 1 v2 (n + 1 + 0) ((bl (pd xs s) (n + 1 + 0)).map (Value.int .u8)) ∧ Past w w2) := by
    have e : bl (pd xs s) (n + 1) = xs ++ [s] := by
      rw [bl_succ, ← HLN.out, bl_of xs (pd xs s) fun i hi => by unfold pd; rw [if_pos hi]]
      unfold pd
      rw [if_neg (Nat.lt_irrefl _), if_pos rfl]
    rw [Nat.add_zero, e, List.map_append]
    exact ⟨hown2, (HO1.out.2.trans' ((Below.refl _ _).alloc (Nat.le_refl _) _)).grown hgrow2 (Nat.le_trans HO1.out.2.size (by simp)) (own_block_ge HO1.out.1)⟩
  clear hown2 hgrow2 HO1
  obtain ⟨Z, hZ⟩ : ∃ Z, (R - (n + 1) % R) % R = Z := ⟨_, rfl⟩
  have hZR : Z < R := by rw [← hZ]; exact Nat.mod_lt _ hR
  have HPL : Hid (plen n R = n + 1 + Z) := by show _ = _; rw [← hZ]; rfl
  have HPM := Lib.hid (plen_mod n R hR)
  have HPB : Hid (∀ t, t < Z → (n + 1 + t) % R ≠ 0) := fun t ht => plen_before n R t hR (by rw [hZ]; exact ht)
  clear hZ
  go_wp2_with fail
  go_loopg [7] Z (fun k s7 wx => ∃ t : Nat, t ≤ Z ∧ k = Z - t ∧ Hid (wx.ownsRow w.heap.size 5 1 s7 (n + 1 + t) ((bl (pd xs s) (n + 1 + t)).map (Value.int .u8)) ∧ Past w wx))
  case atStart => exact ⟨0, Nat.zero_le _, rfl, HO2⟩
  case round =>
    clear HO2
    obtain ⟨t, ht, hgk, HO⟩ := hrel
    have HGK := Lib.hid hgk
    clear hgk
    obtain ⟨CA, cc, rfl⟩ := own_slice HO.out.1
    by_cases hlt : t < Z
    · have hb : (((n : Int) + 1 + (t : Int)) % (R : Int) != 0) = true := by
        have h := HPB.out t hlt
        have : ((n : Int) + 1 + (t : Int)) % (R : Int) = ((n + 1 + t) % R : Nat) := by push_cast; rfl
        rw [this]
        simp only [bne_iff_ne, ne_eq]
        omega
      have HZ : Hid (pd xs s (n + 1 + t) = 0) := by
        show pd xs s (n + 1 + t) = 0
        unfold pd
        rw [HLN.out, if_neg (by omega), if_neg (by omega)]
      have HB := Lib.hid (bl_succ (pd xs s) (n + 1 + t))
      go_wp2_with (at_builtin; refine wpList_append_own _ rfl _ _ 25 rfl w.heap.size 5 i8 (.int .u8 0) 1 1 Tryz.underlying25 hi8 hz80 hz81 hz82 rfl (by decide) _ (n + 1 + t) _ rfl (HO.out.1.alloc _) ⟨wr.heap.size, 0, none⟩ 1 1 [.int .u8 0] rfl rfl ?d1 ?d2 ?d3 ?d4 ?d5 ?_)
      case d1 => exact one_cell wr _ _
      case d2 => simp [Value.oneCell']
      case d3 => unfold maxLen; omega
      case d4 => omega
      case d5 => exact Nat.le_trans HO.out.2.size (by simp)
      intro v' w3 hown hgrow _
      have HO2 : Hid (w3.ownsRow w.heap.size 5 1 v' (n + 1 + (t + 1)) ((bl (pd xs s) (n + 1 + (t + 1))).map (Value.int .u8)) ∧ Past w w3) := by
        have e : n + 1 + (t + 1) = n + 1 + t + 1 := by omega
        rw [e, HB.out, List.map_append, HZ.out]
        exact ⟨hown, (HO.out.2.trans' ((Below.refl _ _).alloc (Nat.le_refl _) _)).grown hgrow (Nat.le_trans HO.out.2.size (by simp)) (own_block_ge HO.out.1)⟩
      clear hown hgrow HO
      go_wp2_with fail
      go_roundg (Z - (t + 1))
      case rel => exact ⟨t + 1, by omega, rfl, HO2⟩
      case measure => have := HGK.out; omega
    · obtain rfl : t = Z := by omega
      obtain ⟨m, hm⟩ : ∃ m, n + 1 + t = m + 1 := ⟨n + t, by omega⟩
      rw [hm] at HO HPL ⊢
      have hmb : m ≤ 100400 := by omega
      have hb : (((m : Int) + 1) % (R : Int) != 0) = false := by
        have h := HPM.out
        rw [HPL.out] at h
        have : ((m : Int) + 1) % (R : Int) = ((m + 1) % R : Nat) := by push_cast; rfl
        rw [this]
        simp only [bne_eq_false_iff_eq]
        omega
      obtain ⟨g, cur, rfl, hg, hrow, hcur⟩ := own_row HO.out.1 (by omega)
      have hc := (hrow.cell m).trans (hcur m (by omega))
      rw [bl_getD _ _ _ (by omega)] at hc
      have hf := hrow.fr m
      have HPS : Hid (padL xs R s = (bl (pd xs s) (m + 1)).set m (bits .xor .u8 (pd xs s m) 128)) := padL_set xs R m s (by rw [HLN.out]; exact HPL.out)
      have HP0 : Hid (w.heap.size ≤ g) := hg
      generalize pd xs s m = y at *
      clear hrow hcur hm hlt hZR hg
      go_wp2_with fail
      go_ret
      rw [HPL.out, HPS.out]
      exact ⟨_, rfl, own_set HO.out.1 m _, HO.out.2.set HP0.out _⟩

end Go.Proofs.YthbnaoifiggdnaaGreatDoor

namespace Go.Proofs.YthbnaoifiggdnaaGreatDoor
open Go.RowKit
set_option maxRecDepth 100000

/-- A byte at its place in a lane. -/
def lby (y : Int) (i : Nat) : Lane := BitVec.ofNat 64 y.toNat <<< (8 * (i % 8))
/-- A state combined with the first i bytes. -/
def mixN (A : Nat → Lane) (ys : List Int) : Nat → Nat → Lane
  | 0 => A
  | i + 1 => fun j => if j = i / 8 then mixN A ys i j ^^^ lby (ys.getD i 0) i else mixN A ys i j
theorem mixN_at (A : Nat → Lane) (ys : List Int) (i j : Nat) : mixN A ys (i + 1) j = if j = i / 8 then mixN A ys i j ^^^ lby (ys.getD i 0) i else mixN A ys i j := rfl
def mixF (A : Nat → Lane) (ys : List Int) : Nat → Lane := mixN A ys ys.length

theorem lby_ln (y : Int) (h0 : 0 ≤ y) (h1 : y < 256) (m : Nat) : IntKind.u64.wrap (y * 2 ^ (8 * m)) = ln (BitVec.ofNat 64 y.toNat <<< (8 * m)) := by
  obtain ⟨k, rfl⟩ := Int.eq_ofNat_of_zero_le h0
  unfold ln
  rw [IntKind.wrap_u64, BitVec.toNat_shiftLeft, BitVec.toNat_ofNat, Nat.shiftLeft_eq, Int.toNat_natCast, Nat.mod_eq_of_lt (a := k) (by omega), Int.natCast_emod, Int.natCast_mul, Int.natCast_pow]
  rfl
theorem getD_rng {xs : List Int} (h : ∀ x ∈ xs, 0 ≤ x ∧ x < 256) (i : Nat) : 0 ≤ xs.getD i 0 ∧ xs.getD i 0 < 256 := by
  rw [List.getD_eq_getElem?_getD]
  by_cases hi : i < xs.length
  · rw [List.getElem?_eq_getElem hi]
    exact h _ (List.getElem_mem hi)
  · rw [List.getElem?_eq_none (by omega)]
    simp
def TwoM (w wx : World) (g : Nat) (c1 : Array Value) (f : Nat → Int) : Prop :=
  Past w wx ∧ LM .u64 wx g 113 25 f ∧ Row wx (g + 1) 113 c1
theorem TwoM.put {w wx : World} {g : Nat} {c1 : Array Value} {f : Nat → Int} (h : TwoM w wx g c1 f) (hg : w.heap.size ≤ g) (i : Nat) (hi : i < 25) (v : Int) : TwoM w (wx.setCell ⟨g, i, none⟩ (.int .u64 v)) g c1 (upd f i v) :=
  ⟨h.1.set hg _, h.2.1.put i hi v, Row.setOther h.2.2 (by omega) _ _⟩

set_option maxHeartbeats 4000000 in
theorem rmix_any (A : Nat → Lane) (B : Option Addr) (n c : Nat) (ys : List Int) (w : World) (hS : Sl w B n c ys) (hn : n ≤ 200) :
    Calls Tryz.prog 68 #[.agg (arr .u64 25 fun i => ln (A i)), .slice B n c] w fun e w' => e = .returned (.agg (arr .u64 25 fun i => ln (mixF A ys i))) ∧ Past w w' := by
  have HS := Lib.hid hS
  clear hS
  have H0 : Hid (TwoM w (((w.alloc (.cells (arr .u64 25 fun i => ln (A i)) 113))).alloc (.cells (arr .u64 25 fun _ => 0) 113)) w.heap.size (arr .u64 25 fun _ => 0) (fun j => ln (mixN A ys 0 j))) :=
    ⟨((Below.refl _ _).alloc (Nat.le_refl _) _).alloc (by simp) _, (Row.new w 113 _).alloc _, by simpa using Row.new (w.alloc (.cells (arr .u64 25 fun i => ln (A i)) 113)) 113 (arr .u64 25 fun _ => 0)⟩
  generalize arr .u64 25 (fun i => ln (A i)) = cs at *
  go_enter Tryz.func68, Tryz.ntmps68
  go_wp2_with fail
  rw [arr_zero25]
  generalize (w.alloc (.cells cs 113)).alloc (.cells (arr .u64 25 fun _ => 0) 113) = w3 at *
  obtain ⟨g, hg⟩ : ∃ g, w.heap.size = g := ⟨_, rfl⟩
  have hge : w.heap.size ≤ g := by omega
  rw [hg] at H0 ⊢
  clear hg
  go_loopg [5] n (fun k s5 wx => ∃ i : Nat, i ≤ n ∧ k = n - i ∧ s5 = .int .i64 (i : Int) ∧ Hid (TwoM w wx g (arr .u64 25 fun _ => 0) (fun j => ln (mixN A ys i j))))
  case atStart => exact ⟨0, Nat.zero_le _, rfl, rfl, H0⟩
  case round =>
    clear H0
    obtain ⟨i, hi, hgk, rfl, HQ⟩ := hrel
    have HGK := Lib.hid hgk
    clear hgk
    by_cases hlt : i < n
    · obtain ⟨b, o, rfl, hc⟩ := (HS.out.past HQ.out.1).bytes (by omega)
      have hx := hc i hlt
      have hi0 : (0 : Int) ≤ (i : Int) := by omega
      have hin1 : (i : Int) < (n : Int) := by omega
      obtain ⟨q, hq⟩ : ∃ q, i / 8 = q := ⟨_, rfl⟩
      obtain ⟨m, hm⟩ : ∃ m, i % 8 = m := ⟨_, rfl⟩
      have hq1 : (q : Int) < 25 := by omega
      have hm3 : (m : Int) < 8 := by omega
      have hqi : (i : Int) / 8 = (q : Int) := by omega
      have hmi : (i : Int) % 8 = (m : Int) := by omega
      have hc1 := HQ.out.2.1.at q (by omega)
      have hf1 := HQ.out.2.1.fr q
      have hy := getD_rng HS.out.rng i
      obtain ⟨hy0, hy1⟩ := hy
      have HQ2 : Hid (TwoM w (wr.setCell ⟨g, q, none⟩ (.int .u64 (bits .xor .u64 (ln (mixN A ys i q)) (IntKind.u64.wrap (ys.getD i 0 * 2 ^ (8 * m)))))) g (arr .u64 25 fun _ => 0) (fun j => ln (mixN A ys (i + 1) j))) := by
        obtain ⟨h1, h2, h3⟩ := HQ.out.put hge q (by omega) (bits .xor .u64 (ln (mixN A ys i q)) (IntKind.u64.wrap (ys.getD i 0 * 2 ^ (8 * m))))
        refine ⟨h1, LM.same h2 fun j _ => ?_, h3⟩
        rw [mixN_at]
        by_cases e : j = q
        · subst e
          rw [upd_at, if_pos hq.symm, lby_ln _ hy0 hy1 m, xor_ln, lby, hm]
        · rw [upd_ne _ _ e, if_neg (by omega)]
      clear hc HQ
      generalize ys.getD i 0 = y at *
      generalize mixN A ys i q = z at *
      go_wp2_with fail
      go_region
      go_wp2_with fail
      go_roundg (n - (i + 1))
      case rel => exact ⟨i + 1, by omega, rfl, by go_num, ⟨HQ2.out.1.drewN 1, HQ2.out.2.1.drewN 1, HQ2.out.2.2.drewN 1⟩⟩
      case measure => have := HGK.out; omega
    · obtain rfl : i = n := by omega
      have hr2 := HQ.out.2.1
      have hr1 := HQ.out.2.2
      unfold LM at hr2
      have hmx : mixN A ys i = mixF A ys := by unfold mixF; rw [HS.out.len]
      rw [hmx] at hr2
      have hi2 : (Tryz.prog.info? 113).map (·.size) = some (arr .u64 25 fun j => ln (mixF A ys j)).size := by rw [arr_size]; kernel_rfl
      have hs2 : (arr .u64 25 fun _ => 0).size = (arr .u64 25 fun j => ln (mixF A ys j)).size := by rw [arr_size, arr_size]
      have ho2 := arr_one .u64 25 fun j => ln (mixF A ys j)
      have HP := Lib.hid (HQ.out.1)
      clear HQ hmx
      generalize hcc : arr .u64 25 (fun j => ln (mixF A ys j)) = c2 at *
      have HCC := Lib.hid hcc
      clear hcc
      generalize arr .u64 25 (fun _ => 0) = c1 at *
      go_wp2_with (first | (refine wpList_load_row rfl 113 _ rfl g rfl _ _ (0, 0) _ hr2 Tryz.underlying113 rfl hi2 ?_) | (refine wpList_store_row rfl 113 _ _ rfl (g + 1) _ rfl rfl _ _ hr1 hi2 hs2 ho2 ?_))
      refine bodyPost_ret (results_cell_row rfl _ _ (g + 1) _ c2 (0, 0) _ rfl (setRow_heap wr (g + 1) c1 c2 _ _ hr1) Tryz.underlying113 rfl hi2) rfl ?_
      exact ⟨by rw [HCC.out], below_setRow HP.out (by omega) _⟩

end Go.Proofs.YthbnaoifiggdnaaGreatDoor

namespace Go.Proofs.YthbnaoifiggdnaaGreatDoor
open Go.RowKit
set_option maxRecDepth 100000

/-- The permutation of a state whose lanes lie row by row. -/
def tp (A : Nat → Lane) (i : Nat) : Lane := A (i / 5 + 5 * (i % 5))
def tq (A : Nat → Lane) (i : Nat) : Lane := A (i % 5 * 5 + i / 5)
def rperm (A : Nat → Lane) : Nat → Lane := tq (kperm (tp A))

theorem rpermute_any (A : Nat → Lane) (w : World) :
    Calls Tryz.prog 67 #[.agg (arr .u64 25 fun i => ln (A i))] w fun e w' => e = .returned (.agg (arr .u64 25 fun i => ln (rperm A i))) ∧ Past w w' := by
  have HC1 := Lib.hid fun w => of_any (fun i => ln (A i)) w
  have HC2 := Lib.hid fun w => permute_any (tp A) w
  have HC3 := Lib.hid fun w => list_any (fun i => ln (kperm (tp A) i)) w
  have hs0 := arr_size .u64 25 fun i => ln (A i)
  have hs1 : (arr .u64 25 fun _ => 0).size = (arr .u64 25 fun i => ln (rperm A i)).size := by rw [arr_size, arr_size]
  have ho1 := arr_one .u64 25 fun i => ln (rperm A i)
  have hi1 : (Tryz.prog.info? 113).map (·.size) = some (arr .u64 25 fun i => ln (rperm A i)).size := by rw [arr_size]; kernel_rfl
  have hi0 : (Tryz.prog.info? 113).map (·.size) = some (arr .u64 25 fun i => ln (A i)).size := by rw [arr_size]; kernel_rfl
  generalize arr .u64 25 (fun i => ln (A i)) = cs at *
  change Hid (∀ w, Calls Tryz.prog 81 #[.agg (arr .u64 25 fun i => ln (kperm (tp A) i))] w fun e w' => e = .returned (.agg (arr .u64 25 fun i => ln (rperm A i))) ∧ Past w w') at HC3
  change Hid (∀ w, Calls Tryz.prog 83 #[.agg cs] w fun e w' => e = .returned (.agg (arr .u64 25 fun i => ln (tp A i))) ∧ Past w w') at HC1
  generalize arr .u64 25 (fun i => ln (rperm A i)) = c2 at *
  generalize arr .u64 25 (fun i => ln (kperm (tp A) i)) = c3 at *
  generalize arr .u64 25 (fun i => ln (tp A i)) = c4 at *
  have hz := arr_zero25
  generalize arr .u64 25 (fun _ => 0) = c1 at *
  have hr0 : Row ((w.alloc (.cells cs 113)).alloc (.cells c1 113)) w.heap.size 113 cs := (Row.new w _ _).alloc _
  have HR1 : Hid (Row ((w.alloc (.cells cs 113)).alloc (.cells c1 113)) (w.heap.size + 1) 113 c1) := by show Row _ _ _ _; simpa using Row.new (w.alloc (.cells cs 113)) 113 c1
  have HP : Hid (Past w ((w.alloc (.cells cs 113)).alloc (.cells c1 113))) := ((Below.refl _ _).alloc (Nat.le_refl _) _).alloc (by simp) _
  go_enter Tryz.func67, Tryz.ntmps67
  go_wp2_with (refine wpList_load_row rfl 113 _ rfl w.heap.size rfl _ _ (0, 0) _ hr0 Tryz.underlying113 rfl hi0 ?_)
  clear hr0
  generalize (w.alloc (.cells cs 113)).alloc (.cells c1 113) = w0 at *
  refine (HC1.out _).mono ?_
  rintro e w1 ⟨rfl, hp1⟩
  have HP1 := Lib.hid (HP.out.trans' hp1)
  have HR2 := Lib.hid (HR1.out.past hp1)
  clear hp1 HR1 HP
  go_wp2_with fail
  refine (HC2.out _).mono ?_
  rintro e w2 ⟨rfl, hp1⟩
  have HP2 := Lib.hid (HP1.out.trans' hp1)
  have HR3 := Lib.hid (HR2.out.past hp1)
  clear hp1 HR2 HP1
  go_wp2_with fail
  refine (HC3.out _).mono ?_
  rintro e w3 ⟨rfl, hp1⟩
  have HP3 := Lib.hid (HP2.out.trans' hp1)
  have hr1 := HR3.out.past hp1
  clear hp1 HR3 HP2
  go_wp2_with (refine wpList_store_row rfl 113 _ _ rfl (w.heap.size + 1) _ rfl rfl _ _ hr1 hi1 hs1 ho1 ?_)
  refine bodyPost_ret (results_cell_row rfl _ _ (w.heap.size + 1) _ c2 (0, 0) _ rfl (setRow_heap w3 (w.heap.size + 1) c1 c2 _ _ hr1) Tryz.underlying113 rfl hi1) rfl ?_
  exact ⟨rfl, below_setRow HP3.out (by omega) _⟩

end Go.Proofs.YthbnaoifiggdnaaGreatDoor

namespace Go.Proofs.YthbnaoifiggdnaaGreatDoor
open Go.RowKit
set_option maxRecDepth 100000

/-- The state after the first k blocks of R bytes. -/
def rabs (p : List Int) (R : Nat) : Nat → Nat → Lane
  | 0 => fun _ => 0
  | k + 1 => rperm (mixF (rabs p R k) ((p.drop (k * R)).take R))
/-- The state after k more permutations. -/
def rsq (A : Nat → Lane) : Nat → Nat → Lane
  | 0 => A
  | k + 1 => rperm (rsq A k)
/-- A byte of the output. -/
def rout (A : Nat → Lane) (R j : Nat) : Int := kbyte (rsq A (j / R)) (j % R)
/-- The state after all bytes. -/
def rstate (xs : List Int) (R : Nat) (s : Int) : Nat → Lane := rabs (padL xs R s) R (plen xs.length R / R)

theorem bits8 : ∀ x : Fin 256, 0 ≤ bits .xor .u8 (x.val : Int) 128 ∧ bits .xor .u8 (x.val : Int) 128 < 256 := by decide +kernel
theorem padL_rng (xs : List Int) (R : Nat) (s : Int) (hx : ∀ x ∈ xs, 0 ≤ x ∧ x < 256) (hs : 0 ≤ s ∧ s < 256) : ∀ x ∈ padL xs R s, 0 ≤ x ∧ x < 256 := by
  intro x h
  obtain ⟨j, _, rfl⟩ := List.mem_map.1 h
  have hp := pd_rng xs s hx hs j
  unfold padF
  split
  · obtain ⟨y, hy⟩ := Int.eq_ofNat_of_zero_le hp.1
    rw [hy]
    exact bits8 ⟨y, by omega⟩
  · exact hp
/-- A cut of two indexes. -/
theorem slice2 (g L pc I R : Nat) (h1 : I + R ≤ pc) (hI : I < pc) (w : World) :
    (Instr.slice 25 (.slice (some ⟨g, 0, none⟩) L pc) (some (.int .i64 (I : Int))) (some (.int .i64 ((I : Int) + (R : Int)))) none).run Tryz.prog w = .ok (.slice (some ⟨g, I, none⟩) R (pc - I)) w := by
  rw [run_slice_lh w 25 (some ⟨g, 0, none⟩) L pc Tryz.underlying25 .i64 .i64 (I : Int) ((I : Int) + (R : Int)) (by omega) (by omega) (by omega)]
  have hs : (sizeOf (Tryz.prog.elem 25)).run Tryz.prog w = .ok 1 w := by kernel_rfl
  rw [hs]
  simp only [Result.andThen, sliced, Int.toNat_natCast, show ((I : Int) + (R : Int)).toNat = I + R by omega]
  rw [if_neg (by omega), Option.map_some, Nat.mul_one, add_none, Nat.zero_add, Nat.add_sub_cancel_left]
theorem sliceAt2 (g L pc I R : Nat) (h1 : I + R ≤ pc) (hI : I < pc) (w : World) :
    (Instr.sliceAt 25 (.slice (some ⟨g, 0, none⟩) L pc) (some (.int .i64 (I : Int))) (some (.int .i64 ((I : Int) + (R : Int)))) none).run Tryz.prog w = .ok (.slice (some ⟨g, I, none⟩) R (pc - I)) w := by
  rw [run_sliceAt_slice w 25 _ _ _ _ Tryz.underlying25]
  exact slice2 g L pc I R h1 hI w
theorem own_past {w w' : World} {B : Nat} {e : TypeId} {v : Value} {n : Nat} {xs : List Value} (h : w.ownsRow B e 1 v n xs) (hp : Past w w') : w'.ownsRow B e 1 v n xs := by
  refine ⟨h.1, ?_⟩
  rcases h.2 with h | ⟨g, cap, cur, e1, e2, e3, e4⟩
  · exact .inl h
  · exact .inr ⟨g, cap, cur, e1, e2, (show Row w g e cur from e3).past hp, e4⟩
theorem own_setRow {w : World} {B g : Nat} {e : TypeId} {v : Value} {n : Nat} {xs : List Value} (h : w.ownsRow B e 1 v n xs) (hg : g < B) (cs : Array Value) : (w.setRow g cs).ownsRow B e 1 v n xs := by
  refine ⟨h.1, ?_⟩
  rcases h.2 with h | ⟨g', cap, cur, e1, e2, e3, e4⟩
  · exact .inl h
  · exact .inr ⟨g', cap, cur, e1, e2, (setRow_other w g g' cs (by omega)).trans e3, e4⟩
theorem bl_take (f : Nat → Int) (m M : Nat) (h : M ≤ m) : (bl f m).take M = bl f M := by
  unfold bl
  rw [← List.map_take, List.take_range, Nat.min_eq_left h]
theorem bl_add (f : Nat → Int) (a b : Nat) : bl f (a + b) = bl f a ++ bl (fun j => f (a + j)) b := by
  unfold bl
  rw [List.range_add, List.map_append, List.map_map]
  rfl
theorem rout_add (A : Nat → Lane) (R t : Nat) (hR : 0 < R) : bl (rout A R) (t * R + R) = bl (rout A R) (t * R) ++ bl (kbyte (rsq A t)) R := by
  rw [bl_add]
  congr 1
  refine bl_ext fun j hj => ?_
  unfold rout
  rw [Nat.mul_comm t R, Nat.mul_add_div hR, Nat.div_eq_of_lt hj, Nat.add_zero, Nat.mul_add_mod, Nat.mod_eq_of_lt hj]
theorem kbyte_rng (A : Nat → Lane) (j : Nat) : 0 ≤ kbyte A j ∧ kbyte A j < 256 := by
  unfold kbyte
  omega
/-- The first bytes of an array as a slice. -/
theorem sliceArr (g R : Nat) (hR2 : R ≤ 200) (w : World) :
    (Instr.sliceAt 99 (.pointer (some ⟨g, 0, none⟩)) none (some (.int .i64 (R : Int))) none).run Tryz.prog w = .ok (.slice (some ⟨g, 0, none⟩) R 200) w := by
  have hl : Tryz.prog.arrayLen 99 = 200 := by kernel_rfl
  rw [run_sliceAt_array_h w 99 ⟨g, 0, none⟩ Tryz.underlying99 .i64 (R : Int) (by omega) (by rw [hl]; omega)]
  have hs : (sizeOf (Tryz.prog.elem 99)).run Tryz.prog w = .ok 1 w := by kernel_rfl
  rw [hs]
  simp only [Result.andThen, slicedAt, hl, Int.toNat_natCast]
  rw [if_neg (by omega), add_none]
  rfl
/-- Bytes in a block of their own. -/
theorem Sl.ofRow {w : World} {g m R : Nat} {t : TypeId} {f : Nat → Int} (h : Row w g t (arr .u8 m f)) (hR : R ≤ m) (hm : m ≤ 1000) (hf : ∀ i, 0 ≤ f i ∧ f i < 256) : Sl w (some ⟨g, 0, none⟩) R m (bl f R) := by
  refine ⟨bl_len f R, hR, by unfold maxLen; omega, fun _ => ⟨g, 0, rfl, fun i hi => ?_⟩, fun x hx => ?_, fun e => by cases e⟩
  · rw [Nat.zero_add, h.cell, arr_get .u8 m f i (by omega), bl_getD f R i hi]
  · obtain ⟨j, _, rfl⟩ := List.mem_map.1 hx
    exact hf j
theorem rout_rng (A : Nat → Lane) (R j : Nat) : 0 ≤ rout A R j ∧ rout A R j < 256 := kbyte_rng _ _
theorem bl_rng (f : Nat → Int) (m : Nat) (h : ∀ i, 0 ≤ f i ∧ f i < 256) : ∀ x ∈ bl f m, 0 ≤ x ∧ x < 256 := by
  intro x hx
  obtain ⟨j, _, rfl⟩ := List.mem_map.1 hx
  exact h j
/-- Where the absorbing stands. -/
def AQ (w1 wx : World) (cs : Array Value) : Prop := Past w1 wx ∧ Row wx w1.heap.size 113 cs

theorem st_size (f : Nat → Lane) : (Tryz.prog.info? 113).map (·.size) = some (arr .u64 25 fun i => ln (f i)).size := by rw [arr_size]; kernel_rfl

set_option maxHeartbeats 4000000 in
theorem routput_fresh (N : Int) (A : Option Addr) (n c R : Nat) (s : Int) (xs : List Int) (w : World) (hS : Sl w A n c xs) (hs : 0 ≤ s ∧ s < 256) (hn : n ≤ 100000) (hR : 0 < R) (hR2 : R ≤ 200) (hN : N ≤ 100000) :
    Calls Tryz.prog 47 #[.int .i64 N, .slice A n c, .int .i64 (R : Int), .int .u8 s] w fun e w' => ∃ B d, e = .returned (.slice B N.toNat d) ∧ Sl w' B N.toNat d (bl (rout (rstate xs R s) R) N.toNat) ∧ Past w w' ∧ ∀ b o, B = some ⟨b, o, none⟩ → w.heap.size ≤ b := by
  have HRP := Lib.hid (rpad_any A n c R s xs w hS hn hR hR2)
  have HRG := Lib.hid (padL_rng xs R s hS.rng hs)
  have HLN := Lib.hid hS.len
  clear hS
  obtain ⟨L, hL⟩ : ∃ L, plen n R = L := ⟨_, rfl⟩
  have hL0 : 0 < L := by rw [← hL]; unfold plen; omega
  have hL1 : L ≤ 100400 := by
    rw [← hL]
    unfold plen
    have := Nat.mod_lt (R - (n + 1) % R) hR
    omega
  obtain ⟨K, hK⟩ : ∃ K, L / R = K := ⟨_, rfl⟩
  have hKL : K * R = L := by
    rw [← hK]
    exact Nat.div_mul_cancel (Nat.dvd_of_mod_eq_zero (by rw [← hL]; exact plen_mod n R hR))
  have HKL := Lib.hid hKL
  have HST : Hid (rstate xs R s = rabs (padL xs R s) R K) := by show _ = _; unfold rstate; rw [HLN.out, hL, hK]
  rw [hL] at HRP
  generalize padL xs R s = P at *
  generalize rstate xs R s = S at *
  clear hL hK hKL HLN hs
  have hz := arr_zero25
  go_enter Tryz.func47, Tryz.ntmps47
  go_wp2_with fail
  refine (HRP.out).mono ?_
  rintro e w1 ⟨v, rfl, hown, hp1⟩
  obtain ⟨PA, pc, rfl⟩ := own_slice hown
  have hsl := Sl.of_own hown HRG.out
  obtain ⟨g, _, rfl, _, _, _⟩ := own_row hown hL0
  have hpc := hsl.cap
  have hpb := hsl.big
  have HS1 := Lib.hid hsl
  have HP1 := Lib.hid hp1
  clear hown hp1 HRP HRG hsl
  have hn1 := heap_alloc_new w1 (.cells (arr .u64 25 fun _ => 0) 113)
  have hz2 : arr .u64 25 (fun _ => 0) = arr .u64 25 fun j => ln (rabs P R 0 j) := rfl
  have H0 : Hid (AQ w1 (w1.alloc (.cells (arr .u64 25 fun j => ln (rabs P R 0 j)) 113)) (arr .u64 25 fun j => ln (rabs P R 0 j))) := ⟨past_alloc6 _ _, Row.new w1 _ _⟩
  have hi1 := st_size (rabs P R 0)
  have ho1 := arr_one .u64 25 fun j => ln (rabs P R 0 j)
  rw [← hz2] at H0 hi1 ho1
  have HZ2 := Lib.hid hz2
  clear hz2
  generalize arr .u64 25 (fun _ => 0) = c0 at *
  go_wp2_with (refine wpList_store_row rfl 113 _ _ rfl w1.heap.size _ rfl rfl _ _ hn1 hi1 rfl ho1 ?_)
  rw [World.setRow_alloc_new]
  generalize w1.alloc (.cells c0 113) = w2 at *
  rw [HZ2.out] at H0
  clear hn1 hi1 ho1 hz
  go_loopg [11] K (fun k s11 wx => ∃ i : Nat, i ≤ K ∧ k = K - i ∧ s11 = .int .i64 ((i * R : Nat) : Int) ∧ Hid (AQ w1 wx (arr .u64 25 fun j => ln (rabs P R i j))))
  case atStart => exact ⟨0, Nat.zero_le _, rfl, by simp, H0⟩
  case round =>
    clear H0
    obtain ⟨i, hi, hgk, rfl, HQ⟩ := hrel
    have HGK := Lib.hid hgk
    clear hgk
    by_cases hlt : i < K
    · have hIR : i * R + R ≤ L := by
        have := Nat.mul_le_mul_right R (Nat.succ_le_of_lt hlt)
        rw [HKL.out, Nat.succ_mul] at this
        exact this
      have HSU := Lib.hid (Nat.succ_mul i R)
      have hsb := (HS1.out.past (HQ.out.1.drewN 1)).cut2 hIR
      rw [if_neg (by omega), Option.map_some, add_none, Nat.zero_add] at hsb
      have HMX := Lib.hid (rmix_any (rabs P R i) _ R _ _ (wr.drewN 1) hsb hR2)
      have HPM := Lib.hid (rpermute_any (mixF (rabs P R i) ((P.drop (i * R)).take R)))
      have hra : Row wr.drew w1.heap.size 113 (arr .u64 25 fun j => ln (rabs P R i j)) := HQ.out.2
      have hia := st_size (rabs P R i)
      have hin := st_size (rabs P R (i + 1))
      have hon := arr_one .u64 25 fun j => ln (rabs P R (i + 1) j)
      have hsn : (arr .u64 25 fun j => ln (rabs P R i j)).size = (arr .u64 25 fun j => ln (rabs P R (i + 1) j)).size := by rw [arr_size, arr_size]
      change Hid (Calls _ _ _ wr.drew _) at HMX
      change Hid (∀ w, Calls Tryz.prog 67 #[.agg (arr .u64 25 fun j => ln (mixF (rabs P R i) ((P.drop (i * R)).take R) j))] w fun e w' => e = .returned (.agg (arr .u64 25 fun j => ln (rabs P R (i + 1) j))) ∧ Past w w') at HPM
      have HQ2 : Hid (AQ w1 wr.drew (arr .u64 25 fun j => ln (rabs P R i j))) := ⟨HQ.out.1.drewN 1, HQ.out.2⟩
      clear hsb HQ
      generalize arr .u64 25 (fun j => ln (rabs P R i j)) = c1 at *
      generalize hc2 : arr .u64 25 (fun j => ln (rabs P R (i + 1) j)) = c2 at *
      have HC2 := Lib.hid hc2
      clear hc2
      generalize arr .u64 25 (fun j => ln (mixF (rabs P R i) ((P.drop (i * R)).take R) j)) = c3 at *
      generalize i * R = I at *
      have hwr : IntKind.i64.wrap ((I : Int) + (R : Int)) = (I : Int) + (R : Int) := by rw [IntKind.wrap_i64]; omega
      have hsa := sliceAt2 g L pc I R (by omega) (by omega)
      have hsb := slice2 g L pc I R (by omega) (by omega)
      go_wp2_with fail
      refine wp_region_still_tail 7 (by kernel_rfl) (by kernel_rfl) ?_
      simp only [List.take_succ_cons, List.take_zero, List.drop_succ_cons, List.drop_zero]
      change wpStill _ _ wr.drew _ _ _
      refine still_load_row rfl 113 _ rfl w1.heap.size rfl _ _ _ hra Tryz.underlying113 rfl hia ?_
      clear hra
      repeat still_step
      refine wpStill_nil ?_
      clear hwr hsa hsb
      go_wp2_with fail
      refine HMX.out.mono ?_
      rintro e w4 ⟨rfl, hp⟩
      have hp' : Past wr.drew w4 := hp
      have HQ3 : Hid (AQ w1 w4 c1) := ⟨HQ2.out.1.trans' hp', HQ2.out.2.past hp'⟩
      clear hp'
      clear hp HQ2
      go_wp2_with fail
      refine (HPM.out _).mono ?_
      rintro e w5 ⟨rfl, hp⟩
      have HP5 := Lib.hid (HQ3.out.1.trans' hp)
      have hr5 := HQ3.out.2.past hp
      clear hp HQ3
      go_wp2_with (refine wpList_store_row rfl 113 _ _ rfl w1.heap.size _ rfl rfl _ _ hr5 hin hsn hon ?_)
      have HQ6 : Hid (AQ w1 (w5.setRow w1.heap.size c2) (arr .u64 25 fun j => ln (rabs P R (i + 1) j))) := by
        rw [HC2.out]
        exact ⟨below_setRow HP5.out (Nat.le_refl _) _, setRow_heap w5 w1.heap.size c1 c2 _ _ hr5⟩
      clear hr5 HP5 HC2
      generalize w5.setRow w1.heap.size c2 = w6 at *
      go_wp2_with fail
      go_roundg (K - (i + 1))
      case rel => exact ⟨i + 1, by omega, rfl, by rw [HSU.out]; go_num, HQ6⟩
      case measure => have := HGK.out; omega
    · obtain rfl : i = K := by omega
      rw [HKL.out]
      have HQ1 : Hid (AQ w1 wr (arr .u64 25 fun j => ln (rsq S 0 j))) := by rw [show rsq S 0 = S from rfl, HST.out]; exact HQ.out
      have HP0 := Lib.hid (HP1.out)
      clear HQ HST HKL HZ2 HS1 hlt
      go_wp2_with fail
      generalize rabs P R i = zz at *
      go_loopg [12] N.toNat (fun k s12 wx => ∃ t : Nat, k = N.toNat - t * R ∧ Hid (wx.ownsRow (w1.heap.size + 1) 5 1 s12 (t * R) ((bl (rout S R) (t * R)).map (Value.int .u8)) ∧ AQ w1 wx (arr .u64 25 fun j => ln (rsq S t j))))
      case atStart => exact ⟨0, by omega, by rw [Nat.zero_mul]; exact ⟨rfl, .inl ⟨rfl, rfl⟩⟩, HQ1.out⟩
      case round =>
        clear HQ1
        obtain ⟨t, hgk, HO⟩ := hrel
        have HGK2 := Lib.hid hgk
        clear hgk
        obtain ⟨BA, bc, rfl⟩ := own_slice HO.out.1
        have HSU := Lib.hid (Nat.succ_mul t R)
        have HBL := Lib.hid (rout_add S R t hR)
        generalize t * R = I at *
        by_cases hlt : (I : Int) < N
        · have HB := Lib.hid (bytes_any (rsq S t))
          have HPM := Lib.hid (rpermute_any (rsq S t))
          have hra := HO.out.2.2
          have hia := st_size (rsq S t)
          go_wp2_with (refine wpList_load_row rfl 113 _ rfl w1.heap.size rfl _ _ (0, 0) _ hra Tryz.underlying113 rfl hia ?_)
          refine (HB.out _).mono ?_
          rintro e w3 ⟨rfl, hp⟩
          have HO3 : Hid (w3.ownsRow (w1.heap.size + 1) 5 1 (.slice BA I bc) I ((bl (rout S R) I).map (Value.int .u8)) ∧ AQ w1 w3 (arr .u64 25 fun j => ln (rsq S t j))) :=
            ⟨own_past HO.out.1 hp, HO.out.2.1.trans' hp, HO.out.2.2.past hp⟩
          clear hp HO hra
          have hz2 := zero200
          have hn3 := heap_alloc_new w3 (.cells (arr .u8 200 fun _ => 0) 99)
          have hi3 : (Tryz.prog.info? 99).map (·.size) = some (arr .u8 200 (kbyte (rsq S t))).size := by rw [arr_size]; kernel_rfl
          have hs3 : (arr .u8 200 fun _ => 0).size = (arr .u8 200 (kbyte (rsq S t))).size := by rw [arr_size, arr_size]
          have ho3 := arr_one .u8 200 (kbyte (rsq S t))
          go_wp2_with (refine wpList_store_row rfl 99 _ _ rfl w3.heap.size _ rfl rfl _ _ hn3 hi3 hs3 ho3 ?_)
          rw [World.setRow_alloc_new]
          have HO4 : Hid ((w3.alloc (.cells (arr .u8 200 (kbyte (rsq S t))) 99)).ownsRow (w1.heap.size + 1) 5 1 (.slice BA I bc) I ((bl (rout S R) I).map (Value.int .u8)) ∧ AQ w1 (w3.alloc (.cells (arr .u8 200 (kbyte (rsq S t))) 99)) (arr .u64 25 fun j => ln (rsq S t j))) :=
            ⟨HO3.out.1.alloc _, HO3.out.2.1.trans' (past_alloc6 _ _), HO3.out.2.2.alloc _⟩
          have HSL : Hid (Sl (w3.alloc (.cells (arr .u8 200 (kbyte (rsq S t))) 99)) (some ⟨w3.heap.size, 0, none⟩) R 200 (bl (kbyte (rsq S t)) R)) :=
            Sl.ofRow (Row.new w3 99 _) hR2 (by omega) (kbyte_rng _)
          clear HO3 hn3 hi3 hs3 ho3 hz2
          generalize w3.alloc (.cells (arr .u8 200 (kbyte (rsq S t))) 99) = w4 at *
          generalize w3.heap.size = q at *
          have hsl := sliceArr q R hR2
          go_wp2_with fail
          rw [hsl]
          go_wp2_with (at_builtin; refine wpList_append_sl rfl _ _ 25 5 rfl Tryz.underlying25 info8 (w1.heap.size + 1) _ I _ rfl HO4.out.1 (some ⟨q, 0, none⟩) R 200 _ rfl HSL.out ?a1 ?a2 ?_)
          case a1 => omega
          case a2 => exact HO4.out.2.2.lt
          intro v5 w5 hown5 hgrow5
          have HO5 : Hid (w5.ownsRow (w1.heap.size + 1) 5 1 v5 (I + R) ((bl (rout S R) (I + R)).map (Value.int .u8)) ∧ AQ w1 w5 (arr .u64 25 fun j => ln (rsq S t j))) := by
            rw [HBL.out]
            have hge := own_block_ge HO4.out.1
            refine ⟨by rw [List.map_append]; exact hown5, HO4.out.2.1.grown hgrow5 (Nat.le_of_lt HO4.out.2.2.lt) fun x hx => Nat.le_of_succ_le (hge x hx), HO4.out.2.2.grown hgrow5 fun e => ?_⟩
            have := hge _ e.symm
            omega
          clear hown5 hgrow5 HO4 HSL hsl
          have hrb := HO5.out.2.2
          have hin := st_size (rsq S (t + 1))
          have hsn : (arr .u64 25 fun j => ln (rsq S t j)).size = (arr .u64 25 fun j => ln (rsq S (t + 1) j)).size := by rw [arr_size, arr_size]
          have hon := arr_one .u64 25 fun j => ln (rsq S (t + 1) j)
          go_wp2_with (refine wpList_load_row rfl 113 _ rfl w1.heap.size rfl _ _ (0, 0) _ hrb Tryz.underlying113 rfl hia ?_)
          refine (HPM.out _).mono ?_
          rintro e w6 ⟨rfl, hp⟩
          have HO6 : Hid (w6.ownsRow (w1.heap.size + 1) 5 1 v5 (I + R) ((bl (rout S R) (I + R)).map (Value.int .u8)) ∧ AQ w1 w6 (arr .u64 25 fun j => ln (rsq S t j))) :=
            ⟨own_past HO5.out.1 hp, HO5.out.2.1.trans' hp, HO5.out.2.2.past hp⟩
          clear hp HO5 hrb
          have hr6 := HO6.out.2.2
          change Row w6 w1.heap.size _ _ at hr6
          go_wp2_with (refine wpList_store_row rfl 113 _ _ rfl w1.heap.size _ rfl rfl _ _ hr6 hin hsn hon ?_)
          have HO7 : Hid ((w6.setRow w1.heap.size (arr .u64 25 fun j => ln (rperm (rsq S t) j))).ownsRow (w1.heap.size + 1) 5 1 v5 (I + R) ((bl (rout S R) (I + R)).map (Value.int .u8)) ∧ AQ w1 (w6.setRow w1.heap.size (arr .u64 25 fun j => ln (rperm (rsq S t) j))) (arr .u64 25 fun j => ln (rsq S (t + 1) j))) :=
            ⟨own_setRow HO6.out.1 (Nat.lt_succ_self _) _, below_setRow HO6.out.2.1 (Nat.le_refl _) _, setRow_heap w6 w1.heap.size _ _ _ _ HO6.out.2.2⟩
          clear HO6 hr6 hin hsn hon
          generalize w6.setRow w1.heap.size (arr .u64 25 fun j => ln (rperm (rsq S t) j)) = w7 at *
          go_wp2_with fail
          go_roundg (N.toNat - (I + R))
          case rel => exact ⟨t + 1, by rw [HSU.out], by rw [HSU.out]; exact HO7⟩
          case measure => have := HGK2.out; omega
        · by_cases hneg : N < 0
          · go_wp2_with fail
            go_ret
            have e : N.toNat = 0 := by omega
            rw [e]
            exact ⟨none, 0, rfl, Sl.nil _, HP0.out.trans' HO.out.2.1, fun _ _ e => by cases e⟩
          · obtain ⟨M, rfl⟩ : ∃ M : Nat, N = (M : Int) := ⟨N.toNat, by omega⟩
            have hMI : M ≤ I := by omega
            have hsl := Sl.of_own HO.out.1 (bl_rng _ _ (rout_rng S R))
            have HP2 := Lib.hid (HP0.out.trans' HO.out.2.1)
            rcases HO.out.1.2 with ⟨e1, e2⟩ | ⟨h, cap, cur, e1, hbase, _, _⟩
            · injection e1 with a1 a2 a3
              subst a1 a2 a3
              obtain rfl : M = 0 := by omega
              clear HO hsl
              go_wp2_with fail
              go_ret
              exact ⟨none, 0, rfl, Sl.nil _, HP2.out, fun _ _ e => by cases e⟩
            · injection e1 with a1 a2 a3
              subst a1 a3
              have hcap := hsl.cap
              have hcb := hsl.big
              have hct := hsl.cut2 (i := 0) (m := M) (by omega)
              have he : (if bc = 0 then some (⟨h, 0, none⟩ : Addr) else (some (⟨h, 0, none⟩ : Addr)).map (·.add 0)) = some ⟨h, 0, none⟩ := by
                rw [Option.map_some, add_none, ite_self]
              rw [List.drop_zero, bl_take _ _ _ hMI, he, Nat.sub_zero] at hct
              clear he
              have HCT := Lib.hid hct
              clear HO hsl hct
              go_wp2_with fail
              go_ret
              have hw01 := HP0.out.size
              exact ⟨some ⟨h, 0, none⟩, bc, rfl, HCT.out, HP2.out, fun b o e => by
                injection e with e
                injection e with e
                omega⟩

theorem routput_any (N : Int) (A : Option Addr) (n c R : Nat) (s : Int) (xs : List Int) (w : World) (hS : Sl w A n c xs) (hs : 0 ≤ s ∧ s < 256) (hn : n ≤ 100000) (hR : 0 < R) (hR2 : R ≤ 200) (hN : N ≤ 100000) :
    Calls Tryz.prog 47 #[.int .i64 N, .slice A n c, .int .i64 (R : Int), .int .u8 s] w fun e w' => ∃ B d, e = .returned (.slice B N.toNat d) ∧ Sl w' B N.toNat d (bl (rout (rstate xs R s) R) N.toNat) ∧ Past w w' := (routput_fresh N A n c R s xs w hS hs hn hR hR2 hN).mono fun _ _ ⟨B, d, h1, h2, h3, _⟩ => ⟨B, d, h1, h2, h3⟩

end Go.Proofs.YthbnaoifiggdnaaGreatDoor

namespace Go.Proofs.YthbnaoifiggdnaaGreatDoor
open Go.RowKit
set_option maxRecDepth 100000

theorem rsha256_any (A : Option Addr) (n c : Nat) (xs : List Int) (w : World) (hS : Sl w A n c xs) (hn : n ≤ 100000) :
    Calls Tryz.prog 28 #[.slice A n c] w fun e w' => ∃ B d, e = .returned (.slice B 32 d) ∧ Sl w' B 32 d (bl (rout (rstate xs 136 6) 136) 32) ∧ Past w w' := by
  have H := Lib.hid (routput_any 32 A n c 136 6 xs w hS (by omega) hn (by omega) (by omega) (by omega))
  go_enter Tryz.func28, Tryz.ntmps28
  go_wp2_with fail
  refine (H.out).mono ?_
  rintro e w1 ⟨B, d, rfl, hs, hp⟩
  go_wp2_with fail
  go_ret
  exact ⟨B, d, rfl, hs, hp⟩

end Go.Proofs.YthbnaoifiggdnaaGreatDoor
