/- The sponge of package hash that has absorbed the bytes of all parts. -/
import Derived.Test.YtamgbkadiobklaaSp7C
namespace Go.Proofs.Ytamgbkadiobklaa
open Go.RowKit

theorem zeroSp (w : World) : (zeroValue 47).run Try.prog w = .ok (.agg (spg (fun _ => 0) 0 0 0)) w := by kernel_rfl
theorem spg_setR (f : Nat → Int) (R : Nat) : (spg f 0 0 0).setIfInBounds 200 (.int .i64 (R : Int)) = spg f R 0 0 := by
  refine spg_of _ _ _ _ (by simp [spg_size]) (fun j hj => ?_) ?_ ?_ ?_
  · rw [Array.getElem?_setIfInBounds_ne (by omega), spg_byte _ _ _ _ j hj]
  · rw [Array.getElem?_setIfInBounds_self_of_lt (by rw [spg_size]; omega)]
  · rw [Array.getElem?_setIfInBounds_ne (by omega), spg_used]
  · rw [Array.getElem?_setIfInBounds_ne (by omega), spg_turns]
theorem sp_size (f : Nat → Int) (R U T : Nat) : (Try.prog.info? 47).map (·.size) = some (spg f R U T).size := by rw [spg_size]; kernel_rfl

theorem cat_pre (X : Nat → List Int) (i : Nat) : ∀ n, i ≤ n → ∃ ys, cat X n = cat X i ++ ys
  | 0, h => ⟨[], by rw [List.append_nil, show i = 0 by omega]⟩
  | n + 1, h => by
    rcases Nat.lt_or_ge i (n + 1) with h1 | h1
    · obtain ⟨ys, hy⟩ := cat_pre X i n (by omega)
      exact ⟨ys ++ X n, by rw [cat_succ, hy, List.append_assoc]⟩
    · obtain rfl : i = n + 1 := by omega
      exact ⟨[], by simp⟩
theorem cat_getD (X : Nat → List Int) (n j i : Nat) (hj : j < n) (hi : i < (X j).length) : (cat X n).getD ((cat X j).length + i) 0 = (X j).getD i 0 ∧ (cat X j).length + i < (cat X n).length := by
  obtain ⟨ys, hy⟩ := cat_pre X (j + 1) n hj
  rw [hy, cat_succ, List.append_assoc]
  refine ⟨?_, by rw [List.length_append, List.length_append]; omega⟩
  rw [List.getD_eq_getElem?_getD, List.getD_eq_getElem?_getD, List.getElem?_append_right (by omega), Nat.add_sub_cancel_left, List.getElem?_append_left hi]

/-- The blocks while bytes are absorbed: the result, the sponge. -/
def GB (w wx : World) (g : Nat) (F : Nat → Int) (R m T : Nat) : Prop :=
  Past w wx ∧ Row wx g 47 (spg (fun _ => 0) 0 0 0) ∧ SP wx (g + 1) 47 (kbyte (AbS F R m)) R (AU R m) T ∧ T ≤ m
theorem GB.step {w wx wy : World} {g : Nat} {F : Nat → Int} {R m T T' : Nat} (h : GB w wx g F R m T) (hge : w.heap.size ≤ g) (hT : T' ≤ T + 1) (hs : SPs wx wy (g + 1) 47 (kbyte (AbS F R (m + 1))) R (AU R (m + 1)) T') : GB w wy g F R (m + 1) T' := by
  obtain ⟨h1, h2, h3, h4⟩ := h
  exact ⟨past_of_only h1 hs.2 h1.size (by omega), Row.grown h2 hs.2 (by simp), hs.1, by omega⟩

set_option maxHeartbeats 8000000 in
set_option maxRecDepth 100000 in
theorem habsorbed_any (P : Option Addr) (n c : Nat) (V : Nat → Option Addr) (C : Nat → Nat) (X : Nat → List Int) (R : Nat) (s : Int) (w : World) (h : Sls w P n c V C X) (hn : n ≤ 1000000) (hlen : (cat X n).length ≤ 1000000) (hR : 0 < R) (hR2 : R ≤ 200) (hs : 0 ≤ s ∧ s < 256) :
    Calls Try.prog 24 #[.int .i64 (R : Int), .int .u8 s, .slice P n c] w fun e w' => e = .returned (.agg (spg (kbyte (rstate (cat X n) R s)) R 0 0)) ∧ Past w w' := by
  have hcp := h.cap
  have H := Lib.hid h
  have hxr := cat_rng X n h.rng
  have HLA := Lib.hid (lastS_all (cat X n) R s hR hxr hs)
  have HRL := Lib.hid (rstate_last (cat X n) R s hR)
  have HPR := Lib.hid (pd_rng (cat X n) s hxr hs)
  have HPX : Hid (∀ j i, j < n → i < (X j).length → pd (cat X n) s ((cat X j).length + i) = (X j).getD i 0 ∧ (cat X j).length + i < 1000000) := Lib.hid fun j i hj hi => by
    obtain ⟨h1, h2⟩ := cat_getD X n j i hj hi
    refine ⟨?_, by omega⟩
    unfold pd
    rw [if_pos h2, h1]
  have HPS : Hid (pd (cat X n) s (cat X n).length = s) := Lib.hid (by unfold pd; rw [if_neg (Nat.lt_irrefl _), if_pos rfl])
  have HLE := Lib.hid hlen
  obtain ⟨F, hF⟩ : ∃ F, pd (cat X n) s = F := ⟨_, rfl⟩
  rw [hF] at HLA HPR HPX HPS
  clear h hxr hF hs hlen
  have hz := zeroSp
  have hb := spg_setR (fun _ => 0) R
  have hc203 := spg_size (fun _ => 0) 0 0 0
  have hR3 : (R : Int) ≤ 200 := by omega
  have hR4 : (0 : Int) < (R : Int) := by omega
  have hiz := sp_size (fun _ => 0) R 0 0
  have hoz := spg_one (fun _ => 0) R 0 0
  have hsz : (spg (fun _ => 0) 0 0 0).size = (spg (fun _ => 0) R 0 0).size := by rw [spg_size, spg_size]
  have H0 : Hid (GB w ((w.alloc (.cells (spg (fun _ => 0) 0 0 0) 47)).alloc (.cells (spg (fun _ => 0) R 0 0) 47)) w.heap.size F R 0 0) := by
    refine Lib.hid ⟨(past_alloc6 _ _).trans' (past_alloc6 _ _), (Row.new w _ _).alloc _, ?_, Nat.le_refl _⟩
    have h1 := Row.new (w.alloc (.cells (spg (fun _ => 0) 0 0 0) 47)) 47 (spg (fun _ => 0) R 0 0)
    have e : kbyte (AbS F R 0) = fun _ => 0 := by
      unfold AbS
      rw [Nat.zero_sub, Nat.zero_div, Nat.zero_mul, Nat.sub_zero]
      funext j
      show kbyte (fun _ => 0) j = 0
      rw [kbyte_nat]
      simp
    have e2 : AU R 0 = 0 := by unfold AU; omega
    rw [e, e2]
    simpa using h1
  have hn1 := heap_alloc_new (w.alloc (.cells (spg (fun _ => 0) 0 0 0) 47)) (.cells (spg (fun _ => 0) 0 0 0) 47)
  obtain ⟨cz, hcz⟩ : ∃ cz, spg (fun _ => 0) 0 0 0 = cz := ⟨_, rfl⟩
  obtain ⟨cr, hcr⟩ : ∃ cr, spg (fun _ => 0) R 0 0 = cr := ⟨_, rfl⟩
  have HCZ := Lib.hid hcz
  rw [hcz] at hz hn1 hsz H0 hb hc203
  rw [hcr] at hb hiz hoz hsz H0
  clear hcz hcr
  go_enter Try.func24, Try.ntmps24
  go_wp2_with (refine wpList_store_row rfl 47 _ _ rfl (w.heap.size + 1) _ rfl rfl _ _ (by simpa using hn1) hiz hsz hoz ?_)
  have hal : ((w.alloc (.cells cz 47)).alloc (.cells cz 47)).setRow (w.heap.size + 1) cr = (w.alloc (.cells cz 47)).alloc (.cells cr 47) := by
    have := World.setRow_alloc_new (w.alloc (.cells cz 47)) cz cr 47
    simpa using this
  rw [hal]
  generalize (w.alloc (.cells cz 47)).alloc (.cells cr 47) = w2 at *
  obtain ⟨g, hg⟩ : ∃ g, w.heap.size = g := ⟨_, rfl⟩
  have hge : w.heap.size ≤ g := by omega
  rw [hg] at H0 ⊢
  clear hg hal hn1 hz hb hc203 hiz hoz hsz
  go_loopg [16] n (fun q s16 wx => ∃ j T : Nat, j ≤ n ∧ q = n - j ∧ s16 = .int .i64 (j : Int) ∧ Hid (GB w wx g F R (cat X j).length T))
  case atStart => exact ⟨0, 0, Nat.zero_le _, rfl, rfl, H0⟩
  case round =>
    clear H0
    obtain ⟨j, T, hj, hgk, rfl, HQ⟩ := hrel
    have HGK := Lib.hid hgk
    clear hgk
    by_cases hlt : j < n
    · obtain ⟨b, o, rfl, hc⟩ := H.out.cells (by omega)
      have hcell : wr.cell? ⟨b, o + j, none⟩ = some (.slice (V j) (X j).length (C j)) := by
        rw [Below.cell HQ.out.1 (cell_lt (hc j hlt).1)]
        exact (hc j hlt).1
      have HS := Lib.hid (hc j hlt).2
      have hj0 : (0 : Int) ≤ (j : Int) := by omega
      have hj1 : (j : Int) < (n : Int) := by omega
      have HPJ := Lib.hid (fun i hi => HPX.out j i hlt hi)
      have HCS : Hid ((cat X (j + 1)).length = (cat X j).length + (X j).length) := Lib.hid (by rw [cat_succ, List.length_append])
      have HML : Hid (∀ i, i ≤ (X j).length → (cat X j).length + i ≤ 1000000) := Lib.hid fun i hi => by
        have h1 := cat_len_mono X (i := j + 1) (n := n) hlt
        rw [HCS.out] at h1
        have h2 := HLE.out
        omega
      clear hc
      obtain ⟨m, hm⟩ : ∃ m, (X j).length = m := ⟨_, rfl⟩
      obtain ⟨l, hl⟩ : ∃ l, (cat X j).length = l := ⟨_, rfl⟩
      rw [hm] at hcell HS HPJ HCS HML
      rw [hl] at HPJ HQ HCS HML
      generalize V j = Vj at *
      generalize C j = Cj at *
      clear hm hl
      go_wp2_with fail
      go_loopg [22] m (fun q s22 wx => ∃ i T : Nat, i ≤ m ∧ q = m - i ∧ s22 = .int .i64 (i : Int) ∧ Hid (GB w wx g F R (l + i) T))
      case atStart => exact ⟨0, T, Nat.zero_le _, rfl, rfl, HQ⟩
      case round =>
        clear HQ
        obtain ⟨i, T, hi, hgk, rfl, HQ⟩ := hrel
        have HGK2 := Lib.hid hgk
        clear hgk hcell
        by_cases hli : i < m
        · obtain ⟨b2, o2, rfl, hc2⟩ := HS.out.bytes (by omega)
          have hx : wr.cell? ⟨b2, o2 + i, none⟩ = some (.int .u8 (F (l + i))) := by
            rw [Below.cell HQ.out.1 (cell_lt (hc2 i hli)), (HPJ.out i hli).1]
            exact hc2 i hli
          have hi0 : (0 : Int) ≤ (i : Int) := by omega
          have hi1 : (i : Int) < (m : Int) := by omega
          have hi2 : (i : Int) ≤ 1000000 := by have := HML.out i hi; omega
          have HB := Lib.hid (habsorb_any F (g + 1) 47 R (l + i) T wr hR hR2 (HPR.out _) (by have h1 := HQ.out.2.2.2; have h2 := HML.out i hi; omega) HQ.out.2.2.1)
          clear hc2
          go_wp2_with fail
          refine HB.out.mono ?_
          rintro e w3 ⟨rfl, T', hT', hs⟩
          have HQ2 := Lib.hid (HQ.out.step hge hT' hs)
          clear hs hT' HB hx HQ
          go_wp2_with fail
          go_roundg (m - (i + 1))
          case rel => exact ⟨i + 1, T', by omega, rfl, by go_num, HQ2⟩
          case measure => have := HGK2.out; omega
        · obtain rfl : i = m := by omega
          go_wp2_with fail
          go_roundg (n - (j + 1))
          case rel => exact ⟨j + 1, T, by omega, rfl, by go_num, by rw [HCS.out]; exact HQ⟩
          case measure => have := HGK.out; omega
    · obtain rfl : j = n := by omega
      have hF := HPR.out (cat X j).length
      have HB := Lib.hid (habsorb_any F (g + 1) 47 R (cat X j).length T wr hR hR2 hF (by have h1 := HQ.out.2.2.2; have h2 := HLE.out; omega) HQ.out.2.2.1)
      rw [HPS.out] at HB
      clear hF
      go_wp2_with fail
      refine HB.out.mono ?_
      rintro e w3 ⟨rfl, T', hT', hs⟩
      have HQ2 := Lib.hid (HQ.out.step hge hT' hs)
      have HT' : Hid (T' ≤ 1000001) := Lib.hid (by have h1 := HQ.out.2.2.2; have h2 := HLE.out; omega)
      clear hs hT' HB HQ
      have hr1 : R - 1 < 200 := by omega
      obtain ⟨r, hr⟩ : ∃ r, R - 1 = r := ⟨_, rfl⟩
      have hrr : (R : Int) - 1 = (r : Int) := by omega
      have hr2 : (r : Int) < 200 := by omega
      obtain ⟨x, hx⟩ : ∃ x, kbyte (AbS F R ((cat X j).length + 1)) r = x := ⟨_, rfl⟩
      obtain ⟨y, hy⟩ : ∃ y, bx x 128 = y := ⟨_, rfl⟩
      have hxy : bits .xor .u8 x 128 = y := hy
      have HLA2 := HLA.out
      rw [hr, hx, hy] at HLA2
      have HL3 := Lib.hid HLA2
      rw [hr] at hr1
      have k1 : w3.cell? ⟨g + 1, r, none⟩ = some (.int .u8 x) := by
        have := SP.byte HQ2.out.2.2.1 r hr1
        rwa [hx] at this
      have f1 : w3.frozen? ⟨g + 1, r, none⟩ = false := Row.fr HQ2.out.2.2.1 r
      have H4 : Hid (Past w (w3.setCell ⟨g + 1, r, none⟩ (.int .u8 y)) ∧ Row (w3.setCell ⟨g + 1, r, none⟩ (.int .u8 y)) g 47 cz ∧ SP (w3.setCell ⟨g + 1, r, none⟩ (.int .u8 y)) (g + 1) 47 (kbyte (lastS (cat X j) R s)) R (AU R ((cat X j).length + 1)) T') := by
        obtain ⟨q1, q2, q3, q4⟩ := HQ2.out
        rw [HCZ.out] at q2
        have q5 := SP.put q3 r hr1 y
        rw [HL3.out] at q5
        exact Lib.hid ⟨q1.set (by show _ ≤ g + 1; omega) _, Row.setOther q2 (by omega) _ _, q5⟩
      clear HQ2 hx hy HLA2 HL3 HLA HPR HPX HPS
      go_wp2_with fail
      generalize w3.setCell ⟨g + 1, r, none⟩ (.int .u8 y) = w4 at *
      refine (hperm_any _ _ _ _ _ _ w4 H4.out.2.2 (by have := HT'.out; omega)).mono ?_
      rintro e w5 ⟨rfl, hs, hgr⟩
      have H5 : Hid (Past w w5 ∧ Row w5 g 47 cz ∧ SP w5 (g + 1) 47 (kbyte (rstate (cat X j) R s)) R 0 (T' + 1)) := by
        obtain ⟨q1, q2, q3⟩ := H4.out
        rw [HRL.out]
        exact Lib.hid ⟨past_of_only q1 hgr q1.size (by omega), Row.grown q2 hgr (by simp), hs⟩
      clear hs hgr H4 k1 f1
      have k2 : w5.cell? ⟨g + 1, 202, none⟩ = some (.int .i64 ((T' + 1 : Nat) : Int)) := SP.turns H5.out.2.2
      have f2 : w5.frozen? ⟨g + 1, 202, none⟩ = false := Row.fr H5.out.2.2 202
      have H6 : Hid (Past w (w5.setCell ⟨g + 1, 202, none⟩ (.int .i64 0)) ∧ Row (w5.setCell ⟨g + 1, 202, none⟩ (.int .i64 0)) g 47 cz ∧ SP (w5.setCell ⟨g + 1, 202, none⟩ (.int .i64 0)) (g + 1) 47 (kbyte (rstate (cat X j) R s)) R 0 0) := by
        obtain ⟨q1, q2, q3⟩ := H5.out
        exact Lib.hid ⟨q1.set (by show _ ≤ g + 1; omega) _, Row.setOther q2 (by omega) _ _, SP.putT q3 0⟩
      clear H5 HRL
      go_upto_region 15 with (fail)
      generalize w5.setCell ⟨g + 1, 202, none⟩ (.int .i64 0) = w6 at *
      have hr3 := H6.out.2.2
      have hrz := H6.out.2.1
      have HP := Lib.hid H6.out.1
      have hi2 := sp_size (kbyte (rstate (cat X j) R s)) R 0 0
      have ho2 := spg_one (kbyte (rstate (cat X j) R s)) R 0 0
      have hs2 : cz.size = (spg (kbyte (rstate (cat X j) R s)) R 0 0).size := by rw [← HCZ.out, spg_size, spg_size]
      clear H6 k2 f2
      unfold SP at hr3
      generalize hcc : spg (kbyte (rstate (cat X j) R s)) R 0 0 = c2 at *
      have HCC := Lib.hid hcc
      clear hcc
      go_wp2_with (first | (refine wpList_load_row rfl 47 _ rfl (g + 1) rfl _ _ (0, 0) _ hr3 Try.underlying47 rfl hi2 ?_) | (refine wpList_store_row rfl 47 _ _ rfl g _ rfl rfl _ _ hrz hi2 hs2 ho2 ?_))
      refine bodyPost_ret (results_cell_row rfl _ _ g _ c2 (0, 0) _ rfl (setRow_heap w6 g cz c2 _ _ hrz) Try.underlying47 rfl hi2) rfl ?_
      exact ⟨by rw [HCC.out], below_setRow HP.out hge _⟩

end Go.Proofs.Ytamgbkadiobklaa
