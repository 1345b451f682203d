/- The program's Encode. -/
import Derived.Test.YtnnonidiogoffaaGreatDoorPm12O
import Derived.Laws.MakeOwn
import Derived.Deep.CutRange
namespace Go.Proofs.YtnnonidiogoffaaGreatDoor
open Go.RowKit Go.Shelf
set_option linter.unusedVariables false
attribute [local go_sem] Oper.semAt_some

theorem sl_part {W : World} {b o m c : Nat} {d : List Int} (h : Sl W (some ⟨b, o, none⟩) m c d) (i e : Nat) (he : i + e ≤ m) : Sl W (some ⟨b, o + i, none⟩) e e ((d.drop i).take e) := by
  have hl := h.len
  have hb := h.big
  have hcp := h.cap
  refine ⟨by rw [List.length_take, List.length_drop]; omega, Nat.le_refl _, by omega, fun hn => ?_, fun x hx => h.rng x (List.mem_of_mem_drop (List.mem_of_mem_take hx)), fun e => by cases e⟩
  obtain ⟨b', o', e', hc⟩ := h.bytes (by omega)
  injection e' with e'
  injection e' with e1 e2 e3
  subst e1 e2
  refine ⟨b, o + i, rfl, fun j hj => ?_⟩
  have := hc (i + j) (by omega)
  rw [Nat.add_assoc, this, List.getD_eq_getElem?_getD, List.getD_eq_getElem?_getD, List.getElem?_take, if_pos hj, List.getElem?_drop]
/-- The length behind i lines. -/
def kA (lab m i : Nat) : Nat := lab + 17 + min (64 * i) m + i
theorem armTo_lenE (lab d : List Int) : ∀ i, i ≤ (d.length + 63) / 64 → (armTo lab d i).length = kA lab.length d.length i := by
  intro i
  induction i with
  | zero => intro _; rw [armTo_zero]; simp [begL, hyL, kA]
  | succ i ih =>
    intro hi
    rw [armTo_succ lab (by omega), List.length_append, ih (by omega), List.length_append, List.length_take, List.length_drop]
    unfold kA
    simp only [List.length_cons, List.length_nil]
    omega
/-- What the rounds keep. -/
structure Er (w : World) (B G N D cD Z : Nat) (lab d : List Int) (i : Nat) (W : World) : Prop where
  en : En w B G N (kA lab.length d.length i) (armTo lab d i) W
  sl : Sl W (some ⟨D, 0, none⟩) d.length cD d
  sz : Z ≤ W.heap.size
theorem grown_some {W W' : World} (h : W.grownBy W' none) (r : Nat) : W.grownBy W' (some r) := ⟨h.os, h.tape, h.output, h.size, fun k hk _ => h.block k hk (fun e => by cases e)⟩
theorem Er.grown {w : World} {B G N D cD Z : Nat} {lab d : List Int} {i : Nat} {W W' : World} (h : Er w B G N D cD Z lab d i W) (hg : W.grownBy W' none) : Er w B G N D cD Z lab d i W' :=
  ⟨h.en.kept hg (fun r e => by cases e) (Nat.le_refl _), h.sl.apart (grown_some hg (D + 1)) (by omega), Nat.le_trans h.sz hg.size⟩
theorem Er.put {w : World} {B G N D cD Z : Nat} {lab d : List Int} {i : Nat} {W : World} {r : Nat} {o o' : Obj} (h : Er w B G N D cD Z lab d i W) (hr : Z ≤ r) (ho : W.heap[r]? = some o) (hc : o.isCells = false) (hD : D < Z) (hw : w.heap.size ≤ Z) : Er w B G N D cD Z lab d i (W.putObj r o') :=
  ⟨h.en.kept (grownBy_putObj' W r o') (fun r' e => by cases e; exact ⟨hr, o, ho, hc⟩) hw, h.sl.apart (grownBy_putObj' W r o') (by omega), by rw [World.putObj_size]; exact h.sz⟩
theorem Er.line {w : World} {B G N D cD Z : Nat} {lab d : List Int} {i : Nat} {W : World} (h : Er w B G N D cD Z lab d i W) (hi : i < (d.length + 63) / 64) (hN : lab.length + 17 + d.length + (d.length + 63) / 64 ≤ N) (hN0 : 0 < N) (hB : D ≠ B) (hG : D ≠ G) (ty : TypeId) :
    ∃ W1 W3, (Builtin.append_ #[22, 22] ty #[.slice (some ⟨B, 0, none⟩) (kA lab.length d.length i) N, .slice (some ⟨D, 0 + 64 * i, none⟩) (min 64 (d.length - 64 * i)) (min 64 (d.length - 64 * i))]).run Tryz.prog W = .ok (.slice (some ⟨B, 0, none⟩) (kA lab.length d.length i + min 64 (d.length - 64 * i)) N) W1 ∧
      Boxed W1 G 22 (.slice (some ⟨B, 0, none⟩) (kA lab.length d.length i) N) ∧
      Boxed (W1.setCell ⟨G, 0, none⟩ (.slice (some ⟨B, 0, none⟩) (kA lab.length d.length i + min 64 (d.length - 64 * i)) N)) G 22 (.slice (some ⟨B, 0, none⟩) (kA lab.length d.length i + min 64 (d.length - 64 * i)) N) ∧
      (Builtin.append_ #[22, 9] ty #[.slice (some ⟨B, 0, none⟩) (kA lab.length d.length i + min 64 (d.length - 64 * i)) N, .string ⟨#[10]⟩]).run Tryz.prog (W1.setCell ⟨G, 0, none⟩ (.slice (some ⟨B, 0, none⟩) (kA lab.length d.length i + min 64 (d.length - 64 * i)) N)) = .ok (.slice (some ⟨B, 0, none⟩) (kA lab.length d.length (i + 1)) N) W3 ∧
      Boxed W3 G 22 (.slice (some ⟨B, 0, none⟩) (kA lab.length d.length i + min 64 (d.length - 64 * i)) N) ∧
      Er w B G N D cD Z lab d (i + 1) (W3.setCell ⟨G, 0, none⟩ (.slice (some ⟨B, 0, none⟩) (kA lab.length d.length (i + 1)) N)) ∧
      Stp B G W (W3.setCell ⟨G, 0, none⟩ (.slice (some ⟨B, 0, none⟩) (kA lab.length d.length (i + 1)) N)) := by
  have hk : kA lab.length d.length i + min 64 (d.length - 64 * i) + 1 = kA lab.length d.length (i + 1) := by unfold kA; omega
  have hkN : kA lab.length d.length (i + 1) ≤ N := by unfold kA; omega
  have hp := sl_part h.sl (64 * i) (min 64 (d.length - 64 * i)) (by omega)
  obtain ⟨W1, h1, h2, h3, h4⟩ := en_sl h.en _ _ _ _ hp (by omega) hN0 (by omega) ty
  obtain ⟨W3, g1, g2, g3, g4, _, _⟩ := en_str h3 ⟨#[10]⟩ hN0 (by show _ + 1 ≤ N; omega) ty
  have e1 : (⟨#[10]⟩ : ByteArray).size = 1 := rfl
  have e2 : ints ⟨#[10]⟩ = [10] := rfl
  rw [e1, hk] at g1 g3 g4
  rw [e2] at g3
  refine ⟨W1, W3, h1, h2, h3.box, g1, g2, ⟨?_, (h.sl.stp h4 hB hG).stp g4 hB hG, Nat.le_trans h.sz (h4.trans g4).keep.size⟩, h4.trans g4⟩
  rw [armTo_succ lab (by omega)]
  have e3 : (d.drop (64 * i)).take (min 64 (d.length - 64 * i)) = (d.drop (64 * i)).take 64 := by
    rw [← List.take_take, List.take_of_length_le (l := d.drop (64 * i)) (by rw [List.length_drop]; omega)] <;> omega
  rw [e3, List.append_assoc] at g3
  exact g3
set_option maxHeartbeats 2400000 in
set_option maxRecDepth 100000 in
theorem encode_ok (s : ByteArray) (A : Option Addr) (n c : Nat) (xs : List Int) (w : World) (hS : Sl w A n c xs) (hs : s.size ≤ 1000000) (hn : n ≤ 1000000) (hlb : labB (ints s) = true) (h1 : 1 ≤ n) (hN : sizeN (ints s) n ≤ 1048576) :
    Calls Tryz.prog 12 #[.string s, .slice A n c] w fun e w' => (∃ P m cc, e = .returned (.tuple #[.slice P m cc, .nilIface]) ∧ Sl w' P m cc (armL (ints s) xs)) ∧ Past w w' := by
  have HSZ := Lib.hid (size_any s n w hs (by omega))
  have hxn : xs.length = n := hS.len
  obtain ⟨d, hd⟩ : ∃ d, renc 1 xs n = d := ⟨_, rfl⟩
  obtain ⟨m, hm⟩ : ∃ m, d.length = m := ⟨_, rfl⟩
  have hmr : rlen 1 n = m := by rw [← hm, ← hd, ← hxn, rlen1, rlen_1]
  have hz := ints_len s
  obtain ⟨N, hNe⟩ : ∃ N, sizeN (ints s) n = N := ⟨_, rfl⟩
  have hNN : N = s.size + 17 + m + (m + 63) / 64 + (s.size + 15) := by rw [← hNe]; unfold sizeN; rw [if_pos ⟨hlb, h1⟩, hmr, hz]
  rw [hNe] at HSZ hN
  obtain ⟨q, hq⟩ : ∃ q, (m + 63) / 64 = q := ⟨_, rfl⟩
  have HNN : Hid (N = s.size + 17 + m + q + (s.size + 15) ∧ q = (m + 63) / 64) := Lib.hid ⟨by rw [hNN, hq], hq.symm⟩
  have hrB := (rng_beg (ints_rngs s)).1
  have hrE := (rng_beg (ints_rngs s)).2
  have HFI := Lib.hid (fun w => first_any s w hs)
  have HLA := Lib.hid (fun w => last_any s w hs)
  obtain ⟨F, hF⟩ : ∃ F, txt (begL (ints s) ++ [10]) = F := ⟨_, rfl⟩
  obtain ⟨L, hL⟩ : ∃ L, txt (endL (ints s) ++ [10]) = L := ⟨_, rfl⟩
  have HF : Hid (ints F = begL (ints s) ++ [10] ∧ F.size = s.size + 17) := Lib.hid ⟨by rw [← hF]; exact ints_txt hrB, by rw [← hF, tsz, List.length_append, beg_len, hz]; rfl⟩
  have HL : Hid (ints L = endL (ints s) ++ [10] ∧ L.size = s.size + 15) := Lib.hid ⟨by rw [← hL]; exact ints_txt hrE, by rw [← hL, tsz, List.length_append, end_len, hz]; rfl⟩
  rw [hF] at HFI
  rw [hL] at HLA
  have HEN := Lib.hid (fun w' h => pencode_any 1 A n c xs w' h hn)
  rw [hd] at HEN
  have HS := Lib.hid hS
  have HD := Lib.hid hd
  have HM := Lib.hid hm
  have hN0 : ¬ (N : Int) = 0 := by omega
  have hNb : ((N : Int) == 0) = false := by simp; omega
  have hN1 : ¬ (1048576 : Int) < (N : Int) := by omega
  have HMK := Lib.hid (fun w => mk_bytes N hN w)
  have HXN := Lib.hid hxn
  have HMP : Hid (0 < m) := Lib.hid (by rw [← hmr, rlen_1]; omega)
  have HNB := Lib.hid hN
  clear hS hs hn hlb h1 hN hxn hd hm hmr hz hNe hNN hq hrB hrE hF hL
  refine (callsIn_wide (n := 3)).1 ?_
  refine callsIn_of_wp_marks Tryz.func12 rfl trivial ?_ rfl
  refine wpIn_wide.2 ?_
  simp only [Tryz.ntmps12, List.size_toArray, List.length_cons, List.length_nil, Nat.reduceAdd, Nat.reduceSub, Array.replicate_succ, Array.replicate_zero, List.push_toArray, List.append_toArray, List.nil_append, List.cons_append]
  go_wp2_with fail
  refine (HSZ.out).mono ?_
  rintro e w1 ⟨rfl, hp⟩
  have HP1 := Lib.hid hp
  obtain ⟨wm, hmk, hmo, hmp⟩ := HMK.out w1
  have HM1 := Lib.hid (And.intro hmo hmp)
  clear hp hmo hmp
  go_upto_region 5 with (fail)
  obtain ⟨B, hB⟩ : ∃ B, w1.heap.size = B := ⟨_, rfl⟩
  obtain ⟨G, hG⟩ : ∃ G, wm.heap.size = G := ⟨_, rfl⟩
  obtain ⟨wd, hwd⟩ : ∃ wd, wd = (wm.alloc (Obj.cells #[Value.slice (some ⟨B, 0, none⟩) 0 N] 22)).drew := ⟨_, rfl⟩
  rw [hB] at HM1 ⊢
  rw [hG]
  have HE0 : Hid (En w B G N 0 [] wd) := Lib.hid (by
    have hpa := past_alloc8 wm (Obj.cells #[Value.slice (some ⟨B, 0, none⟩) 0 N] 22)
    have hpd : Past (wm.alloc (Obj.cells #[Value.slice (some ⟨B, 0, none⟩) 0 N] 22)) wd := by rw [hwd]; exact Past.drewN (Below.refl _ _) 1
    have hsz := HP1.out.size
    have hsz2 := HM1.out.2.size
    refine ⟨((HP1.out.trans' HM1.out.2).trans' hpa).trans' hpd, ?_, own_past HM1.out.1 (hpa.trans' hpd), rfl, (by intro x hx; cases hx), by omega, by omega⟩
    have hbx : Boxed (wm.alloc (Obj.cells #[Value.slice (some ⟨B, 0, none⟩) 0 N] 22)) G 22 (.slice (some ⟨B, 0, none⟩) 0 N) := by rw [← hG]; exact Boxed.new _ _ _
    exact (hpd.block G hbx.lt).trans hbx)
  have f0 : wd.cell? ⟨G, 0, none⟩ = some (.slice (some ⟨B, 0, none⟩) 0 N) := HE0.out.box.cell
  have hN0n : 0 < N := by omega
  obtain ⟨W5, happ, hbx, hen, hstp, _, _⟩ := en_str HE0.out F hN0n (by have := HF.out.2; have := HNN.out; omega) 22
  have f1 : W5.cell? ⟨G, 0, none⟩ = some (.slice (some ⟨B, 0, none⟩) 0 N) := hbx.cell
  have f2 : W5.frozen? ⟨G, 0, none⟩ = false := hbx.frozen
  have HE5 : Hid (En w B G N (s.size + 17) (armTo (ints s) d 0) (W5.setCell ⟨G, 0, none⟩ (.slice (some ⟨B, 0, none⟩) (s.size + 17) N))) := Lib.hid (by
    rw [armTo_zero, ← HF.out.1, ← HF.out.2]
    have := hen
    rw [Nat.zero_add, List.nil_append] at this
    exact this)
  rw [Nat.zero_add, HF.out.2] at happ
  have HWD := Lib.hid hwd
  clear hB hG hwd hbx hen hstp hmk
  go_cut [26] from 23 to 27 (fun s26 wx => Hid (En w B G N (s.size + 17) (armTo (ints s) d 0) wx))
  case first =>
    refine wp_region_any (by kernel_rfl) ?_
    change wpAny _ _ _ _ _ _ _ (World.drew _)
    rw [← HWD.out]
    clear HWD
    refine wpAny_ready (rs := [0, 1]) (by kernel_rfl) (by simp) ?_
    refine AllReady.cons rfl (fun K hK => ?_) (AllReady.cons rfl (fun K hK => ?_) AllReady.nil)
    · go_simp
      refine hK _ _ ?_
      clear hK K
      (try dsimp only [Act.put])
      refine wpAny_ready (rs := [1]) (by kernel_rfl) (by simp) ?_
      refine AllReady.cons rfl (fun K hK => ?_) AllReady.nil
      go_simp
      refine hK _ _ ?_
      clear hK K
      (try dsimp only [Act.put])
      refine wpAny_ready (rs := [2]) (by kernel_rfl) (by simp) ?_
      refine AllReady.cons rfl (fun K hK => ?_) AllReady.nil
      go_simp
      refine (HFI.out _).mono ?_
      rintro e w5 ⟨rfl, rfl⟩
      refine hK _ _ ?_
      clear hK K
      (try dsimp only [Act.put])
      refine wpAny_ready (rs := [3]) (by kernel_rfl) (by simp) ?_
      refine AllReady.cons rfl (fun K hK => ?_) AllReady.nil
      refine wp_app _ _ _ _ rfl _ _ rfl rfl happ ?_
      refine hK _ _ ?_
      clear hK K
      (try dsimp only [Act.put])
      refine wpAny_ready (rs := [4]) (by kernel_rfl) (by simp) ?_
      refine AllReady.cons rfl (fun K hK => ?_) AllReady.nil
      go_simp
      refine hK _ _ ?_
      clear hK K
      (try dsimp only [Act.put])
      refine wpAny_done (by kernel_rfl) ?_ _
      go_simp
      go_wp2_with fail
      go_meet
      case rel => exact HE5
    · go_simp
      refine hK _ _ ?_
      clear hK K
      (try dsimp only [Act.put])
      refine wpAny_ready (rs := [0, 2]) (by kernel_rfl) (by simp) ?_
      refine AllReady.cons rfl (fun K hK => ?_) (AllReady.cons rfl (fun K hK => ?_) AllReady.nil)
      · go_simp
        refine hK _ _ ?_
        clear hK K
        (try dsimp only [Act.put])
        refine wpAny_ready (rs := [2]) (by kernel_rfl) (by simp) ?_
        refine AllReady.cons rfl (fun K hK => ?_) AllReady.nil
        go_simp
        refine (HFI.out _).mono ?_
        rintro e w5 ⟨rfl, rfl⟩
        refine hK _ _ ?_
        clear hK K
        (try dsimp only [Act.put])
        refine wpAny_ready (rs := [3]) (by kernel_rfl) (by simp) ?_
        refine AllReady.cons rfl (fun K hK => ?_) AllReady.nil
        refine wp_app _ _ _ _ rfl _ _ rfl rfl happ ?_
        refine hK _ _ ?_
        clear hK K
        (try dsimp only [Act.put])
        refine wpAny_ready (rs := [4]) (by kernel_rfl) (by simp) ?_
        refine AllReady.cons rfl (fun K hK => ?_) AllReady.nil
        go_simp
        refine hK _ _ ?_
        clear hK K
        (try dsimp only [Act.put])
        refine wpAny_done (by kernel_rfl) ?_ _
        go_simp
        go_wp2_with fail
        go_meet
        case rel => exact HE5
      · go_simp
        refine (HFI.out _).mono ?_
        rintro e w5 ⟨rfl, rfl⟩
        refine hK _ _ ?_
        clear hK K
        (try dsimp only [Act.put])
        refine wpAny_ready (rs := [0]) (by kernel_rfl) (by simp) ?_
        refine AllReady.cons rfl (fun K hK => ?_) AllReady.nil
        go_simp
        refine hK _ _ ?_
        clear hK K
        (try dsimp only [Act.put])
        refine wpAny_ready (rs := [3]) (by kernel_rfl) (by simp) ?_
        refine AllReady.cons rfl (fun K hK => ?_) AllReady.nil
        refine wp_app _ _ _ _ rfl _ _ rfl rfl happ ?_
        refine hK _ _ ?_
        clear hK K
        (try dsimp only [Act.put])
        refine wpAny_ready (rs := [4]) (by kernel_rfl) (by simp) ?_
        refine AllReady.cons rfl (fun K hK => ?_) AllReady.nil
        go_simp
        refine hK _ _ ?_
        clear hK K
        (try dsimp only [Act.put])
        refine wpAny_done (by kernel_rfl) ?_ _
        go_simp
        go_wp2_with fail
        go_meet
        case rel => exact HE5
  case rest =>
    clear happ f0 f1 f2
    obtain ⟨T, hT⟩ : ∃ T, txt d = T := ⟨_, rfl⟩
    have HT : Hid (ints T = d ∧ T.size = m) := Lib.hid ⟨by rw [← hT, ← HD.out]; exact ints_txt (renc_rng _ _ _), by rw [← hT, tsz]; exact HM.out⟩
    rw [hT] at HEN
    have HCH := Lib.hid (fun K m d w => chunk_any K m d w)
    clear hT
    have HE := hcut
    clear hcut
    go_wp2_with fail
    refine (HEN.out _ (HS.out.past HE.out.past)).mono ?_
    rintro e w6 ⟨rfl, hp6⟩
    have HE6 := Lib.hid (HE.out.past' hp6)
    have hcv := Lib.run_convert_string_bytes (P := Tryz.prog) w6 9 22 5 T Tryz.underlying9 Tryz.underlying22 Tryz.underlying5
    have hsl := sl_bytes12 w6 T (by have := HT.out.2; have := HNN.out; have := HNB.out; unfold maxLen; omega)
    have hpb := past_bytes12 w6 T
    obtain ⟨cD, hcD⟩ : ∃ cD, grownCap w6 T.size 0 5 = cD := ⟨_, rfl⟩
    obtain ⟨wb, hwb⟩ : ∃ wb, Lib.bytesWorld w6 5 T = wb := ⟨_, rfl⟩
    obtain ⟨D, hDD⟩ : ∃ D, w6.heap.size = D := ⟨_, rfl⟩
    rw [hcD, hwb, hDD, HT.out.2] at hcv
    rw [hcD, hwb, hDD, HT.out.1, HT.out.2] at hsl
    rw [hwb] at hpb
    have hlt := ob_lt HE6.out.own
    have hgl := HE6.out.box.lt
    have HEb : Hid (En w B G N (s.size + 17) (armTo (ints s) d 0) wb ∧ Sl wb (some ⟨D, 0, none⟩) m cD d ∧ B < D ∧ G < D) := Lib.hid ⟨HE6.out.past' hpb, hsl, by omega, by omega⟩
    clear hp6 HE6 hsl hpb hcD hwb hDD hlt hgl HE
    go_wp2_with fail
    refine (HCH.out _ _ _ _).mono ?_
    rintro e w7 ⟨rfl, hw7⟩
    have HW7 := Lib.hid hw7
    clear hw7
    go_wp2_with fail
    obtain ⟨E, hE⟩ : ∃ E, wb.heap.size = E := ⟨_, rfl⟩
    rw [hE]
    obtain ⟨V1, hV1⟩ : ∃ V1, V1 = wb.alloc (.cells #[.slice (some ⟨D, 0, none⟩) m cD] 22) := ⟨_, rfl⟩
    have z1 : V1.heap.size = E + 1 := by rw [hV1]; simp [hE]
    have hw7 := HW7.out
    rw [← hV1] at hw7
    have z7 : w7.heap.size = E + 2 := by rw [hw7]; simp [z1]
    have p1 : Past wb V1 := by rw [hV1]; exact past_alloc8 _ _
    have p7 : Past V1 w7 := by rw [hw7]; exact past_alloc8 _ _
    have hlab := ints_len s
    have hmd := HM.out
    have hED : D < E := by
      obtain ⟨b', o', e', hc'⟩ := HEb.out.2.1.bytes (by have := HMP.out; omega)
      injection e' with e'
      injection e' with e1 e2 e3
      subst e1 e2
      have := cell_lt (hc' 0 (by have := HMP.out; omega))
      rw [hE] at this
      exact this
    have HE0 : Hid (Er w B G N D cD (E + 2) (ints s) d 0 w7) := Lib.hid (by
      refine ⟨?_, ?_, by rw [z7]; exact Nat.le_refl _⟩
      · have hk0 : kA (ints s).length d.length 0 = s.size + 17 := by unfold kA; rw [hlab]; omega
        rw [hk0]
        exact (HEb.out.1.past' p1).past' p7
      · rw [hmd]
        exact (HEb.out.2.1.past p1).past p7)
    have HCL : Hid (w7.cell? ⟨E, 0, none⟩ = some (.slice (some ⟨D, 0, none⟩) m cD) ∧ w7.cell? ⟨E + 1, 0, none⟩ = some (.int .i64 64)) := Lib.hid (by
      constructor
      · rw [p7.cell (by show E < _; omega), hV1, ← hE]
        exact cell_mk wb _ _ _ 0
      · rw [hw7, ← z1]
        exact cell_mk V1 _ _ _ 0)
    have HZ7 := Lib.hid z7
    have HDE : Hid (B < D ∧ G < D ∧ D < E ∧ w.heap.size ≤ E) := Lib.hid ⟨HEb.out.2.2.1, HEb.out.2.2.2, hED, by have := HEb.out.1.past.size; omega⟩
    have HCAP : Hid (m ≤ cD ∧ m ≤ 1000000000) := Lib.hid ⟨HEb.out.2.1.cap, by have := HNN.out; have := HNB.out; omega⟩
    clear hE hV1 z1 hw7 z7 p1 p7 hlab hmd hED HEb HW7
    refine (wpIn_wide (n := 3)).1 ?_
    refine range_at (gf := 53) (lb := #[.pointer (some ⟨E, 0, none⟩), .pointer (some ⟨E + 1, 0, none⟩)]) rfl (enters_of Tryz.func53 (by kernel_rfl) rfl)
      (b1 := E) (b2 := E + 1) (by rw [HZ7.out]; omega) (by rw [HZ7.out]; omega)
      (chunk_at E (E + 1) D 0 q m cD HNN.out.2 HCAP.out.1 HCAP.out.2 w7 (by rw [HZ7.out]; omega) (by rw [HZ7.out]; omega) HCL.out.1 HCL.out.2) (fun _ => rfl)
      (fun pre W => Er w B G N D cD (E + 2) (ints s) d pre.length W) (fun pre W => False)
      (fun t A B h hs => h.grown hs) (fun t A r o o' h hr ho hc => h.put (by rw [HZ7.out] at hr; exact hr) ho hc (by have := HDE.out; omega) (by have := HDE.out; omega)) (fun t A r o o' h _ _ _ => h)
      HE0.out
      (fun (x : Fin q) => { tmps := #[.string s, .slice A n c, undef, undef, .slice none 0 0, .nilIface, .int .i64 (N : Int), .pointer (some ⟨G, 0, none⟩), .slice (some ⟨D, 0, none⟩) m cD, .slice (some ⟨D, 0 + 64 * x.1, none⟩) (min 64 (m - 64 * x.1)) (min 64 (m - 64 * x.1)), .string s, .slice A n c, .int .i64 (n : Int), .int .i64 (N : Int), .int .i64 (N : Int), .bool false, .bool false, .int .i64 (N : Int), .bool (decide ((1048576 : Int) < (N : Int))), .bool (decide ((1048576 : Int) < (N : Int))), undef, .int .i64 (N : Int), .slice (some ⟨B, 0, none⟩) 0 N, u23, u24, u25, u26, .slice A n c, .string T, .slice (some ⟨D, 0, none⟩) m cD, .slice (some ⟨D, 0, none⟩) m cD,
        .func (.func 53) #[] #[.pointer (some ⟨E, 0, none⟩), .pointer (some ⟨E + 1, 0, none⟩)], .slice (some ⟨D, 0 + 64 * x.1, none⟩) (min 64 (m - 64 * x.1)) (min 64 (m - 64 * x.1)), undef, undef, undef, undef, undef, undef, undef, undef, undef], defers := [] }) ?assign ?body ?done ?stop
    case assign =>
      intro l x W KK hKK
      unfold encD
      generalize hv : Value.slice (some ⟨D, 0 + 64 * x.1, none⟩) (min 64 (m - 64 * x.1)) (min 64 (m - 64 * x.1)) = v at hKK ⊢
      gi_wp2
      exact hKK
    case body =>
      intro l pre x W hL hpre
      have hpl : pre.length = x.1 := by rw [hpre, starts_len q x.1 (by omega)]
      rw [List.length_append, List.length_cons, List.length_nil, hpl]
      rw [hpl] at hL
      have hxq := x.2
      obtain ⟨W1, W3, h1, h2, h3, h4, h5, h6, h7⟩ := hL.line (by rw [HM.out, ← HNN.out.2]; exact hxq) (by rw [HM.out, ints_len]; have := HNN.out; omega) hN0n (by have := HDE.out; omega) (by have := HDE.out; omega) 22
      have g0 : W.cell? ⟨G, 0, none⟩ = some (.slice (some ⟨B, 0, none⟩) (kA (ints s).length d.length x.1) N) := hL.en.box.cell
      have hsz := hL.sz
      have HKR : Hid (KR E (E + 1) W (W3.setCell ⟨G, 0, none⟩ (.slice (some ⟨B, 0, none⟩) (kA (ints s).length d.length (x.1 + 1)) N)) ∧ KeepsOthers W (W3.setCell ⟨G, 0, none⟩ (.slice (some ⟨B, 0, none⟩) (kA (ints s).length d.length (x.1 + 1)) N))) := Lib.hid (by
        have hde := HDE.out
        exact ⟨⟨h7.at_ E (by omega) (by omega) (by omega), h7.at_ (E + 1) (by omega) (by omega) (by omega)⟩, h7.keep⟩)
      have H6 := Lib.hid h6
      clear h6 h7 hL hsz hpre hpl hxq
      rw [HM.out] at h1 h2 h3 h4 h5 g0
      rw [HM.out] at HKR
      have H6' : Hid (Er w B G N D cD (E + 2) (ints s) d (x.1 + 1) (W3.setCell ⟨G, 0, none⟩ (.slice (some ⟨B, 0, none⟩) (kA (ints s).length m (x.1 + 1)) N))) := Lib.hid (by have := H6.out; rw [HM.out] at this; exact this)
      clear H6
      obtain ⟨ix1, hix⟩ : ∃ ix1, x.1 + 1 = ix1 := ⟨_, rfl⟩
      generalize hk0 : kA (ints s).length m x.1 = k0 at h1 h2 h3 h4 h5 g0
      rw [Nat.zero_add] at h1 ⊢
      rw [hix] at h4 HKR H6' ⊢
      generalize hk2 : kA (ints s).length m ix1 = k2 at h4 HKR H6'
      generalize he1 : min 64 (m - 64 * x.1) = e1 at h1 h2 h3 h4 h5 ⊢
      generalize ho1 : 64 * x.1 = o1 at h1 ⊢
      generalize hk1 : k0 + e1 = k1 at h1 h3 h4 h5
      have g1 : W1.cell? ⟨G, 0, none⟩ = some (.slice (some ⟨B, 0, none⟩) k0 N) := h2.cell
      have g2 : W1.frozen? ⟨G, 0, none⟩ = false := h2.frozen
      have g3 : (W1.setCell ⟨G, 0, none⟩ (.slice (some ⟨B, 0, none⟩) k1 N)).cell? ⟨G, 0, none⟩ = some (.slice (some ⟨B, 0, none⟩) k1 N) := h3.cell
      have g4 : W3.cell? ⟨G, 0, none⟩ = some (.slice (some ⟨B, 0, none⟩) k1 N) := h5.cell
      have g5 : W3.frozen? ⟨G, 0, none⟩ = false := h5.frozen
      clear hk0 hk2 he1 ho1 hk1 hix h2 h3 h5
      gi_wp2_with (first | (refine wpListIn_app rfl _ _ _ _ rfl _ _ rfl rfl h1 ?_) | (refine wpListIn_app rfl _ _ _ _ rfl _ _ rfl rfl h4 ?_))
      exact ⟨HKR.out.2, HKR.out.1, H6'.out⟩
    case done =>
      rintro D1 ys W hD1 rfl hL hK
      rw [List.length_finRange] at hL
      obtain ⟨wd, hwd⟩ : ∃ wd, wd = W.drew := ⟨_, rfl⟩
      have hpd : Past W wd := by rw [hwd]; exact Past.drewN (Below.refl _ W) 1
      have hkA : kA (ints s).length d.length q = s.size + 17 + m + q := by unfold kA; rw [HM.out, ints_len]; have := HNN.out; omega
      have hen := hL.en.past' hpd
      rw [hkA] at hen
      have hKd : wd.heap[D1]? = some (.deferred (some [])) := (hpd.block D1 (Array.getElem?_eq_some_iff.1 hK).1).trans hK
      obtain ⟨W6, happ, _, _, _, hob, hgr⟩ := en_str hen L hN0n (by have := HL.out.2; have := HNN.out; omega) 22
      have f0 : wd.cell? ⟨G, 0, none⟩ = some (.slice (some ⟨B, 0, none⟩) (s.size + 17 + m + q) N) := hen.box.cell
      have hK6 : W6.heap[D1]? = some (.deferred (some [])) := (hgr.block D1 (Array.getElem?_eq_some_iff.1 hKd).1 (fun e => by cases e; rw [HZ7.out] at hD1; have := HDE.out; omega)).trans hKd
      have HFP : Hid (W6.heap[D1]? = some (.deferred (some [])) ∧ ∃ cc, Sl (W6.putObj D1 (.deferred none)) (some ⟨B, 0, none⟩) (s.size + 17 + m + q + L.size) cc (armL (ints s) xs) ∧ cc = N ∧ Past w (W6.putObj D1 (.deferred none))) := Lib.hid (by
        refine ⟨hK6, N, ?_, rfl, ?_⟩
        · have hal : armTo (ints s) d q ++ ints L = armL (ints s) xs := by
            rw [HL.out.1, ← HD.out, ← HXN.out]
            exact armTo_end _ _ (by rw [HXN.out, HD.out, HM.out]; have := HNN.out; omega)
          have hlen : (armTo (ints s) d q ++ ints L).length = s.size + 17 + m + q + L.size := by rw [List.length_append, hen.len, ints_len]
          unfold Ob at hob
          rw [hal] at hob hlen
          rw [hlen] at hob
          have hrg : ∀ x ∈ armL (ints s) xs, 0 ≤ x ∧ x < 256 := by
            rw [← hal]
            intro x hx
            rcases List.mem_append.1 hx with hx | hx
            · exact hen.rng x hx
            · exact ints_rngs L x hx
          exact En.sl (w := w) (G := G) (ownsRow_putObj hob (.deferred none) hK6 rfl) hlen hrg
        · exact past_put (hen.past.grown hgr hen.past.size fun k e => by cases e; exact hen.base) (by rw [HZ7.out] at hD1; have := HDE.out; omega))
      have HWD1 := Lib.hid hwd
      clear hob hgr hK6 hKd hen hkA hpd hL hK hwd
      go_upto_region 11 with (fail)
      refine wp_region_any (by kernel_rfl) ?_
      change wpAny _ _ _ _ _ _ _ (World.drew _)
      rw [← HWD1.out]
      clear HWD1
      refine wpAny_ready (rs := [0, 1]) (by kernel_rfl) (by simp) ?_
      refine AllReady.cons rfl (fun K hK => ?_) (AllReady.cons rfl (fun K hK => ?_) AllReady.nil)
      · go_simp
        refine hK _ _ ?_
        clear hK K
        (try dsimp only [Act.put])
        refine wpAny_ready (rs := [1]) (by kernel_rfl) (by simp) ?_
        refine AllReady.cons rfl (fun K hK => ?_) AllReady.nil
        go_simp
        refine hK _ _ ?_
        clear hK K
        (try dsimp only [Act.put])
        refine wpAny_ready (rs := [2]) (by kernel_rfl) (by simp) ?_
        refine AllReady.cons rfl (fun K hK => ?_) AllReady.nil
        go_simp
        refine (HLA.out _).mono ?_
        rintro e w8 ⟨rfl, rfl⟩
        refine hK _ _ ?_
        clear hK K
        (try dsimp only [Act.put])
        refine wpAny_ready (rs := [3]) (by kernel_rfl) (by simp) ?_
        refine AllReady.cons rfl (fun K hK => ?_) AllReady.nil
        refine wp_app _ _ _ _ rfl _ _ rfl rfl happ ?_
        refine hK _ _ ?_
        clear hK K
        (try dsimp only [Act.put])
        refine wpAny_ready (rs := [4]) (by kernel_rfl) (by simp) ?_
        refine AllReady.cons rfl (fun K hK => ?_) AllReady.nil
        go_simp
        refine hK _ _ ?_
        clear hK K
        (try dsimp only [Act.put])
        refine wpAny_ready (rs := [5]) (by kernel_rfl) (by simp) ?_
        refine AllReady.cons rfl (fun K hK => ?_) AllReady.nil
        go_simp
        refine hK _ _ ?_
        clear hK K
        (try dsimp only [Act.put])
        refine wpAny_done (by kernel_rfl) ?_ _
        go_simp
        go_wp2_with fail
        refine ⟨by simp, .inl ⟨_, _, rfl, run_takeDeferred HFP.out.1, ?_⟩⟩
        refine ⟨_, results_tmp2 (fn := Tryz.f12) (t := 4) (u := 5) rfl _ _ _, ?_⟩
        obtain ⟨_, cc, hsl, hcc, hpf⟩ := HFP.out; rw [hcc] at hsl
        exact ⟨⟨_, _, _, rfl, hsl⟩, hpf⟩
      · go_simp
        refine hK _ _ ?_
        clear hK K
        (try dsimp only [Act.put])
        refine wpAny_ready (rs := [0, 2]) (by kernel_rfl) (by simp) ?_
        refine AllReady.cons rfl (fun K hK => ?_) (AllReady.cons rfl (fun K hK => ?_) AllReady.nil)
        · go_simp
          refine hK _ _ ?_
          clear hK K
          (try dsimp only [Act.put])
          refine wpAny_ready (rs := [2]) (by kernel_rfl) (by simp) ?_
          refine AllReady.cons rfl (fun K hK => ?_) AllReady.nil
          go_simp
          refine (HLA.out _).mono ?_
          rintro e w8 ⟨rfl, rfl⟩
          refine hK _ _ ?_
          clear hK K
          (try dsimp only [Act.put])
          refine wpAny_ready (rs := [3]) (by kernel_rfl) (by simp) ?_
          refine AllReady.cons rfl (fun K hK => ?_) AllReady.nil
          refine wp_app _ _ _ _ rfl _ _ rfl rfl happ ?_
          refine hK _ _ ?_
          clear hK K
          (try dsimp only [Act.put])
          refine wpAny_ready (rs := [4]) (by kernel_rfl) (by simp) ?_
          refine AllReady.cons rfl (fun K hK => ?_) AllReady.nil
          go_simp
          refine hK _ _ ?_
          clear hK K
          (try dsimp only [Act.put])
          refine wpAny_ready (rs := [5]) (by kernel_rfl) (by simp) ?_
          refine AllReady.cons rfl (fun K hK => ?_) AllReady.nil
          go_simp
          refine hK _ _ ?_
          clear hK K
          (try dsimp only [Act.put])
          refine wpAny_done (by kernel_rfl) ?_ _
          go_simp
          go_wp2_with fail
          refine ⟨by simp, .inl ⟨_, _, rfl, run_takeDeferred HFP.out.1, ?_⟩⟩
          refine ⟨_, results_tmp2 (fn := Tryz.f12) (t := 4) (u := 5) rfl _ _ _, ?_⟩
          obtain ⟨_, cc, hsl, hcc, hpf⟩ := HFP.out; rw [hcc] at hsl
          exact ⟨⟨_, _, _, rfl, hsl⟩, hpf⟩
        · go_simp
          refine (HLA.out _).mono ?_
          rintro e w8 ⟨rfl, rfl⟩
          refine hK _ _ ?_
          clear hK K
          (try dsimp only [Act.put])
          refine wpAny_ready (rs := [0]) (by kernel_rfl) (by simp) ?_
          refine AllReady.cons rfl (fun K hK => ?_) AllReady.nil
          go_simp
          refine hK _ _ ?_
          clear hK K
          (try dsimp only [Act.put])
          refine wpAny_ready (rs := [3]) (by kernel_rfl) (by simp) ?_
          refine AllReady.cons rfl (fun K hK => ?_) AllReady.nil
          refine wp_app _ _ _ _ rfl _ _ rfl rfl happ ?_
          refine hK _ _ ?_
          clear hK K
          (try dsimp only [Act.put])
          refine wpAny_ready (rs := [4]) (by kernel_rfl) (by simp) ?_
          refine AllReady.cons rfl (fun K hK => ?_) AllReady.nil
          go_simp
          refine hK _ _ ?_
          clear hK K
          (try dsimp only [Act.put])
          refine wpAny_ready (rs := [5]) (by kernel_rfl) (by simp) ?_
          refine AllReady.cons rfl (fun K hK => ?_) AllReady.nil
          go_simp
          refine hK _ _ ?_
          clear hK K
          (try dsimp only [Act.put])
          refine wpAny_done (by kernel_rfl) ?_ _
          go_simp
          go_wp2_with fail
          refine ⟨by simp, .inl ⟨_, _, rfl, run_takeDeferred HFP.out.1, ?_⟩⟩
          refine ⟨_, results_tmp2 (fn := Tryz.f12) (t := 4) (u := 5) rfl _ _ _, ?_⟩
          obtain ⟨_, cc, hsl, hcc, hpf⟩ := HFP.out; rw [hcc] at hsl
          exact ⟨⟨_, _, _, rfl, hsl⟩, hpf⟩
    case stop =>
      rintro D1 pre W hD1 _ h
      exact h.elim
end Go.Proofs.YtnnonidiogoffaaGreatDoor
