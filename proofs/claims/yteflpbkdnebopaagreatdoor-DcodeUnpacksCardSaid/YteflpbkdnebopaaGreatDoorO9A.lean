/- The library's texts beside the reference's: decimal digits, parts joined with dots, a string cut at its dots, a number read. Plain lists. strconv.FormatUint at base 10, for numbers of 32 bits: the decimal digits. slices.Max of a list of numbers of 32 bits; the program's Valid. The program's Valid. The program's Text. The program's Parse. -/
import Derived.Test.YteflpbkdnebopaaGreatDoorSlK9
import Derived.Lib.ItoaMem
import Derived.Lib.Join
import Derived.Lib.Split
import Derived.Lib.ParseIntBCases
import Derived.Test.YteflpbkdnebopaaGreatDoorShelf
namespace Go.Proofs.YteflpbkdnebopaaGreatDoor
open Go.RowKit
set_option maxRecDepth 100000

def intsB (l : List UInt8) : List Int := l.map fun b => (b.toNat : Int)
theorem ints_eq (s : ByteArray) : ints s = intsB s.data.toList := rfl
theorem intsB_app (a b : List UInt8) : intsB (a ++ b) = intsB a ++ intsB b := List.map_append
theorem intsB_inj {a b : List UInt8} (h : intsB a = intsB b) : a = b :=
  (List.map_inj_right (fun x y (e : (x.toNat : Int) = (y.toNat : Int)) => UInt8.toNat_inj.1 (by omega))).1 h

theorem dec_ints (n : Nat) : intsB (Lib.decDigits n) = decL n := by
  induction n using Nat.strongRecOn with
  | _ n ih =>
    by_cases h : n < 10
    · rw [Lib.decDigits, dif_pos h, decL_one h]
      have e : (UInt8.ofNat (48 + n)).toNat = 48 + n := by rw [UInt8.toNat_ofNat']; omega
      show [((UInt8.ofNat (48 + n)).toNat : Int)] = _
      rw [e]
    · rw [Lib.decDigits, dif_neg h, decL_more h, intsB_app, ih (n / 10) (by omega)]
      have e : (UInt8.ofNat (48 + n % 10)).toNat = 48 + n % 10 := by rw [UInt8.toNat_ofNat']; omega
      congr 1
      show [((UInt8.ofNat (48 + n % 10)).toNat : Int)] = _
      rw [e]
theorem dec_nodot (n : Nat) : ∀ x ∈ Lib.decDigits n, x ≠ 46 := by
  rintro x hx rfl
  have h : ((46 : UInt8).toNat : Int) ∈ intsB (Lib.decDigits n) := List.mem_map_of_mem hx
  rw [dec_ints] at h
  have := decL_rng n _ h
  have e : ((46 : UInt8).toNat : Int) = 46 := rfl
  omega
theorem dec_pos (n : Nat) : 1 ≤ (Lib.decDigits n).length := by
  have h := decL_pos n
  rw [← dec_ints] at h
  simpa [intsB] using h

/-- Parts with a dot behind each. -/
def dotted (ps : List (List UInt8)) : List UInt8 := (ps.map (· ++ [46])).flatten
theorem dotted_cons (p : List UInt8) (ps : List (List UInt8)) : dotted (p :: ps) = p ++ 46 :: dotted ps := by
  simp [dotted]
theorem tail_dotted (r : List (List UInt8)) : Lib.joinTail [46] r ++ [46] = 46 :: dotted r := by
  induction r with
  | nil => rfl
  | cons y r ih =>
    have e : Lib.joinTail [46] (y :: r) = [46] ++ y ++ Lib.joinTail [46] r := by simp [Lib.joinTail]
    rw [e, List.append_assoc, ih, dotted_cons]
    simp
theorem join_dotted {ps : List (List UInt8)} (h : ps ≠ []) : Lib.join ps [46] ++ [46] = dotted ps := by
  match ps, h with
  | p :: r, _ => rw [Lib.join_cons, List.append_assoc, tail_dotted, dotted_cons]
theorem jn_dotted (l : List Int) : jn9 l = intsB (dotted (l.map fun x => Lib.decDigits x.toNat)) := by
  induction l with
  | nil => rfl
  | cons x l ih =>
    rw [List.map_cons, dotted_cons, intsB_app, dec_ints]
    show decL x.toNat ++ 46 :: jn9 l = decL x.toNat ++ ((46 : UInt8).toNat : Int) :: intsB _
    rw [ih]
    rfl
/-- The text of an identifier is its numbers joined. -/
theorem text_join {l : List Int} (h : okL l = true) : (⟨(Lib.join (l.map fun x => Lib.decDigits x.toNat) [46]).toArray⟩ : ByteArray) = textS l := by
  refine ints_inj ?_
  have h1 := textS_jn h
  rw [jn_dotted, ← join_dotted (by
    have := (okL_true h).1
    intro e
    have := congrArg List.length e
    simp at this
    subst this
    simp at *), intsB_app] at h1
  exact (app_one_inj h1).symm

theorem index_dot (p t : List UInt8) (h : ∀ x ∈ p, x ≠ 46) : Lib.index (p ++ 46 :: t) [46] = (p.length : Int) := by
  induction p with
  | nil => simp [Lib.index, List.isPrefixOf]
  | cons b p ih =>
    have hb : b ≠ 46 := h b (List.mem_cons_self ..)
    have h1 := ih fun x hx => h x (List.mem_cons_of_mem _ hx)
    show Lib.index (b :: (p ++ 46 :: t)) [46] = _
    unfold Lib.index
    have e : ([46] : List UInt8).isPrefixOf (b :: (p ++ 46 :: t)) = false := by
      simp [List.isPrefixOf]
      exact fun e => hb e.symm
    have e2 : ((p.length : Int) == -1) = false := by rw [beq_eq_false_iff_ne]; omega
    rw [e, h1, e2]
    simp
theorem index_nodot (p : List UInt8) (h : ∀ x ∈ p, x ≠ 46) : Lib.index p [46] = -1 := by
  induction p with
  | nil => rfl
  | cons b p ih =>
    have hb : b ≠ 46 := h b (List.mem_cons_self ..)
    have h1 := ih fun x hx => h x (List.mem_cons_of_mem _ hx)
    unfold Lib.index
    have e : ([46] : List UInt8).isPrefixOf (b :: p) = false := by
      simp [List.isPrefixOf]
      exact fun e => hb e.symm
    rw [e, h1]
    rfl
theorem split_dotted : ∀ (ps : List (List UInt8)) (k : Nat) (s : List UInt8), s ++ [46] = dotted ps → ps ≠ [] → (∀ p ∈ ps, ∀ x ∈ p, x ≠ 46) → ps.length ≤ k + 1 → Lib.splitK [46] 0 k s = ps
  | [], _, _, _, h, _, _ => absurd rfl h
  | [p], k, s, hs, _, hp, _ => by
    have e : s = p := by
      rw [dotted_cons] at hs
      exact (List.append_inj' hs rfl).1
    subst e
    have hi := index_nodot s (hp s (List.mem_cons_self ..))
    cases k with
    | zero => rfl
    | succ k => unfold Lib.splitK; rw [hi]; rfl
  | p :: q :: r, k, s, hs, _, hp, hk => by
    obtain ⟨t, ht⟩ : ∃ t, dotted (q :: r) = t ++ [46] := ⟨Lib.join (q :: r) [46], (join_dotted (by simp)).symm⟩
    have e : s = p ++ 46 :: t := by
      rw [dotted_cons, ht] at hs
      refine (List.append_inj' (t₁ := [46]) (t₂ := [46]) ?_ rfl).1
      rw [hs]
      simp
    subst e
    have hi := index_dot p t (hp p (List.mem_cons_self ..))
    match k, hk with
    | k + 1, hk =>
      have e2 : ((p.length : Int) == -1) = false := by rw [beq_eq_false_iff_ne]; omega
      unfold Lib.splitK
      rw [hi, e2]
      have e3 : (p ++ 46 :: t).take ((p.length : Int).toNat + 0) = p := by simp
      have e4 : (p ++ 46 :: t).drop ((p.length : Int).toNat + ([46] : List UInt8).length) = t := by simp
      rw [if_neg (by simp), e3, e4, split_dotted (q :: r) k t ht.symm (by simp) (fun x hx => hp x (List.mem_cons_of_mem _ hx)) (by simp at hk ⊢; omega)]

theorem parseM_app (M : Nat) : ∀ (a b : List UInt8) (acc u : Nat), Lib.parseUintM M acc a = .ok u → Lib.parseUintM M acc (a ++ b) = Lib.parseUintM M u b
  | [], _, acc, u, h => by
    obtain rfl : acc = u := by simpa [Lib.parseUintM] using h
    rfl
  | c :: a, b, acc, u, h => by
    rw [List.cons_append]
    unfold Lib.parseUintM at h
    conv => lhs; unfold Lib.parseUintM
    split at h
    · rename_i h1
      rw [if_pos h1]
      split at h
      · cases h
      · rename_i h2
        rw [if_neg h2]
        split at h
        · cases h
        · rename_i h3
          rw [if_neg h3]
          exact parseM_app M a b _ u h
    · cases h
theorem parseM_one (M acc d : Nat) (hd : d < 10) (ha : acc * 10 + d ≤ M) (hM : M < 4294967296) : Lib.parseUintM M acc [UInt8.ofNat (48 + d)] = .ok (acc * 10 + d) := by
  have e : (UInt8.ofNat (48 + d)).toNat = 48 + d := by rw [UInt8.toNat_ofNat']; omega
  unfold Lib.parseUintM
  rw [e, if_pos (by omega), if_neg (by omega), if_neg (by omega)]
  show Lib.NumEnd.ok _ = _
  congr 1
  omega
theorem parseM_dec (n : Nat) (hn : n < 4294967296) : Lib.parseUintM 4294967295 0 (Lib.decDigits n) = .ok n := by
  induction n using Nat.strongRecOn with
  | _ n ih =>
    by_cases h : n < 10
    · rw [Lib.decDigits, dif_pos h, parseM_one _ 0 n h (by omega) (by omega)]
      congr 1
      omega
    · rw [Lib.decDigits, dif_neg h, parseM_app _ _ _ _ _ (ih (n / 10) (by omega) (by omega)), parseM_one _ _ _ (by omega) (by omega) (by omega)]
      congr 1
      omega
theorem parseB_dec (n : Nat) (hn : n < 4294967296) : Lib.parseUintB 32 (Lib.decDigits n) = .ok n := by
  unfold Lib.parseUintB
  rw [if_neg (by intro e; have := dec_pos n; rw [e] at this; simp at this)]
  exact parseM_dec n hn

theorem dotted_len (ps : List (List UInt8)) : ps.length ≤ (dotted ps).length := by
  induction ps with
  | nil => exact Nat.le_refl _
  | cons p ps ih => rw [dotted_cons]; simp; omega
/-- The pieces of the text of an identifier. -/
def pieces (s : ByteArray) : List ByteArray := Lib.splitB ⟨#[46]⟩ 0 (min 21 (s.size + 1) - 1) s
theorem parse_pieces {s : ByteArray} {l : List Int} (h : parseL (ints s) = some l) : (pieces s).map (·.data.toList) = l.map fun x => Lib.decDigits x.toNat := by
  obtain ⟨h1, h2, h3⟩ := parse_text h
  have h4 := textS_jn h2
  rw [h1, jn_dotted, ints_eq] at h4
  have h5 : s.data.toList ++ [46] = dotted (l.map fun x => Lib.decDigits x.toNat) := by
    refine intsB_inj ?_
    rw [intsB_app]
    exact h4
  have h6 := okL_true h2
  have h7 := dotted_len (l.map fun x => Lib.decDigits x.toNat)
  rw [← h5, List.length_map, List.length_append] at h7
  have h8 : s.data.toList.length = s.size := by rw [Array.length_toList]; rfl
  have h9 : ([46] : List UInt8).length = 1 := rfl
  unfold pieces
  rw [Lib.splitB_data]
  refine split_dotted _ _ _ h5 ?_ ?_ ?_
  · intro e
    have := congrArg List.length e
    rw [List.length_map, List.length_nil] at this
    omega
  · intro p hp
    obtain ⟨x, _, rfl⟩ := List.mem_map.1 hp
    exact dec_nodot _
  · rw [List.length_map]
    omega
theorem parse_piece {s : ByteArray} {l : List Int} (h : parseL (ints s) = some l) (i : Nat) (p : ByteArray) (hp : (pieces s)[i]? = some p) : Lib.parseUintB 32 p.data.toList = .ok (l.getD i 0).toNat := by
  have h1 := parse_pieces h
  have h2 := congrArg (fun x => x[i]?) h1
  simp only [List.getElem?_map, hp, Option.map_some] at h2
  cases hl : l[i]? with
  | none => rw [hl] at h2; cases h2
  | some x =>
    rw [hl] at h2
    simp only [Option.map_some, Option.some.injEq] at h2
    have hx := (parse_text h).2.2 x (List.mem_of_getElem? hl)
    rw [h2, List.getD_eq_getElem?_getD, hl]
    exact parseB_dec _ (by omega)
theorem pieces_len (s : ByteArray) : (pieces s).length ≤ 21 := by
  have := Lib.splitB_length_le ⟨#[46]⟩ 0 (min 21 (s.size + 1) - 1) s
  unfold pieces
  omega
theorem parse_len {s : ByteArray} {l : List Int} (h : parseL (ints s) = some l) : (pieces s).length = l.length := by
  have h1 := congrArg List.length (parse_pieces h)
  simpa using h1

end Go.Proofs.YteflpbkdnebopaaGreatDoor

namespace Go.Proofs.YteflpbkdnebopaaGreatDoor
open Go.RowKit Go.Sort
set_option linter.unusedVariables false

theorem past_grow9 (w : World) (k : Nat) (os : Array Obj) : Past w (grow (w.drewN k) os) := by
  refine ⟨rfl, rfl, rfl, by simp [grow], fun i hi => ?_⟩
  show ((w.drewN k).heap ++ os)[i]? = w.heap[i]?
  have hh : (w.drewN k).heap = w.heap := rfl
  rw [hh, Array.getElem?_append, if_pos hi]
theorem fin9 (w : World) (o : Obj) (dk : Array UInt8) (k : Nat) : Past w ((putRow (fun (b : UInt8) => Value.int .u8 (b.toNat : Int)) (w.alloc o) w.heap.size 0 dk).drewN k) := by
  rw [alloc_eq_grow]
  obtain ⟨os', _, e⟩ := putRow_grow_new (fun (b : UInt8) => Value.int .u8 (b.toNat : Int)) w #[o] w.heap.size 0 dk (Nat.le_refl _)
  rw [e]
  exact past_grow9 w k os'
theorem holds9 (w : World) (T : TypeId) (nd : Nat) (hs : nd ≤ 24) : Holds (fun (b : UInt8) => Value.int .u8 (b.toNat : Int)) (w.alloc (.cells Lib.zeros24 T)) w.heap.size 0 (Array.replicate nd (0 : UInt8)) := fun j hj => by
  have hj' : j < nd := by simpa using hj
  refine ⟨?_, World.frozen?_alloc_new _ _ _ _⟩
  rw [World.cell?_alloc_new, Lib.zeros24_at _ (by omega), getElem!_pos _ j hj]
  simp

set_option maxHeartbeats 6400000 in
set_option maxRecDepth 100000 in
theorem fmtI_any (u : Nat) (hu : u < 4294967296) (w : World) (htab : Lib.TabIs Tryz.prog w "internal/strconv.uint64pow10" .u64 Lib.pow10Tab) :
    Calls Tryz.prog 102 #[.int .u64 (u : Int), .int .i64 10] w fun e w' => e = .returned (.string ⟨(Lib.decDigits u).toArray⟩) ∧ Past w w' := by
  have e1 : ∀ args w, (callFunc 113 args).run Tryz.prog w = .ok (.enter 113 args) w := enters_of Tryz.func113 (by kernel_rfl) rfl
  by_cases hs : u < 100
  · have hs2 : (u : Int) < 100 := by omega
    go_enter Tryz.func102, Tryz.ntmps102
    go_wp2_with fail
    refine (Tryz.internal_strconv_small u hs _).mono ?_
    rintro e w' ⟨rfl, rfl⟩
    go_wp2_with fail
    go_ret
    exact ⟨rfl, Below.refl _ _⟩
  · have hs2 : ¬ (u : Int) < 100 := by omega
    have hu1 : 1 ≤ u := by omega
    have hu64 : u < 18446744073709551616 := by omega
    have hnd20 : Lib.nDigits u ≤ 20 := by have := Lib.numDigits_eq u hu1 hu64; split at this <;> omega
    have hb3 : Lib.nDigits u ≤ 24 := by omega
    have hal : Tryz.prog.arrayLen 200 = 24 := by kernel_rfl
    have hsl : ∀ W, (Instr.sliceAt 200 (.pointer (some ⟨w.heap.size, 0, none⟩)) none (some (.int .i64 (Lib.nDigits u : Int))) none).run Tryz.prog W = .ok (.slice (some ⟨w.heap.size, 0, none⟩) (Lib.nDigits u) 24) W := fun W => by
      rw [run_sliceAt_array_h W 200 ⟨w.heap.size, 0, none⟩ (by kernel_rfl) .i64 (Lib.nDigits u : Int) (by omega) (by rw [hal]; omega)]
      go_simp
    have hH0 := holds9 w 200 (Lib.nDigits u) (by omega)
    have hfmt := Tryz.internal_strconv_formatBase10 w.heap.size 0 24 u (Array.replicate (Lib.nDigits u) 0) (w.alloc (.cells Lib.zeros24 200)) hH0 (by rw [Array.size_replicate]; exact Lib.lt_pow_nDigits u) hu64 (by rw [Array.size_replicate]; omega)
    rw [Array.size_replicate] at hfmt
    have HH0 := Lib.hid hH0
    have HT := Lib.hid htab
    have HF := Lib.hid hfmt
    clear hH0 hal htab hfmt
    go_enter Tryz.func102, Tryz.ntmps102
    go_wp2_with fail
    refine (Tryz.internal_strconv_numDigits u hu1 hu64 _ (Lib.tabIs_alloc HT.out _)).mono ?_
    rintro e w' ⟨rfl, rfl⟩
    go_wp2_with fail
    refine HF.out.mono ?_
    rintro e w' ⟨rfl, k, v', dk, hw, hF⟩
    have hcv : (convert 25 9 (.slice (some ⟨w.heap.size, 0, none⟩) (Lib.nDigits u) 24)).run Tryz.prog w' = .ok (.string ⟨(Lib.decDigits u).toArray⟩) w' := by
      have h := run_convert_bytes_back (P := Tryz.prog) w' 25 9 5 ⟨w.heap.size, 0, none⟩ 24 (Lib.decDigits u) Tryz.underlying25 Tryz.underlying5 Tryz.underlying9 (fun j hj => by
        rw [Lib.row_is_numeral hF j hj, Lib.add_plain, hw, World.cell?_drewN]
        exact cell?_putRow (fun (b : UInt8) => Value.int .u8 (b.toNat : Int)) _ w.heap.size 0 _ dk HH0.out (by rw [hF.size, Array.size_replicate]) j (by rw [hF.size]; rw [Lib.decDigits_length] at hj; exact hj))
      rw [Lib.decDigits_length] at h
      exact h
    have hP : Hid (Past w w') := by rw [hw]; exact fin9 w _ dk k
    clear hw hF
    go_wp2_with fail
    go_ret
    exact ⟨rfl, hP.out⟩

set_option maxRecDepth 100000 in
theorem fmt_any (u : Nat) (hu : u < 4294967296) (w : World) (hG : Glob w) :
    Calls Tryz.prog 90 #[.int .u64 (u : Int), .int .i64 10] w fun e w' => e = .returned (.string ⟨(Lib.decDigits u).toArray⟩) ∧ Past w w' := by
  have H := Lib.hid (fmtI_any u hu w hG.tab)
  clear hG
  go_enter Tryz.func90, Tryz.ntmps90
  go_wp2_with fail
  refine H.out.mono ?_
  rintro e w' ⟨rfl, hp⟩
  have HP := Lib.hid hp
  clear hp
  go_wp2_with fail
  go_ret
  exact ⟨rfl, HP.out⟩

end Go.Proofs.YteflpbkdnebopaaGreatDoor

namespace Go.Proofs.YteflpbkdnebopaaGreatDoor
open Go.RowKit
set_option maxRecDepth 100000
set_option linter.unusedVariables false

set_option maxHeartbeats 1000000 in
theorem max_any (b o n c : Nat) (l : List Int) (w : World) (h : SlK .u32 w (some ⟨b, o, none⟩) n c l) (hr : Rng l) (hn : 1 ≤ n) (hn2 : n ≤ 1000) :
    Calls Tryz.prog 89 #[.slice (some ⟨b, o, none⟩) n c] w fun e w' => w = w' ∧ ∃ m : Int, e = .returned (.int .u32 m) ∧ 0 ≤ m ∧ m < 4294967296 ∧ ((∀ j, j < n → l.getD j 0 < 4294967216) ↔ m < 4294967216) := by
  obtain ⟨b', o', eA, hc⟩ := h.cells (by omega)
  obtain ⟨rfl, rfl⟩ : b = b' ∧ o = o' := by
    simp only [Option.some.injEq, Addr.mk.injEq] at eA
    exact ⟨eA.1, eA.2.1⟩
  have c0 := hc 0 (by omega)
  rw [Nat.add_zero] at c0
  have r0 := getD_rngK (by omega) hr 0
  obtain ⟨x0, hx0⟩ : ∃ x, l.getD 0 0 = x := ⟨_, rfl⟩
  rw [hx0] at c0 r0
  obtain ⟨r00, r01⟩ := r0
  have HX := Lib.hid hx0
  have HC := Lib.hid hc
  have HR := Lib.hid hr
  have h0i : (0 : Int) < (n : Int) := by omega
  have h1i : ¬ (n : Int) < 1 := by omega
  clear h hc eA hx0 hr
  go_enter Tryz.func89, Tryz.ntmps89
  go_wp2_with fail
  go_loopg [3, 4] (n - 1) (fun k s3 s4 wx => ∃ (i : Nat) (m : Int), 1 ≤ i ∧ i ≤ n ∧ k = n - i ∧ s3 = .int .u32 m ∧ s4 = .int .i64 (i : Int) ∧ Hid (0 ≤ m ∧ m < 4294967296 ∧ ((∀ j, j < i → l.getD j 0 < 4294967216) ↔ m < 4294967216)) ∧ Hid (w = wx))
  case atStart =>
    refine ⟨1, x0, Nat.le_refl _, hn, rfl, rfl, rfl, Lib.hid ⟨r00, r01, ?_⟩, Lib.hid rfl⟩
    constructor
    · intro h
      rw [← HX.out]
      exact h 0 (by omega)
    · intro h j hj
      obtain rfl : j = 0 := by omega
      rw [HX.out]
      exact h
  case round =>
    obtain ⟨i, m, hi1, hi, hgk, rfl, rfl, HM, HW⟩ := hrel
    have HGK := Lib.hid hgk
    clear hgk
    obtain rfl := HW.out
    by_cases hlt : i < n
    · have hx := HC.out i hlt
      have hxr := getD_rngK (by omega) HR.out i
      obtain ⟨y, hy⟩ : ∃ y, l.getD i 0 = y := ⟨_, rfl⟩
      rw [hy] at hx hxr
      have HY := Lib.hid hy
      obtain ⟨hy0, hy1⟩ := hxr
      clear hy
      have hi0 : (0 : Int) ≤ (i : Int) := by omega
      have hin : (i : Int) < (n : Int) := by omega
      have HN : Hid (∀ z : Int, (z = m ∧ y ≤ m ∨ z = y ∧ m ≤ y) → 0 ≤ z ∧ z < 4294967296 ∧ ((∀ j, j < i + 1 → l.getD j 0 < 4294967216) ↔ z < 4294967216)) := Lib.hid fun z hz => by
        obtain ⟨h1, h2, h3⟩ := HM.out
        refine ⟨by omega, by omega, ?_⟩
        constructor
        · intro h
          have h4 := h3.1 fun j hj => h j (by omega)
          have h5 := h i (by omega)
          rw [HY.out] at h5
          omega
        · intro h j hj
          by_cases e : j = i
          · subst e
            rw [HY.out]
            omega
          · exact h3.2 (by omega) j (by omega)
      go_wp2_with fail
      all_goals go_roundg (n - (i + 1))
      all_goals first
        | (have := HGK.out; omega)
        | (refine ⟨i + 1, _, by omega, by omega, rfl, rfl, by go_num, Lib.hid (HN.out _ ?_), Lib.hid rfl⟩; omega)
    · obtain rfl : i = n := by omega
      go_wp2_with fail
      go_ret
      exact ⟨rfl, m, rfl, HM.out⟩

end Go.Proofs.YteflpbkdnebopaaGreatDoor

namespace Go.Proofs.YteflpbkdnebopaaGreatDoor
open Go.RowKit
set_option maxRecDepth 100000
set_option linter.unusedVariables false

set_option maxHeartbeats 1000000 in
theorem ovalid_any (A : Option Addr) (n c : Nat) (l : List Int) (w : World) (h : SlK .u32 w A n c l) (hr : Rng l) (hn : n ≤ 1000) :
    Calls Tryz.prog 83 #[.slice A n c] w fun e w' => e = .returned (.bool (okL l)) ∧ w = w' := by
  have hl := h.len
  have HF : Hid (∀ p : Prop, (okL l = true → p) → ¬ p → okL l = false) := Lib.hid fun p h1 h2 => by
    cases hq : okL l with
    | false => rfl
    | true => exact absurd (h1 hq) h2
  by_cases h2 : n < 2
  · have hf := HF.out (2 ≤ n) (fun hq => by have := (okL_true hq).1; omega) (by omega)
    rw [hf]
    have h2i : (n : Int) < 2 := by omega
    clear h hl HF hf h2 hr
    go_enter Tryz.func83, Tryz.ntmps83
    go_wp2
    go_ret
    exact ⟨rfl, rfl⟩
  · by_cases h20 : 20 < n
    · have hf := HF.out (n ≤ 20) (fun hq => by have := (okL_true hq).2.1; omega) (by omega)
      rw [hf]
      have h2i : ¬ (n : Int) < 2 := by omega
      have h20i : (20 : Int) < (n : Int) := by omega
      clear h hl HF hf h2 h20 hr
      go_enter Tryz.func83, Tryz.ntmps83
      go_wp2
      go_ret
      exact ⟨rfl, rfl⟩
    · obtain ⟨b, o, rfl, hc⟩ := h.cells (by omega)
      have HMx := Lib.hid (max_any b o n c l w h hr (by omega) hn)
      have c0 := hc 0 (by omega)
      have c1 := hc 1 (by omega)
      rw [Nat.add_zero] at c0
      have r0 := getD_rngK (by omega) hr 0
      have r1 := getD_rngK (by omega) hr 1
      have h2i : ¬ (n : Int) < 2 := by omega
      have h20i : ¬ (20 : Int) < (n : Int) := by omega
      have h1i : (1 : Int) < (n : Int) := by omega
      have h0i : (0 : Int) < (n : Int) := by omega
      obtain ⟨x0, hx0⟩ : ∃ x, l.getD 0 0 = x := ⟨_, rfl⟩
      obtain ⟨x1, hx1⟩ : ∃ x, l.getD 1 0 = x := ⟨_, rfl⟩
      rw [hx0] at c0 r0
      rw [hx1] at c1 r1
      have HX := Lib.hid (And.intro hx0 hx1)
      obtain ⟨r00, r01⟩ := r0
      obtain ⟨r10, r11⟩ := r1
      clear h hc hx0 hx1
      by_cases q0 : 2 < x0
      · have hf := HF.out (x0 ≤ 2) (fun hq => by have := (okL_true hq).2.2.1; rw [HX.out.1] at this; exact this) (by omega)
        rw [hf]
        clear hl HF hf hr h2 h20
        go_enter Tryz.func83, Tryz.ntmps83
        go_wp2
        go_ret
        exact ⟨rfl, rfl⟩
      · by_cases q1 : x0 < 2 ∧ 40 ≤ x1
        · obtain ⟨q1, q2⟩ := q1
          have hf := HF.out (x1 ≤ 39) (fun hq => by have := (okL_true hq).2.2.2.1; rw [HX.out.1, HX.out.2] at this; exact this q1) (by omega)
          rw [hf]
          clear hl HF hf hr h2 h20
          go_enter Tryz.func83, Tryz.ntmps83
          go_wp2
          go_ret
          exact ⟨rfl, rfl⟩
        · have HE : Hid (∀ m : Int, ((∀ j, j < n → l.getD j 0 < 4294967216) ↔ m < 4294967216) → decide (m < 4294967216) = okL l) := Lib.hid fun m hm => by
            rw [Bool.eq_iff_iff, decide_eq_true_iff]
            constructor
            · intro h
              refine decide_eq_true ?_
              rw [hl, HX.out.1, HX.out.2]
              exact ⟨by omega, by omega, by omega, by omega, fun j hj => hm.2 h j (by omega)⟩
            · intro h
              exact hm.1 fun j hj => (okL_true h).2.2.2.2 j (by omega)
          have HQ0 : Hid (x0 < 2 → ¬ 40 ≤ x1) := Lib.hid (by omega)
          clear q1 hl hr h2 h20 HF
          by_cases p1 : x0 < 2
          · have p2 : ¬ 40 ≤ x1 := HQ0.out p1
            clear HQ0
            go_enter Tryz.func83, Tryz.ntmps83
            go_wp2_with fail
            refine HMx.out.mono ?_
            rintro e w' ⟨rfl, m, rfl, hm0, hm1, hm⟩
            have HM := Lib.hid hm
            clear hm
            go_wp2_with fail
            go_ret
            exact ⟨by rw [← HE.out m HM.out]; rfl, rfl⟩
          · clear HQ0
            go_enter Tryz.func83, Tryz.ntmps83
            go_wp2_with fail
            refine HMx.out.mono ?_
            rintro e w' ⟨rfl, m, rfl, hm0, hm1, hm⟩
            have HM := Lib.hid hm
            clear hm
            go_wp2_with fail
            go_ret
            exact ⟨by rw [← HE.out m HM.out]; rfl, rfl⟩

end Go.Proofs.YteflpbkdnebopaaGreatDoor

namespace Go.Proofs.YteflpbkdnebopaaGreatDoor
open Go.RowKit
set_option linter.unusedVariables false

theorem infoStr : (Tryz.prog.info? 9).map (fun i => (i.zero, i.size)) = some (some (.string ⟨#[]⟩), 1) := by kernel_rfl
theorem bytesStr : (Tryz.prog.info? 9).map (fun i => i.bytes) = some 16 := by kernel_rfl
theorem makeS (N : Nat) (hN : N ≤ 1000000) (w : World) : (Instr.makeSlice 164 (.int .i64 (N : Int)) (.int .i64 (N : Int))).run Tryz.prog w = .ok (.slice (some ⟨w.heap.size, 0, none⟩) N N) (w.alloc (.cells (madeCells #[.string ⟨#[]⟩] N) 9)) := by
  obtain ⟨i0, hi, hz⟩ := Option.map_eq_some_iff.1 infoStr
  simp only [Prod.mk.injEq] at hz
  obtain ⟨hz0, hz1⟩ := hz
  have hb : i0.bytes = 16 := by
    have h := bytesStr
    rw [hi] at h
    simpa using h
  have h := run_make (P := Tryz.prog) w 164 9 i0 (.string ⟨#[]⟩) Tryz.underlying164 hi hz0 .i64 .i64 (N : Int) (N : Int) (by omega) (Int.le_refl _) (by rw [hb]; omega) (by omega)
  rw [hz1, Nat.mul_one, Int.toNat_natCast] at h
  exact h

/-- The digits of a number, as a string. -/
def digT (x : Int) : ByteArray := ⟨(Lib.decDigits x.toNat).toArray⟩
/-- What the loop keeps: the row of strings, of which the first i are written. -/
def TG (l : List Int) (g N i : Nat) (w wx : World) : Prop :=
  Past w wx ∧ ∃ cs : Array Value, Row wx g 9 cs ∧ cs.size = N ∧ ∀ j, j < i → cs[j]? = some (.string (digT (l.getD j 0)))
theorem TG.next {l : List Int} {g N i : Nat} {w wx w2 : World} (h : TG l g N i w wx) (hp : Past wx w2) (hg : w.heap.size ≤ g) (hi : i < N) :
    (∃ v, w2.cell? ⟨g, i, none⟩ = some v) ∧ w2.frozen? ⟨g, i, none⟩ = false ∧ TG l g N (i + 1) w (w2.setCell ⟨g, i, none⟩ (.string (digT (l.getD i 0)))) := by
  obtain ⟨h1, cs, h2, h3, h4⟩ := h
  have h5 := h2.past hp
  refine ⟨⟨cs[i], by rw [h5.cell]; exact Array.getElem?_eq_getElem (by omega)⟩, h5.fr i, (h1.trans' hp).setCell hg _, _, h5.set i _, by simpa using h3, fun j hj => ?_⟩
  rw [Array.getElem?_setIfInBounds]
  by_cases e : i = j
  · subst e
    rw [if_pos rfl, if_pos (by omega)]
  · rw [if_neg e]
    exact h4 j (by omega)

set_option maxHeartbeats 2000000 in
set_option maxRecDepth 100000 in
theorem ptext_any (A : Option Addr) (n c : Nat) (l : List Int) (w : World) (hG : Glob w) (h : SlK .u32 w A n c l) (hr : Rng l) (hn : n ≤ 1000) :
    Calls Tryz.prog 84 #[.slice A n c] w fun e w' => e = .returned (.string (textS l)) ∧ Past w w' := by
  have HV := Lib.hid (ovalid_any A n c l w h hr hn)
  cases hok : okL l with
  | false =>
    rw [textS_no hok]
    rw [hok] at HV
    clear h hr hG hok
    go_enter Tryz.func84, Tryz.ntmps84
    go_wp2_with fail
    refine HV.out.mono ?_
    rintro e w' ⟨rfl, rfl⟩
    go_wp2_with fail
    go_ret
    exact ⟨rfl, Below.refl _ _⟩
  | true =>
    have hl := h.len
    have h2 := (okL_true hok).1
    obtain ⟨b, o, rfl, hc⟩ := h.cells (by omega)
    have HC := Lib.hid hc
    have HR := Lib.hid hr
    have HG := Lib.hid hG
    have hm := makeS n (by omega)
    have HT0 : Hid (TG l w.heap.size n 0 w (w.alloc (.cells (madeCells #[.string ⟨#[]⟩] n) 9))) :=
      Lib.hid ⟨(Below.refl _ _).alloc (Nat.le_refl _) _, _, Row.new _ _ _, size_madeCells _ _, fun _ hj => absurd hj (Nat.not_lt_zero _)⟩
    have HJ := Lib.hid (fun (wx : World) (cap : Nat) (hcap : n ≤ cap) (g : Nat) (hgl : g < wx.heap.size) (hcs : ∀ (j : Nat) x, (l.map digT)[j]? = some x → wx.cell? ⟨g, 0 + j, none⟩ = some (.string x)) =>
      Tryz.strings_Join g 0 cap (l.map digT) ⟨#[46]⟩ wx hcs hgl (by rw [List.length_map]; omega) (by rw [List.length_map]; omega))
    have hj1 : (l.map digT).map (fun x => x.data.toList) = l.map fun x => Lib.decDigits x.toNat := by
      rw [List.map_map]
      rfl
    rw [List.length_map, hl, hj1] at HJ
    have hT := text_join hok
    have hTl : (Lib.join (l.map fun x => Lib.decDigits x.toNat) [46]).length ≤ 140737488355328 := by
      have h3 := congrArg ByteArray.size hT
      have h4 := tS_size hr (l.length - 1)
      have h5 : textS l = tS l (l.length - 1) := by unfold textS; rw [hok]; rfl
      have h6 := (okL_true hok).2.1
      have h7 : (⟨(Lib.join (l.map fun x => Lib.decDigits x.toNat) [46]).toArray⟩ : ByteArray).size = (Lib.join (l.map fun x => Lib.decDigits x.toNat) [46]).length := by
        show (Lib.join (l.map fun x => Lib.decDigits x.toNat) [46]).toArray.size = _
        simp
      rw [h5] at h3
      omega
    have HJ2 : Hid (∀ (wx : World) (g : Nat), g < wx.heap.size → (∀ (j : Nat) x, (l.map digT)[j]? = some x → wx.cell? ⟨g, 0 + j, none⟩ = some (.string x)) →
        Calls Tryz.prog 91 #[.slice (some ⟨g, 0, none⟩) n n, .string ⟨#[46]⟩] wx fun e w' => e = .returned (.string (textS l)) ∧ Past wx w') := Lib.hid fun wx g hg hcs => by
      have := HJ.out wx n (Nat.le_refl _) g hg hcs hTl
      rw [← hT]
      exact this
    rw [hok] at HV
    have HL := Lib.hid hl
    have hn0 : (0 : Int) ≤ (n : Int) := by omega
    clear h hr hG hok hl h2 hc HJ hj1 hT hTl
    go_enter Tryz.func84, Tryz.ntmps84
    go_wp2_with fail
    refine HV.out.mono ?_
    rintro e w' ⟨rfl, rfl⟩
    go_wp2_with fail
    go_loopg [4, 5, 14] n (fun k s4 s5 s14 wx => ∃ i : Nat, i ≤ n ∧ k = n - i ∧ s14 = .int .i64 (i : Int) ∧ Hid (TG l w.heap.size n i w wx))
    case atStart => exact ⟨0, Nat.zero_le _, rfl, rfl, HT0⟩
    case round =>
      obtain ⟨i, hi, hgk, rfl, HI⟩ := hrel
      have HGK := Lib.hid hgk
      clear hgk
      by_cases hlt : i < n
      · have hx := (HI.out.1.cell (cell_lt (HC.out i hlt))).trans (HC.out i hlt)
        have hxr := getD_rngK (by omega) HR.out i
        obtain ⟨y, hy⟩ : ∃ y, l.getD i 0 = y := ⟨_, rfl⟩
        rw [hy] at hx hxr
        have HY := Lib.hid hy
        obtain ⟨hy0, hy1⟩ := hxr
        obtain ⟨u, rfl⟩ : ∃ u : Nat, y = (u : Int) := ⟨y.toNat, by omega⟩
        clear hy
        have hi0 : (0 : Int) ≤ (i : Int) := by omega
        have hin : (i : Int) < (n : Int) := by omega
        go_wp2_with fail
        refine (fmt_any u (by omega) _ (HG.out.past HI.out.1)).mono ?_
        rintro e w2 ⟨rfl, hp⟩
        obtain ⟨⟨v0, hv0⟩, hf0, hI2⟩ := HI.out.next hp (Nat.le_refl _) hlt
        rw [HY.out] at hI2
        have HI2 : Hid (TG l w.heap.size n (i + 1) w (w2.setCell ⟨w.heap.size, i, none⟩ (.string ⟨(Lib.decDigits u).toArray⟩))) := Lib.hid hI2
        clear hp hI2
        go_wp2_with fail
        go_roundg (n - (i + 1))
        case rel => exact ⟨i + 1, by omega, rfl, by go_num, HI2⟩
        case measure => have := HGK.out; omega
      · obtain rfl : i = n := by omega
        obtain ⟨hp, cs, hrow, hsz, hcs⟩ := HI.out
        have hJ := HJ2.out _ w.heap.size hrow.lt (fun j x hx => by
          rw [List.getElem?_map] at hx
          cases hlj : l[j]? with
          | none => rw [hlj] at hx; cases hx
          | some y =>
            rw [hlj] at hx
            obtain rfl : digT y = x := by simpa using hx
            have hj : j < i := by
              have := (List.getElem?_eq_some_iff.1 hlj).1
              rw [HL.out] at this
              exact this
            rw [Nat.zero_add, hrow.cell j, hcs j hj, List.getD_eq_getElem?_getD, hlj]
            rfl)
        have HJ3 := Lib.hid hJ
        have HP := Lib.hid hp
        clear hJ hp hrow hsz hcs
        go_wp2_with fail
        refine HJ3.out.mono ?_
        rintro e w2 ⟨rfl, hp2⟩
        have HP2 := Lib.hid (HP.out.trans' hp2)
        clear hp2
        go_wp2_with fail
        go_ret
        exact ⟨rfl, HP2.out⟩

end Go.Proofs.YteflpbkdnebopaaGreatDoor

namespace Go.Proofs.YteflpbkdnebopaaGreatDoor
open Go.RowKit
set_option linter.unusedVariables false

theorem pu_ok (p : ByteArray) (hs : p.size ≤ 2000) (w : World) (u : Nat) (h : Lib.parseUintB 32 p.data.toList = .ok u) :
    Calls Tryz.prog 82 #[.string p, .int .i64 10, .int .i64 32] w fun e w' => e = .returned (.tuple #[.int .u64 (u : Int), .nilIface]) ∧ Past w w' := by
  refine (Tryz.strconv_ParseUint_10_at32_ok p (by omega) u h w).mono ?_
  rintro e w' ⟨rfl, h⟩
  refine ⟨rfl, ?_⟩
  rcases h with rfl | rfl
  · exact Below.refl _ _
  · refine ⟨rfl, rfl, rfl, by rw [Lib.bytesWorld_size]; omega, fun i hi => Lib.bytesWorld_at_old _ _ _ _ hi⟩
theorem pu_err (p : ByteArray) (hs : p.size ≤ 2000) (w : World) (hG : Glob w) (h : ∀ u, Lib.parseUintB 32 p.data.toList ≠ .ok u) :
    Calls Tryz.prog 82 #[.string p, .int .i64 10, .int .i64 32] w fun e w' => ∃ (x : Int) (N : Nat), e = .returned (.tuple #[.int .u64 x, .iface 181 (.pointer (some ⟨N, 0, none⟩))]) ∧ Past w w' := by
  have hc : ∀ e : Lib.NumEnd Nat, (∃ u, e = .ok u) ∨ e = Lib.parseUintB 32 [] ∨ e = .range := by
    intro e
    cases e <;> first | exact .inl ⟨_, rfl⟩ | exact .inr (.inl rfl) | exact .inr (.inr rfl)
  rcases hc (Lib.parseUintB 32 p.data.toList) with ⟨u, hq⟩ | hq | hq
  · exact absurd hq (h u)
  · obtain ⟨tp, q, hv⟩ := hG.syn
    refine (Tryz.strconv_ParseUint_10_at32_syntax_var p (by omega) hq tp q w hv).mono ?_
    rintro e w' ⟨N, rfl, _, _, hp⟩
    exact ⟨0, N, rfl, hp⟩
  · obtain ⟨tp, q, hv⟩ := hG.ran
    refine (Tryz.strconv_ParseUint_10_at32_range_var p (by omega) hq tp q w hv).mono ?_
    rintro e w' ⟨N, rfl, _, _, hp⟩
    exact ⟨4294967295, N, rfl, hp⟩

theorem piece_size (s : ByteArray) : ∀ (k : Nat) (s : ByteArray), ∀ p ∈ Lib.splitB ⟨#[46]⟩ 0 k s, p.size ≤ s.size
  | 0, s, p, hp => by
    obtain rfl : p = s := by simpa [Lib.splitB] using hp
    exact Nat.le_refl _
  | k + 1, s, p, hp => by
    unfold Lib.splitB at hp
    split at hp
    · obtain rfl : p = s := by simpa using hp
      exact Nat.le_refl _
    · rcases List.mem_cons.1 hp with rfl | hp
      · rw [ByteArray.size_extract]
        omega
      · refine Nat.le_trans (piece_size s k _ p hp) ?_
        rw [ByteArray.size_extract]
        omega

/-- The numbers that the first pieces spell. -/
def PG9 (s : ByteArray) (l : List Int) : Prop := Rng l ∧ ∀ j p, j < l.length → (pieces s)[j]? = some p → Lib.parseUintB 32 p.data.toList = .ok (l.getD j 0).toNat
theorem PG9.fail {s : ByteArray} {i : Nat} {p : ByteArray} (hp : (pieces s)[i]? = some p) (h : ∀ u, Lib.parseUintB 32 p.data.toList ≠ .ok u) : parseL (ints s) = none := by
  cases hq : parseL (ints s) with
  | none => rfl
  | some l => exact absurd (parse_piece hq i p hp) (h _)
theorem PG9.next {s : ByteArray} {l : List Int} {p : ByteArray} {u : Nat} (h : PG9 s l) (hp : (pieces s)[l.length]? = some p) (hu : Lib.parseUintB 32 p.data.toList = .ok u) : PG9 s (l ++ [(u : Int)]) := by
  have hb := Lib.parseUintB_le hu
  refine ⟨fun x hx => ?_, fun j q hj hq => ?_⟩
  · rcases List.mem_append.1 hx with hx | hx
    · exact h.1 x hx
    · obtain rfl : x = (u : Int) := by simpa using hx
      omega
  · by_cases e : j < l.length
    · rw [getD_app_left e]
      exact h.2 j q e hq
    · obtain rfl : j = l.length := by
        rw [List.length_append] at hj
        simp at hj
        omega
      rw [hp] at hq
      obtain rfl := Option.some.inj hq
      rw [getD_app_right (Nat.le_refl _), hu]
      simp
theorem PG9.done {s : ByteArray} {l : List Int} (h : PG9 s l) (hl : l.length = (pieces s).length) : parseL (ints s) = if okL l = true ∧ textS l = s then some l else none := by
  have key : ∀ l', parseL (ints s) = some l' → l = l' := fun l' hq => by
    have h1 := parse_len hq
    have h2 := (parse_text hq).2.2
    refine List.ext_getElem (by omega) fun i hi hi2 => ?_
    have hip : i < (pieces s).length := by omega
    have h3 := h.2 i _ hi (List.getElem?_eq_getElem hip)
    have h4 := parse_piece hq i _ (List.getElem?_eq_getElem hip)
    rw [h3] at h4
    have h5 : (l.getD i 0).toNat = (l'.getD i 0).toNat := by simpa using h4
    have h6 := getD_rngK (by omega) h.1 i
    have h7 := getD_rngK (by omega) h2 i
    have h8 : l.getD i 0 = l'.getD i 0 := by omega
    simpa [List.getD, hi, hi2] using h8
  split
  · rename_i hc
    rw [← hc.2]
    exact text_parse hc.1 h.1
  · rename_i hc
    cases hq : parseL (ints s) with
    | none => rfl
    | some l' =>
      obtain rfl := key l' hq
      exact absurd ⟨(parse_text hq).2.1, (parse_text hq).1⟩ hc
theorem POptK.none' {w w' : World} (h : Past w w') : POptK none w (.returned (.tuple #[.slice none 0 0, .bool false])) w' := ⟨none, 0, rfl, SlK.nil _ _, h⟩
theorem POptK.some' {w w' : World} {A : Option Addr} {n c : Nat} {xs : List Int} (hn : xs.length = n) (h1 : SlK .u32 w' A n c xs) (h : Past w w') : POptK (some xs) w (.returned (.tuple #[.slice A n c, .bool true])) w' := by
  subst hn
  exact ⟨A, c, rfl, h1, h⟩
theorem str_ne {a b : ByteArray} (h : a ≠ b) : (a.toList != b.toList) = true := by
  rw [bne_iff_ne]
  intro e
  rw [ByteArray.toList_eq, ByteArray.toList_eq] at e
  refine h ?_
  cases a
  cases b
  simp only at e
  rw [Array.toList_inj.1 e]
theorem str_self (T : ByteArray) : (T.toList != T.toList) = false := by simp
theorem cellsOf_at {ps : List ByteArray} {N i : Nat} {p : ByteArray} (h : ps[i]? = some p) : (Lib.cellsOf ps N)[i]? = some (.string p) := by
  obtain ⟨hi, rfl⟩ := List.getElem?_eq_some_iff.1 h
  simp [Lib.cellsOf, hi, List.getElem?_append_left]

set_option maxHeartbeats 4000000 in
set_option maxRecDepth 100000 in
theorem pparse_any (s : ByteArray) (w : World) (hG : Glob w) (hs : s.size ≤ 1000) :
    Calls Tryz.prog 71 #[.string s] w (POptK (parseL (ints s)) w) := by
  obtain ⟨i32, hi32, hz32, hs32, hb32⟩ := info_parts info32
  have hps := pieces_len s
  have hsz : ∀ p ∈ pieces s, p.size ≤ 2000 := fun p hp => Nat.le_trans (piece_size s _ s p hp) (by omega)
  obtain ⟨m, hm⟩ := hG.mx
  have hsp : Calls Tryz.prog 81 #[.string s, .string ⟨#[46]⟩, .int .i64 21] w fun e w' => e = .returned (.slice (some ⟨w.heap.size, 0, none⟩) (pieces s).length (min 21 (s.size + 1))) ∧ w' = w.alloc (.cells (Lib.cellsOf (pieces s) (min 21 (s.size + 1))) 9) :=
    Tryz.strings_SplitN s ⟨#[46]⟩ 21 m w (by omega) hm (by decide) (by decide) (by decide)
  have HSP := Lib.hid hsp
  have HZ := Lib.hid hsz
  have HG := Lib.hid (hG.past ((Below.refl _ w).alloc (Nat.le_refl _) (.cells (Lib.cellsOf (pieces s) (min 21 (s.size + 1))) 9)))
  have HP0 := Lib.hid ((Below.refl _ w).alloc (Nat.le_refl _) (.cells (Lib.cellsOf (pieces s) (min 21 (s.size + 1))) 9))
  have HRow := Lib.hid (Row.new w 9 (Lib.cellsOf (pieces s) (min 21 (s.size + 1))))
  have HW1 : Hid ((w.alloc (.cells (Lib.cellsOf (pieces s) (min 21 (s.size + 1))) 9)).heap.size = w.heap.size + 1) := Lib.hid (by simp)
  clear hsp hsz hG hm
  generalize hNP : (pieces s).length = NP at *
  have HNP := Lib.hid hNP
  clear hNP
  go_enter Tryz.func71, Tryz.ntmps71
  go_wp2_with fail
  refine HSP.out.mono ?_
  rintro e w1 ⟨rfl, hw1⟩
  rw [← hw1] at HG HP0 HRow HW1
  have HO0 : Hid (w1.ownsRow w1.heap.size 22 1 (.slice none 0 0) 0 (([] : List Int).map (Value.int .u32)) ∧ Past w1 w1) := Lib.hid ⟨World.ownsRow_nil _ _ _ _, Below.refl _ _⟩
  clear hw1 HSP HW1
  go_wp2_with fail
  go_loopg [4, 6, 7, 8, 12] NP (fun k s4 s6 s7 s8 s12 wx => ∃ (i c : Nat) (A : Option Addr) (l : List Int), i ≤ NP ∧ k = NP - i ∧ s4 = .slice A i c ∧ s12 = .int .i64 (i : Int) ∧ Hid (l.length = i ∧ PG9 s l) ∧ Hid (wx.ownsRow w1.heap.size 22 1 (.slice A i c) i (l.map (Value.int .u32)) ∧ Past w1 wx))
  case atStart => exact ⟨0, 0, none, [], Nat.zero_le _, rfl, rfl, rfl, Lib.hid ⟨rfl, by unfold PG9 Rng; simp⟩, HO0⟩
  case round =>
    clear HO0
    obtain ⟨i, c, A, l, hi, hgk, rfl, rfl, HL, HO⟩ := hrel
    have HGK := Lib.hid hgk
    clear hgk
    by_cases hlt : i < NP
    · obtain ⟨p, hp⟩ : ∃ p, (pieces s)[i]? = some p := ⟨_, List.getElem?_eq_getElem (by rw [HNP.out]; exact hlt)⟩
      have hc : wr.cell? ⟨w.heap.size, i, none⟩ = some (.string p) := by
        rw [(HRow.out.past HO.out.2).cell i]
        exact cellsOf_at hp
      have hpz : p.size ≤ 2000 := HZ.out p (List.mem_of_getElem? hp)
      have HP := Lib.hid hp
      have hi0 : (0 : Int) ≤ (i : Int) := by omega
      have hin : (i : Int) < (NP : Int) := by omega
      clear hp
      by_cases hu : ∃ u, Lib.parseUintB 32 p.data.toList = .ok u
      · obtain ⟨u, hu⟩ := hu
        have hub := Lib.parseUintB_le hu
        have HPU := Lib.hid (fun w => pu_ok p hpz w u hu)
        have HPG : Hid (PG9 s (l ++ [(u : Int)])) := Lib.hid (HL.out.2.next (by rw [HL.out.1]; exact HP.out) hu)
        have hu0 : (0 : Int) ≤ (u : Int) := by omega
        have hu1 : (u : Int) < 4294967296 := by omega
        have hwv : (u : Int) % 4294967296 = (u : Int) := Int.emod_eq_of_lt hu0 hu1
        clear hu hub hpz
        go_wp2_with fail
        refine (HPU.out _).mono ?_
        rintro e w2 ⟨rfl, hp2⟩
        have HO1 : Hid (w2.ownsRow w1.heap.size 22 1 (.slice A i c) i (l.map (Value.int .u32)) ∧ Past w1 w2) := Lib.hid ⟨HO.out.1.kept (only_of_past hp2 none) (by cases (Value.slice A i c).ownBlock <;> simp), HO.out.2.trans' hp2⟩
        clear hp2 HPU hc
        go_wp2_with (at_builtin; refine wpList_append_own _ rfl _ _ 67 rfl w1.heap.size 22 i32 (.int .u32 0) 1 4 Tryz.underlying67 hi32 hz32 hs32 hb32 rfl (by decide) _ i _ rfl (HO1.out.1.alloc _) ⟨w2.heap.size, 0, none⟩ 1 1 [.int .u32 (u : Int)] rfl rfl ?c1 ?c2 ?c3 ?c4 ?c5 ?_)
        case c1 =>
          intro j v hj
          cases j with
          | zero =>
            simp at hj
            subst hj
            rw [add_none, World.cell?_alloc_new]
            rfl
          | succ j => simp at hj
        case c2 => simp [Value.oneCell']
        case c3 => unfold maxLen; omega
        case c4 => omega
        case c5 => exact Nat.le_trans HO1.out.2.size (by simp)
        intro v' w3 hown1 hgrow1 _
        obtain ⟨B3, d3, rfl⟩ := own_slice hown1
        have HO2 : Hid (w3.ownsRow w1.heap.size 22 1 (.slice B3 (i + 1) d3) (i + 1) ((l ++ [(u : Int)]).map (Value.int .u32)) ∧ Past w1 w3) := Lib.hid (by
          rw [List.map_append]
          exact ⟨hown1, (HO1.out.2.trans' ((Below.refl _ _).alloc (Nat.le_refl _) _)).grown hgrow1 (Nat.le_trans HO1.out.2.size (by simp)) (own_block_ge HO1.out.1)⟩)
        have HL2 : Hid ((l ++ [(u : Int)]).length = i + 1 ∧ PG9 s (l ++ [(u : Int)])) := Lib.hid ⟨by rw [List.length_append, HL.out.1]; rfl, HPG.out⟩
        clear hown1 hgrow1 HO HO1
        go_wp2_with fail
        go_roundg (NP - (i + 1))
        case rel => exact ⟨i + 1, d3, B3, l ++ [(u : Int)], by omega, rfl, rfl, by go_num, HL2, HO2⟩
        case measure => have := HGK.out; omega
      · have HPU := Lib.hid (fun w hG => pu_err p hpz w hG (fun u e => hu ⟨u, e⟩))
        have HNO : Hid (parseL (ints s) = none) := Lib.hid (PG9.fail HP.out (fun u e => hu ⟨u, e⟩))
        clear hu hpz
        go_wp2_with fail
        refine (HPU.out _ (HG.out.past HO.out.2)).mono ?_
        rintro e w2 ⟨x, N, rfl, hp2⟩
        have HE : Hid (Past w w2) := Lib.hid ((Past.trans' HP0.out HO.out.2).trans' hp2)
        clear hp2 HPU hc
        go_wp2_with fail
        go_ret2
        rw [HNO.out]
        exact POptK.none' HE.out
    · obtain rfl : i = NP := by omega
      have HS := Lib.hid (slK_of_own HO.out.1)
      have HPR := Lib.hid (HL.out.2.done (HL.out.1.trans HNP.out.symm))
      have HV := Lib.hid (ovalid_any A i c l wr HS.out HL.out.2.1 (by omega))
      have HT := Lib.hid (ptext_any A i c l wr (HG.out.past HO.out.2) HS.out HL.out.2.1 (by omega))
      have HE : Hid (Past w wr) := Lib.hid (Past.trans' HP0.out HO.out.2)
      generalize hq : okL l = q at *
      have HQ := Lib.hid hq
      clear hq
      cases q with
      | false =>
        go_wp2_with fail
        refine HV.out.mono ?_
        rintro e w2 ⟨rfl, rfl⟩
        go_wp2_with fail
        go_ret2
        rw [HPR.out, if_neg (by simp)]
        exact POptK.none' HE.out
      | true =>
        generalize hT : textS l = T at *
        by_cases hTs : T = s
        · have hb : (T.toList == s.toList) = true := by rw [hTs]; simp
          have HTS := Lib.hid hTs
          clear hTs
          go_wp2_with fail
          refine HV.out.mono ?_
          rintro e w2 ⟨rfl, rfl⟩
          go_wp2_with fail
          refine HT.out.mono ?_
          rintro e w2 ⟨rfl, hp2⟩
          have HE2 := Lib.hid (And.intro (HE.out.trans' hp2) (HS.out.past hp2))
          clear hp2
          go_wp2_with fail
          go_ret2
          rw [HPR.out, if_pos (by exact ⟨by trivial, HTS.out⟩)]
          exact POptK.some' HL.out.1 HE2.out.2 HE2.out.1
        · have hb : (T.toList == s.toList) = false := by have := str_ne hTs; simpa using this
          have HTS := Lib.hid hTs
          clear hTs
          go_wp2_with fail
          refine HV.out.mono ?_
          rintro e w2 ⟨rfl, rfl⟩
          go_wp2_with fail
          refine HT.out.mono ?_
          rintro e w2 ⟨rfl, hp2⟩
          have HE2 := Lib.hid (HE.out.trans' hp2)
          clear hp2
          go_wp2_with fail
          go_ret2
          rw [HPR.out, if_neg (fun h => HTS.out h.2)]
          exact POptK.none' HE2.out

end Go.Proofs.YteflpbkdnebopaaGreatDoor
