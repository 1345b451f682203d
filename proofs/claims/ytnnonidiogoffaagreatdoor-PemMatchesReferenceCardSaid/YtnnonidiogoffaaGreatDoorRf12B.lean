/- The reference's Text. -/
import Derived.Test.YtnnonidiogoffaaGreatDoorRf12A
import Derived.Laws.Concat
namespace Go.Proofs.YtnnonidiogoffaaGreatDoor
open Go.RowKit
set_option linter.unusedVariables false

theorem tsz (l : List Int) : (txt l).size = l.length := by
  show (Lib.bytesOf l).toArray.size = _
  simp [Lib.bytesOf]
theorem ints_rngs (s : ByteArray) : ∀ x ∈ ints s, 0 ≤ x ∧ x < 256 := by
  intro x hx
  obtain ⟨j, hj, rfl⟩ := List.getElem_of_mem hx
  have := ints_rng s j
  rwa [List.getD_eq_getElem?_getD, List.getElem?_eq_getElem hj] at this
theorem ints_eq {s t : ByteArray} (h : ints s = ints t) : s = t := by
  have h1 : s.data.toList = t.data.toList := by
    have := congrArg (List.map fun x : Int => x.toNat.toUInt8) h
    unfold ints at this
    rw [List.map_map, List.map_map] at this
    have e : ((fun x : Int => x.toNat.toUInt8) ∘ fun b : UInt8 => (b.toNat : Int)) = id := by
      funext b
      simp
    rw [e, List.map_id, List.map_id] at this
    exact this
  cases s with
  | mk a => cases t with
    | mk b =>
      have : a = b := Array.toList_inj.1 h1
      rw [this]
theorem txt_of_ints (s : ByteArray) : txt (ints s) = s := ints_eq (ints_txt (ints_rngs s))
theorem ints_cat (a b : ByteArray) : ints (a ++ b) = ints a ++ ints b := by simp [ints]
theorem ints_ext (s : ByteArray) (a b : Nat) : ints (s.extract a b) = ((ints s).take b).drop a := by
  unfold ints
  rw [ByteArray.data_extract, Array.toList_extract, List.extract_eq_take_drop, ← List.map_take, ← List.map_drop, ← List.drop_take]
/-- Strings joined, told by their bytes. -/
theorem str_cat {P : Program} (a b : ByteArray) (c : List Int) (h : ints a ++ ints b = c) (hz : a.size + b.size ≤ 9223372036854775807) (w : World) : (Op.stringOp .add a b).run P w = .ok (.string (txt c)) w := by
  have e : a ++ b = txt c := by rw [← h, ← ints_cat, txt_of_ints]
  rw [run_string_add_sum w a b hz, e]
theorem strsl (s : ByteArray) (l b : Nat) (L H : Int) (h0 : 0 ≤ L) (h1 : L ≤ H) (h2 : H ≤ (s.size : Int)) (hl : L.toNat = l) (hb : H.toNat = b) (w : World) :
    (Instr.slice 9 (.string s) (some (.int .i64 L)) (some (.int .i64 H)) none).run Tryz.prog w = .ok (.string (s.extract l b)) w := by
  rw [run_slice_string w 9 s .i64 .i64 L H Tryz.underlying9 h0 h1 h2, hl, hb]
theorem strslAt (s : ByteArray) (l b : Nat) (L H : Int) (h0 : 0 ≤ L) (h1 : L ≤ H) (h2 : H ≤ (s.size : Int)) (hl : L.toNat = l) (hb : H.toNat = b) (w : World) :
    (Instr.sliceAt 9 (.string s) (some (.int .i64 L)) (some (.int .i64 H)) none).run Tryz.prog w = .ok (.string (s.extract l b)) w := by
  rw [run_sliceAt_string w 9 _ _ _ _ Tryz.underlying9]
  exact strsl s l b L H h0 h1 h2 hl hb w

def rtextL (lab ys : List Int) : List Int := if labB lab = true ∧ ys ≠ [] then armL lab ys else []
/-- What stands of an armour behind i lines of digits. -/
def armTo (lab d : List Int) (i : Nat) : List Int := begL lab ++ 10 :: txtL ((chkL d).take i)
theorem chk_len (d : List Int) : (chkL d).length = nchk d.length := by simp [chkL]
theorem chk_at {d : List Int} {i : Nat} (h : 64 * i < d.length) : (chkL d)[i]? = some ((d.drop (64 * i)).take 64) := by
  unfold chkL
  rw [List.getElem?_map, List.getElem?_range (by unfold nchk; omega)]
  rfl
theorem armTo_zero (lab d : List Int) : armTo lab d 0 = begL lab ++ [10] := rfl
theorem armTo_succ (lab : List Int) {d : List Int} {i : Nat} (h : 64 * i < d.length) : armTo lab d (i + 1) = armTo lab d i ++ ((d.drop (64 * i)).take 64 ++ [10]) := by
  unfold armTo
  rw [List.take_add_one, chk_at h, Option.toList_some, txtL_app, txtL_cons, List.append_assoc]
  simp [txtL]
theorem armTo_end (lab ys : List Int) {i : Nat} (h : (renc 1 ys ys.length).length ≤ 64 * i) : armTo lab (renc 1 ys ys.length) i ++ (endL lab ++ [10]) = armL lab ys := by
  unfold armTo armL armLs
  rw [List.take_of_length_le (by rw [chk_len]; unfold nchk; omega), txtL_cons, txtL_app, txtL_cons]
  simp [txtL]
theorem armTo_len (lab d : List Int) (i : Nat) (h : 64 * i < d.length + 64) : (armTo lab d i).length ≤ lab.length + 65 * i + 17 := by
  induction i with
  | zero => rw [armTo_zero]; simp [begL, hyL]
  | succ i ih =>
    rw [armTo_succ lab (by omega)]
    have := ih (by omega)
    simp only [List.length_append, List.length_take, List.length_drop, List.length_cons, List.length_nil]
    omega
theorem beg_txt (lab : List Int) : begL lab ++ [10] = ([45, 45, 45, 45, 45, 66, 69, 71, 73, 78, 32] ++ lab) ++ [45, 45, 45, 45, 45, 10] := by simp [begL, hyL]
theorem end_txt (lab : List Int) : endL lab ++ [10] = ([45, 45, 45, 45, 45, 69, 78, 68, 32] ++ lab) ++ [45, 45, 45, 45, 45, 10] := by simp [endL, hyL]
theorem rlen1 (ys : List Int) : (renc 1 ys ys.length).length = (ys.length + 2) / 3 * 4 := by rw [renc_len (by decide)]; rfl

set_option maxRecDepth 100000 in
set_option maxHeartbeats 4000000 in
theorem rtext_any (s : ByteArray) (A : Option Addr) (n c : Nat) (ys : List Int) (w : World) (hS : Sl w A n c ys) (hn : n ≤ 100000) (hs : s.size ≤ 1000000) :
    Calls Tryz.prog 14 #[.string s, .slice A n c] w fun e w' => e = .returned (.string (txt (rtextL (ints s) ys))) ∧ Past w w' := by
  have HLB := Lib.hid (fun w => rlabel_any s w hs)
  have HEN := Lib.hid (rencode_any 1 A n c ys w hS hn)
  have HL := Lib.hid hS.len
  have hbig : (n : Int) ≤ 100000 := by omega
  have HN := Lib.hid hn
  have HZ := Lib.hid hs
  have HZI : Hid ((ints s).length = s.size) := Lib.hid (ints_len s)
  clear hS hn hs
  obtain ⟨lab, hlab⟩ : ∃ lab, ints s = lab := ⟨_, rfl⟩
  rw [hlab] at HLB HZI ⊢
  cases hb : labB lab with
  | false =>
    rw [hb] at HLB
    have HR : Hid (txt (rtextL lab ys) = ⟨#[]⟩) := Lib.hid (by unfold rtextL; rw [if_neg (by rw [hb]; rintro ⟨h, _⟩; cases h)]; rfl)
    clear hb
    go_enter Tryz.func14, Tryz.ntmps14
    go_wp2_with fail
    refine (HLB.out _).mono ?_
    rintro e w1 ⟨rfl, rfl⟩
    go_wp2_with fail
    go_ret
    exact ⟨congrArg (fun b => Ending.returned (Value.string b)) HR.out.symm, Below.refl _ _⟩
  | true =>
    rw [hb] at HLB
    by_cases h0 : n = 0
    · subst h0
      have HR : Hid (txt (rtextL lab ys) = ⟨#[]⟩) := Lib.hid (by unfold rtextL; rw [if_neg (by rintro ⟨_, h⟩; exact h (List.length_eq_zero_iff.1 HL.out))]; rfl)
      clear hb
      go_enter Tryz.func14, Tryz.ntmps14
      go_wp2_with fail
      refine (HLB.out _).mono ?_
      rintro e w1 ⟨rfl, rfl⟩
      go_wp2_with fail
      go_ret
      exact ⟨congrArg (fun b => Ending.returned (Value.string b)) HR.out.symm, Below.refl _ _⟩
    · have h0b : ((n : Int) == 0) = false := by simp; omega
      have HR : Hid (rtextL lab ys = armL lab ys) := Lib.hid (by unfold rtextL; rw [if_pos ⟨hb, fun e => h0 (by rw [← HL.out, e]; rfl)⟩])
      rw [HR.out]
      obtain ⟨d, hd⟩ : ∃ d, renc 1 ys n = d := ⟨_, rfl⟩
      have HDE : Hid (renc 1 ys ys.length = d) := Lib.hid (by rw [HL.out]; exact hd)
      have hdl : d.length ≤ 200000 := by rw [← HDE.out, rlen1, HL.out]; have := HN.out; omega
      have HDL := Lib.hid hdl
      have hdi : (d.length : Int) ≤ 200000 := by omega
      rw [hd] at HEN
      have HT := Lib.hid (tsz d)
      have HDR : Hid (∀ x ∈ d, 0 ≤ x ∧ x < 256) := Lib.hid (by rw [← HDE.out]; exact renc_rng _ _ _)
      obtain ⟨D, hD⟩ : ∃ D, txt d = D := ⟨_, rfl⟩
      rw [hD] at HEN HT
      have HDI : Hid (ints D = d) := Lib.hid (by rw [← hD, ints_txt HDR.out])
      have ha1 := fun w : World => str_cat (P := Tryz.prog) ⟨#[45, 45, 45, 45, 45, 66, 69, 71, 73, 78, 32]⟩ s ([45, 45, 45, 45, 45, 66, 69, 71, 73, 78, 32] ++ lab) (by rw [hlab]; rfl) (by show 11 + s.size ≤ _; have := HZ.out; omega) w
      have hz1 : (txt ([45, 45, 45, 45, 45, 66, 69, 71, 73, 78, 32] ++ lab)).size ≤ 1000011 := by rw [tsz]; simp only [List.length_append, List.length_cons, List.length_nil]; have := HZ.out; have := HZI.out; omega
      have hi1 : ints (txt ([45, 45, 45, 45, 45, 66, 69, 71, 73, 78, 32] ++ lab)) = [45, 45, 45, 45, 45, 66, 69, 71, 73, 78, 32] ++ lab := ints_txt (by
        intro x hx
        rcases List.mem_append.1 hx with hx | hx
        · simp at hx; omega
        · exact ints_rngs s x (by rw [hlab]; exact hx))
      obtain ⟨B1, hB1⟩ : ∃ B1, txt ([45, 45, 45, 45, 45, 66, 69, 71, 73, 78, 32] ++ lab) = B1 := ⟨_, rfl⟩
      rw [hB1] at ha1 hz1 hi1
      have ha2 := fun w : World => str_cat (P := Tryz.prog) B1 ⟨#[45, 45, 45, 45, 45, 10]⟩ (armTo lab d 0) (by rw [hi1, armTo_zero, beg_txt]; rfl) (by show B1.size + 6 ≤ _; omega) w
      have HLR : Hid (∀ x ∈ lab, 0 ≤ x ∧ x < 256) := Lib.hid (by rw [← hlab]; exact ints_rngs s)
      have HAR : Hid (∀ i, ∀ x ∈ armTo lab d i, 0 ≤ x ∧ x < 256) := Lib.hid (by
        intro i x hx
        unfold armTo at hx
        rcases List.mem_append.1 hx with hx | hx
        · unfold begL hyL at hx
          simp only [List.mem_append, List.mem_cons, List.not_mem_nil, or_false] at hx
          rcases hx with h | h | h
          · omega
          · exact HLR.out x h
          · omega
        · rcases List.mem_cons.1 hx with rfl | hx
          · omega
          · obtain ⟨p, hp, hx⟩ := List.mem_flatMap.1 hx
            rcases List.mem_append.1 hx with hx | hx
            · exact HDR.out x (chk_mem (List.mem_of_mem_take hp) x hx)
            · simp at hx; omega)
      have HLA := Lib.hid hlab
      have HDD := Lib.hid hD
      clear hb h0 hd hdl hD hB1 hz1 hi1 hlab
      go_enter Tryz.func14, Tryz.ntmps14
      go_wp2_with fail
      refine (HLB.out _).mono ?_
      rintro e w1 ⟨rfl, rfl⟩
      go_wp2_with fail
      refine (HEN.out).mono ?_
      rintro e w2 ⟨rfl, hp2⟩
      have HP := Lib.hid hp2
      clear hp2 ha1 ha2
      go_wp2_with fail
      go_loopg [5, 7] (d.length + 64) (fun q s5 s7 wx => ∃ j i : Nat, i = 64 * j ∧ i < d.length + 64 ∧ q = d.length + 64 - i ∧ s5 = .string (txt (armTo lab d j)) ∧ s7 = .int .i64 (i : Int) ∧ w2 = wx)
      case atStart => exact ⟨0, 0, rfl, by omega, rfl, rfl, rfl, rfl⟩
      case round =>
        obtain ⟨j, i, hij, hi, hgk, rfl, rfl, rfl⟩ := hrel
        have HIJ := Lib.hid hij
        have HI := Lib.hid hi
        have HGK := Lib.hid hgk
        have hii : (i : Int) ≤ 300000 := by have := HDL.out; omega
        have hi0 : (0 : Int) ≤ (i : Int) := by omega
        have hsz : (txt (armTo lab d j)).size ≤ 2000000 := by
          rw [tsz]
          have := armTo_len lab d j (by omega)
          have := HZ.out
          have := HZI.out
          have := HDL.out
          omega
        have hin : ints (txt (armTo lab d j)) = armTo lab d j := ints_txt (HAR.out j)
        clear hij hi hgk
        by_cases hlt : i < d.length
        · have hli : (i : Int) < (D.size : Int) := by rw [HT.out]; omega
          have HLT := Lib.hid hlt
          obtain ⟨e, he⟩ : ∃ e, min (i + 64) d.length = e := ⟨_, rfl⟩
          have hxi : ints (D.extract i e) = (d.drop (64 * j)).take 64 := by
            rw [ints_ext, HDI.out, ← HIJ.out, List.drop_take]
            rcases Nat.le_total (i + 64) d.length with h | h
            · rw [show e - i = 64 by omega]
            · rw [List.take_of_length_le (by rw [List.length_drop]; omega), List.take_of_length_le (by rw [List.length_drop]; omega)]
          have hxz : (D.extract i e).size ≤ 64 := by
            rw [← ints_len, hxi, List.length_take]
            omega
          by_cases h64 : i + 64 ≤ d.length
          · have hmn : (i : Int) + 64 ≤ (D.size : Int) := by rw [HT.out]; omega
            have hsl := strsl D i e (i : Int) ((i : Int) + 64) hi0 (by rw [HT.out] at *; omega) (by rw [HT.out] at *; omega) (by omega) (by rw [HT.out] at *; omega)
            have hslA := strslAt D i e (i : Int) ((i : Int) + 64) hi0 (by rw [HT.out] at *; omega) (by rw [HT.out] at *; omega) (by omega) (by rw [HT.out] at *; omega)
            have hT : armTo lab d (j + 1) = (armTo lab d j ++ (d.drop (64 * j)).take 64) ++ [10] := by rw [armTo_succ lab (by have := HIJ.out; omega), List.append_assoc]
            have hr1 : ∀ x ∈ armTo lab d j ++ (d.drop (64 * j)).take 64, 0 ≤ x ∧ x < 256 := fun x hx => HAR.out (j + 1) x (by rw [hT]; exact List.mem_append.2 (.inl hx))
            obtain ⟨S, hS⟩ : ∃ S, txt (armTo lab d j) = S := ⟨_, rfl⟩
            rw [hS] at hsz hin ⊢
            obtain ⟨q, hq⟩ : ∃ q, D.extract i e = q := ⟨_, rfl⟩
            rw [hq] at hsl hslA hxi hxz
            have hb1 := fun w : World => str_cat (P := Tryz.prog) S q (armTo lab d j ++ (d.drop (64 * j)).take 64) (by rw [hin, hxi]) (by omega) w
            have hz2 : (txt (armTo lab d j ++ (d.drop (64 * j)).take 64)).size ≤ 2000064 := by
              rw [tsz, List.length_append, ← hin, ← hxi, ints_len, ints_len]
              omega
            have hi2 := ints_txt hr1
            obtain ⟨S1, hS1⟩ : ∃ S1, txt (armTo lab d j ++ (d.drop (64 * j)).take 64) = S1 := ⟨_, rfl⟩
            rw [hS1] at hb1 hz2 hi2
            have hb2 := fun w : World => str_cat (P := Tryz.prog) S1 ⟨#[10]⟩ (armTo lab d (j + 1)) (by rw [hi2, hT]; rfl) (by show S1.size + 1 ≤ _; omega) w
            clear h64 hS hq hS1 hT hr1 hxi hxz hin hsz hz2 hi2 hlt he hdi
            go_wp2_with fail
            go_roundg (d.length + 64 - (i + 64))
            case rel => exact ⟨j + 1, i + 64, by have := HIJ.out; omega, by have := HLT.out; omega, rfl, rfl, by go_num, rfl⟩
            case measure => have := HGK.out; have := HLT.out; omega
          · have hmn : ¬ (i : Int) + 64 ≤ (D.size : Int) := by rw [HT.out]; omega
            have hsl := strsl D i e (i : Int) ((D.size : Int)) hi0 (by rw [HT.out] at *; omega) (by rw [HT.out] at *; omega) (by omega) (by rw [HT.out] at *; omega)
            have hslA := strslAt D i e (i : Int) ((D.size : Int)) hi0 (by rw [HT.out] at *; omega) (by rw [HT.out] at *; omega) (by omega) (by rw [HT.out] at *; omega)
            have hT : armTo lab d (j + 1) = (armTo lab d j ++ (d.drop (64 * j)).take 64) ++ [10] := by rw [armTo_succ lab (by have := HIJ.out; omega), List.append_assoc]
            have hr1 : ∀ x ∈ armTo lab d j ++ (d.drop (64 * j)).take 64, 0 ≤ x ∧ x < 256 := fun x hx => HAR.out (j + 1) x (by rw [hT]; exact List.mem_append.2 (.inl hx))
            obtain ⟨S, hS⟩ : ∃ S, txt (armTo lab d j) = S := ⟨_, rfl⟩
            rw [hS] at hsz hin ⊢
            obtain ⟨q, hq⟩ : ∃ q, D.extract i e = q := ⟨_, rfl⟩
            rw [hq] at hsl hslA hxi hxz
            have hb1 := fun w : World => str_cat (P := Tryz.prog) S q (armTo lab d j ++ (d.drop (64 * j)).take 64) (by rw [hin, hxi]) (by omega) w
            have hz2 : (txt (armTo lab d j ++ (d.drop (64 * j)).take 64)).size ≤ 2000064 := by
              rw [tsz, List.length_append, ← hin, ← hxi, ints_len, ints_len]
              omega
            have hi2 := ints_txt hr1
            obtain ⟨S1, hS1⟩ : ∃ S1, txt (armTo lab d j ++ (d.drop (64 * j)).take 64) = S1 := ⟨_, rfl⟩
            rw [hS1] at hb1 hz2 hi2
            have hb2 := fun w : World => str_cat (P := Tryz.prog) S1 ⟨#[10]⟩ (armTo lab d (j + 1)) (by rw [hi2, hT]; rfl) (by show S1.size + 1 ≤ _; omega) w
            clear h64 hS hq hS1 hT hr1 hxi hxz hin hsz hz2 hi2 hlt he hdi
            go_wp2_with fail
            go_roundg (d.length + 64 - (i + 64))
            case rel => exact ⟨j + 1, i + 64, by have := HIJ.out; omega, by have := HLT.out; omega, rfl, rfl, by go_num, rfl⟩
            case measure => have := HGK.out; have := HLT.out; omega
        · have hli : ¬ (i : Int) < (D.size : Int) := by rw [HT.out]; omega
          have hE : armTo lab d j ++ (endL lab ++ [10]) = armL lab ys := by
            rw [← HDE.out]
            exact armTo_end lab ys (by rw [HDE.out]; have := HIJ.out; omega)
          rw [end_txt] at hE
          have hr1 : ∀ x ∈ armTo lab d j ++ [45, 45, 45, 45, 45, 69, 78, 68, 32], 0 ≤ x ∧ x < 256 := by
            intro x hx
            rcases List.mem_append.1 hx with hx | hx
            · exact HAR.out j x hx
            · simp at hx; omega
          have hr2 : ∀ x ∈ (armTo lab d j ++ [45, 45, 45, 45, 45, 69, 78, 68, 32]) ++ lab, 0 ≤ x ∧ x < 256 := by
            intro x hx
            rcases List.mem_append.1 hx with hx | hx
            · exact hr1 x hx
            · exact HLR.out x hx
          have hz0 : (armTo lab d j).length ≤ 2000000 := by rw [← tsz]; exact hsz
          obtain ⟨S, hS⟩ : ∃ S, txt (armTo lab d j) = S := ⟨_, rfl⟩
          rw [hS] at hsz hin ⊢
          have hb1 := fun w : World => str_cat (P := Tryz.prog) S ⟨#[45, 45, 45, 45, 45, 69, 78, 68, 32]⟩ (armTo lab d j ++ [45, 45, 45, 45, 45, 69, 78, 68, 32]) (by rw [hin]; rfl) (by show S.size + 9 ≤ _; omega) w
          have hz2 : (txt (armTo lab d j ++ [45, 45, 45, 45, 45, 69, 78, 68, 32])).size ≤ 2000009 := by rw [tsz, List.length_append]; simp only [List.length_cons, List.length_nil]; omega
          have hi2 := ints_txt hr1
          obtain ⟨S1, hS1⟩ : ∃ S1, txt (armTo lab d j ++ [45, 45, 45, 45, 45, 69, 78, 68, 32]) = S1 := ⟨_, rfl⟩
          rw [hS1] at hb1 hz2 hi2
          have hb2 := fun w : World => str_cat (P := Tryz.prog) S1 s ((armTo lab d j ++ [45, 45, 45, 45, 45, 69, 78, 68, 32]) ++ lab) (by rw [hi2, HLA.out]) (by have := HZ.out; omega) w
          have hz3 : (txt ((armTo lab d j ++ [45, 45, 45, 45, 45, 69, 78, 68, 32]) ++ lab)).size ≤ 3000009 := by rw [tsz]; simp only [List.length_append, List.length_cons, List.length_nil]; have := HZI.out; have := HZ.out; omega
          have hi3 := ints_txt hr2
          obtain ⟨S2, hS2⟩ : ∃ S2, txt ((armTo lab d j ++ [45, 45, 45, 45, 45, 69, 78, 68, 32]) ++ lab) = S2 := ⟨_, rfl⟩
          rw [hS2] at hb2 hz3 hi3
          have hb3 := fun w : World => str_cat (P := Tryz.prog) S2 ⟨#[45, 45, 45, 45, 45, 10]⟩ (armL lab ys) (by rw [hi3, ← hE]; show _ ++ [45, 45, 45, 45, 45, 10] = _; simp only [List.append_assoc]) (by show S2.size + 6 ≤ _; omega) w
          clear hS hS1 hS2 hE hr1 hr2 hz0 hz2 hz3 hi2 hi3 hin hsz hlt
          go_wp2_with fail
          go_ret
          exact ⟨rfl, HP.out⟩
end Go.Proofs.YtnnonidiogoffaaGreatDoor
