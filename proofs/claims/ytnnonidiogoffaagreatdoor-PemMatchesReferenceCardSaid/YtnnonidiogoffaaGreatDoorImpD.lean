/- Contracts of the program's base64: Encode. -/
import Derived.Test.YtnnonidiogoffaaGreatDoorImpC
namespace Go.Proofs.YtnnonidiogoffaaGreatDoor
open Go.RowKit

theorem bytesOf_cells {xs : List Int} (h : ∀ x ∈ xs, 0 ≤ x ∧ x < 256) : Lib.byteCells (Lib.bytesOf xs) = xs.map (Value.int .u8) := by
  unfold Lib.byteCells Lib.bytesOf
  rw [List.map_map]
  refine List.map_congr_left fun x hx => ?_
  have := h x hx
  simp only [Function.comp]
  rw [UInt8.toNat_ofNat']
  congr 1
  omega
theorem strCells_txt {xs : List Int} (h : ∀ x ∈ xs, 0 ≤ x ∧ x < 256) : Lib.strCells (txt xs) = xs.map (Value.int .u8) := by
  rw [Lib.strCells_eq]
  exact bytesOf_cells h

theorem take_group (xs : List Int) (q m : Nat) (hm : m = min 3 (xs.length - 3 * q)) : xs.take (3 * (q + 1)) = xs.take (3 * q) ++ (xs.drop (3 * q)).take m := by
  rw [show 3 * (q + 1) = 3 * q + 3 by omega, List.take_add]
  congr 1
  rw [List.take_eq_take_iff]
  simp
  omega
theorem renc_group {al : Int} (h : isAl al = true) (part : List Int) (m : Nat) (hm0 : 1 ≤ m) (hm3 : m ≤ 3) : renc al part m = rdigs al part (8 * m) (m + 1) ++ List.replicate (if al = 1 then 3 - m else 0) 61 := by
  have e1 : nsix m = m + 1 := by unfold nsix; omega
  rw [renc_al h, e1]
  congr 2
  unfold npad
  split <;> omega
theorem renc_next {al : Int} (h : isAl al = true) (xs : List Int) (q m : Nat) (hm : m = min 3 (xs.length - 3 * q)) (hlt : 3 * q < xs.length) :
    renc al (xs.take (3 * (q + 1))) (xs.take (3 * (q + 1))).length = renc al (xs.take (3 * q)) (xs.take (3 * q)).length ++ (rdigs al ((xs.drop (3 * q)).take m) (8 * m) (m + 1) ++ List.replicate (if al = 1 then 3 - m else 0) 61) := by
  rw [take_group xs q m hm, renc_join al _ _ q (by simp; omega)]
  congr 1
  have e : ((xs.drop (3 * q)).take m).length = m := by simp; omega
  rw [e, renc_group h _ m (by omega) (by omega)]

theorem eqs_cells (m : Nat) (h0 : 1 ≤ m) (h3 : m ≤ 3) : Lib.strCells ((⟨#[61, 61]⟩ : ByteArray).extract 0 (3 - m)) = (List.replicate (3 - m) (61 : Int)).map (Value.int .u8) ∧ ((⟨#[61, 61]⟩ : ByteArray).extract 0 (3 - m)).size ≤ 2 := by
  have : m = 1 ∨ m = 2 ∨ m = 3 := by omega
  rcases this with rfl | rfl | rfl
  · exact ⟨by kernel_rfl, by decide⟩
  · exact ⟨by kernel_rfl, by decide⟩
  · exact ⟨by kernel_rfl, by decide⟩

set_option maxRecDepth 100000 in
set_option maxHeartbeats 1000000 in
theorem pencode_any (al : Int) (A : Option Addr) (n c : Nat) (xs : List Int) (w : World) (hS : Sl w A n c xs) (hn : n ≤ 1000000) :
    Calls Tryz.prog 28 #[.int .i64 al, .slice A n c] w fun e w' => e = .returned (.string (txt (renc al xs n))) ∧ Past w w' := by
  have HD := Lib.hid (digits_any al w)
  have HS := Lib.hid hS
  clear hS
  cases h : isAl al with
  | false =>
    have he : renc al xs n = [] := by unfold renc; rw [if_pos h]
    rw [he]
    rw [dstr_no h] at HD
    clear h he
    go_enter Tryz.func28, Tryz.ntmps28
    go_wp2_with fail
    refine HD.out.mono ?_
    rintro e w1 ⟨rfl, rfl⟩
    go_wp2_with fail
    go_ret
    exact ⟨rfl, Below.refl _ _⟩
  | true =>
    have hq := eqs_size (s := dstr al) (by rw [dstr_size h]; omega)
    have HG := Lib.hid (writeGroup_any al h)
    have HL := Lib.hid (length_any al n (by omega))
    have hrl : rlen al n ≤ 2000000 := by
      unfold rlen
      repeat' split
      all_goals omega
    generalize hds : dstr al = ds at *
    generalize rlen al n = ln at *
    go_enter Tryz.func28, Tryz.ntmps28
    go_wp2_with fail
    refine HD.out.mono ?_
    rintro e w1 ⟨rfl, rfl⟩
    go_wp2_with fail
    refine (HL.out _).mono ?_
    rintro e w2 ⟨rfl, rfl⟩
    go_wp2_with fail
    have hnew := heap_alloc_new w (Obj.cells #[Value.pointer none, Value.slice none 0 0] 82)
    have HP0 : Hid (Past w (w.alloc (Obj.cells #[Value.pointer none, Value.slice none 0 0] 82))) := (Below.refl _ _).alloc (Nat.le_refl _) _
    refine (Tryz.Builder_Grow_fresh w.heap.size w.heap.size ln _ (Nat.le_refl _) hnew HP0.out.size (by omega)).mono ?_
    rintro e w3 ⟨rfl, h1, h2⟩
    have HB : Hid (Lib.IsBuilderF 82 5 w.heap.size w.heap.size ((renc al (xs.take (3 * 0)) (xs.take (3 * 0)).length).map (Value.int .u8)) w3 ∧ Past w w3) := by
      refine ⟨?_, HP0.out.trans h2⟩
      have : renc al (xs.take (3 * 0)) (xs.take (3 * 0)).length = [] := by
        rw [renc_al h]
        simp [rdigs, npad, nsix]
      rw [this]
      exact Lib.IsBuilderF.of (.inr h1)
    clear h1 h2 hnew HP0 hrl
    go_wp2_with fail
    go_loopg [7] ((n + 2) / 3) (fun k s7 wx => ∃ q : Nat, q ≤ (n + 2) / 3 ∧ k = (n + 2) / 3 - q ∧ s7 = .int .i64 (3 * (q : Int)) ∧ Hid (Lib.IsBuilderF 82 5 w.heap.size w.heap.size ((renc al (xs.take (3 * q)) (xs.take (3 * q)).length).map (Value.int .u8)) wx ∧ Past w wx))
    case atStart => exact ⟨0, Nat.zero_le _, rfl, rfl, HB⟩
    case round =>
      clear HB
      obtain ⟨q, hq3, hgk, rfl, HQ⟩ := hrel
      have HGK := Lib.hid hgk
      clear hgk
      by_cases hlt : 3 * q < n
      · obtain ⟨m, hm⟩ : ∃ m, m = min 3 (n - 3 * q) := ⟨_, rfl⟩
        have hm0 : 1 ≤ m := by omega
        have hm3 : m ≤ 3 := by omega
        obtain ⟨cb, co, rfl, _⟩ := HS.out.bytes (by omega)
        have hcut := (HS.out.past HQ.out.2).cut (i := 3 * q) (m := m) (by omega)
        rw [if_neg (by omega), Option.map_some, add_none] at hcut
        have hmm : (min (3 * (q : Int) + 3) (n : Int)).toNat - 3 * q = m := by omega
        have hle := renc_len h (xs.take (3 * q)) (xs.take (3 * q)).length
        have hlt3 : (xs.take (3 * q)).length ≤ 1000000 := by simp; omega
        have hle2 : (renc al (xs.take (3 * q)) (xs.take (3 * q)).length).length ≤ 9000000 := by
          rw [hle]
          split <;> omega
        clear hle hlt3
        have hcp := HS.out.cap
        have hbg := HS.out.big
        unfold maxLen at hbg
        have HCUT := Lib.hid hcut
        clear hcut
        have HM := Lib.hid hm
        clear hm
        rcases al_cases h with rfl | rfl
        · go_wp2_with fail
          have hle3 : ((renc 1 (xs.take (3 * q)) (xs.take (3 * q)).length).map (Value.int .u8)).length ≤ 10000000 := by rw [List.length_map]; omega
          have HC := HG.out w.heap.size w.heap.size _ (some ⟨cb, co + 3 * q, none⟩) m m _ wr HQ.out.1 hle3 HQ.out.2.size HCUT.out hm0 hm3
          refine HC.mono ?_
          rintro e w4 ⟨rfl, h1, h2⟩
          have HQ1 := Lib.hid (And.intro h1 (HQ.out.2.trans h2))
          clear h1 h2 HQ
          have HES := Lib.hid (eqs_cells m hm0 hm3)
          go_wp2_with fail
          generalize (⟨#[61, 61]⟩ : ByteArray).extract 0 (3 - m) = es at *
          refine (writeString_k w.heap.size w.heap.size _ es w4 HQ1.out.1 (by have := HES.out.2; simp only [List.length_append, List.length_map, rdigs_len]; omega) HQ1.out.2.size).mono ?_
          rintro e w5 ⟨rfl, h1, h2, _⟩
          have HQ2 : Hid (Lib.IsBuilderF 82 5 w.heap.size w.heap.size ((renc 1 (xs.take (3 * (q + 1))) (xs.take (3 * (q + 1))).length).map (Value.int .u8)) w5 ∧ Past w w5) := by
            rw [renc_next h xs q m (by rw [HS.out.len]; exact HM.out) (by rw [HS.out.len]; exact hlt), if_pos rfl, List.map_append, List.map_append, ← List.append_assoc]
            rw [HES.out.1] at h1
            exact ⟨.inr h1, HQ1.out.2.trans h2⟩
          clear h1 h2 HQ1
          go_wp2_with fail
          go_roundg ((n + 2) / 3 - (q + 1))
          case rel => exact ⟨q + 1, by omega, rfl, by first | go_num | (congr 1; omega), HQ2⟩
          case measure => have := HGK.out; omega
        · go_wp2_with fail
          have hle3 : ((renc 2 (xs.take (3 * q)) (xs.take (3 * q)).length).map (Value.int .u8)).length ≤ 10000000 := by rw [List.length_map]; omega
          have HC := HG.out w.heap.size w.heap.size _ (some ⟨cb, co + 3 * q, none⟩) m m _ wr HQ.out.1 hle3 HQ.out.2.size HCUT.out hm0 hm3
          refine HC.mono ?_
          rintro e w4 ⟨rfl, h1, h2⟩
          have HQ2 : Hid (Lib.IsBuilderF 82 5 w.heap.size w.heap.size ((renc 2 (xs.take (3 * (q + 1))) (xs.take (3 * (q + 1))).length).map (Value.int .u8)) w4 ∧ Past w w4) := by
            rw [renc_next h xs q m (by rw [HS.out.len]; exact HM.out) (by rw [HS.out.len]; exact hlt), if_neg (by decide), List.replicate_zero, List.append_nil, List.map_append]
            exact ⟨h1, HQ.out.2.trans h2⟩
          clear h1 h2 HQ
          go_wp2_with fail
          go_roundg ((n + 2) / 3 - (q + 1))
          case rel => exact ⟨q + 1, by omega, rfl, by first | go_num | (congr 1; omega), HQ2⟩
          case measure => have := HGK.out; omega
      · have HE : Hid (Lib.IsBuilderF 82 5 w.heap.size w.heap.size (Lib.byteCells (Lib.bytesOf (renc al xs n))) wr ∧ Past w wr) := by
          have e : xs.take (3 * q) = xs := List.take_of_length_le (by rw [HS.out.len]; omega)
          rw [bytesOf_cells (renc_rng _ _ _)]
          have h1 := HQ.out.1
          rw [e, HS.out.len] at h1
          exact ⟨h1, HQ.out.2⟩
        clear HQ
        go_wp2_with fail
        refine (Tryz.Builder_String_any_k w.heap.size w.heap.size _ wr HE.out.1 HE.out.2.size).mono ?_
        rintro e w4 ⟨rfl, _, h2, _⟩
        have HP := Lib.hid (HE.out.2.trans h2)
        clear h2 HE
        go_wp2_with fail
        go_ret
        exact ⟨rfl, HP.out⟩

end Go.Proofs.YtnnonidiogoffaaGreatDoor
